import PyProof.Rows.All
import Wide.All
import OpenK.AllK
import Wide.FinOn
import Lean
import PyProof.EqAt
import PyProof.EqKinds
import PyProof.TupleCall
import KE.KLam
import KE.KTryMore
import KE.KIsAll
import PyProof.NeKinds
import PyProof.Rows.CountFlat
import PyProof.Rows.FStr
import PyProof.ZipIter
import PyProof.EnumMake
import PyProof.EnumStmt
import KE.KDictLaws
import PyProof.DictWalks
import PyProof.Rows.SetFrom
import PyProof.SumWalkG
import PyProof.Rows.SumGenD
import PyProof.SeqI2
import KE.KItemsList
import PyProof.SetKind
import PyProof.TupleKey
import KE.KSortTup
import PyProof.ReprRoads
import PyProof.ReprBulk
import PyProof.TupleOfSeq
import PyProof.WalkInts
import PyProof.SeqI3
import PyProof.Rows.RuleDivmod
import PyProof.ListRange
import KE.KPairComp
import KE.KMinKey
import PyProof.Rows.CallKwBuiltin
import PySem.Challenge.RW_fewdistances_k63_hubs_of_lots
set_option Elab.async false
set_option linter.all false
set_option maxRecDepth 100000
set_option maxHeartbeats 0
set_option tactic.hygienic false
set_option bootstrap.genMatcherCode false
set_option genSizeOf false
set_option compiler.extract_closed false
open Array renaming getElem?_toList->By,length_toList->Df,getElem?_eq_some_iff->Dv,getElem?_eq_getElem->Eb,toList_push->Hx,getD->Iu,mem_toList_iff->Ob,getD_eq_getD_getElem?->Pq,getElem?_eq_none->Ub,size_map->Vc,toList_append->Ws,forIn_toList->Xd,toList->Xj
open Array.Perm renaming refl->Ly
open Bool renaming and_eq_true->Au,false_eq_true->Bu,noConfusion->Cr,and_eq_true_iff->Fc,false_ne_true->Gc,false_and->Hg,and_false->Kq,not_true->Ll,or_eq_true->Ol,not_eq_true'->Qt,eq_iff_iff->Tz,and_true->Wh,not_false->Aa1,true_and->AaB
open Classical renaming byContradiction->Fv,choose_spec->Ke,choose->Ky
open False renaming elim->Ao
open ForInStep renaming yield->Jz
open Int renaming toNat_natCast->Fn,le_refl->Io,emod_lt_of_pos->Ju,emod_nonneg->Lw,not_lt->Ph,le_trans->Sy,le_of_lt->Sz,le_antisymm->f8
open List renaming getElem?_eq_getElem->An,length_map->Aq,mem_cons->Aw,size_toArray->Ay,getElem?_eq_some_iff->Az,all_eq_true->Be,prefix_refl->Bh,mem_of_getElem?->Bk,mem_append_right->Bp,mem_map->Bz,not_mem_nil->Ca,getElem?_append_left->Cb,mem_cons_of_mem->Cc,mem_iff_getElem->Cd,range->Cg,length_cons->Ch,length_append->Cj,mem_append->Cp,replicate->Cw,mem_cons_self->Cz,getElem?_map->Dc,mem_append_left->Dh,getElem?_append_right->Di,mem_singleton->Dl,pairwise_map->Dr,getElem?_set_ne->Dx,getElem?_set_self->Ed,map_cons->Ee,mem_range->Ei,pairwise_cons->Ej,contains_iff_mem->Ew,length_nil->Ez,map_map->Fg,append_assoc->Fl,getD_eq_getElem?_getD->Fo,prefix_append->Fq,map_append->Fx,filterMap_cons->Gm,replicate_succ->Gq,getD->Gs,append_nil->Gx,mem_filterMap->Hc,nil_append->Hn,getElem_mem->Hr,flatten_cons->Hv,length_range->Hw,map_congr_left->Hz,length_take->Ia,zip_cons_cons->Ih,length_filter_le->Ip,find?_cons->Ix,nodup_append->Ja,pairwise_iff_getElem->Jc,length_drop->Jj,lookup_cons->Jl,length_pos_iff->Jo,any_eq_true->Jp,length_eq_zero_iff->Jq,all_map->Jr,nodup_cons->Jw,any_cons->Jy,mem_iff_getElem?->Kc,flatMap_cons->Kk,pairwise_append->Kv,cons_append->Kz,of_mem_zip->Lp,foldl_cons->Lr,lookup->Ls,forIn_cons->Lv,getElem?_replicate->Md,toArray->Mh,forIn_nil->Mn,range_succ_eq_map->Ng,length_singleton->No,getElem?_eq_none->Nq,ext_getElem->Nw,getElem_map->Ny,countP_mono_left->Nz,map_fst_zip->NE,countP_map->Om,eq_nil_of_length_eq_zero->Oq,append_toArray->Pb,perm_ext_iff_of_nodup->Qg,map_id->Qi,drop_eq_getElem_cons->Qs,getElem?_zip_eq_some->Qv,all_cons->Qw,getElem?_eq_none_iff->Rg,getElem?_take_of_lt->Rj,length_erase_of_mem->Rr,length_filterMap_le->Rw,prefix_iff_getElem?->Rx,getElem_inj->Rz,pairwise_mergeSort->Sw,mem_filter->Ti,length_set->Tl,drop_eq_nil_of_le->Ts,find?_cons_of_neg->Tv,length_pos_of_mem->T0,length_zip->Uc,mem_erase_of_ne->Vo,length_eraseIdx->Vp,range_eq_range'->Vt,mem_of_mem_drop->Vu,Nodup->Wk,mem_map_of_mem->Wr,lookup_append->Xb,mergeSort_nil->Xf,filter_append->Xg,set_cons_succ->Xh,set_cons_zero->Xi,map_nil->Xl,length->Yz,zipIdx_cons->Zf,nodup_range->Zj,countP_cons->Zn,range'_succ->Zq,zipIdx_nil->Zw,range_succ->sB,foldl->v4,nodup_nil->Aa0,map_drop->AaE
open List.Pairwise renaming nil->Mv,imp_of_mem->Rq
open List.Perm renaming append_left->Uo,refl->Vf,swap->Aa2,map->AaF
open Nat renaming le_refl->AT,lt_of_lt_of_le->Bm,ne_of_lt->Bv,le_trans->Cq,le_of_ble_eq_true->Dd,lt_irrefl->Dp,le_of_lt->Fy,ne_of_gt->Gv,zero_le->Gy,lt_succ_self->Ib,not_lt->Ir,le_succ->Jk,le_add_right->Jm,le_of_lt_succ->Kg,lt_trichotomy->Ki,lt_succ_of_lt->Kj,min_eq_left->Lz,lt_trans->Mf,succ_pos->Mi,mod_lt->Pd,lt_of_le_of_lt->Py,add_right_comm->Pz,mul_lt_mul_of_lt_of_le->Qj,le_of_not_lt->Sd,min_self->So,ble_eq_true_of_le->Us,eq_of_beq_eq_true->Ut,mul_le_mul->Vj,zero_add->Xs,succ_ne_self->Zp,min_eq_right->Zr,noConfusion->Zv
open Nat.succ renaming inj->AaI
open Ne renaming symm->El
open Option renaming some->Ab,map_eq_some_iff->De,bind_eq_some_iff->Ey,isSome_iff_exists->Je,getD_some->Nr,map_some->Op,isSome_map->Qq,bind_some->Sk,isSome_some->WP,getD_none->Zc,none->AaN
open Option.some renaming inj->Co
open Or renaming inr->Ze,inl->Aa3
open Prod renaming ext->Zu
open PyProof.Rows renaming step_dedup->Cs,seqObj->Dj,slot_tuple_getitem->Do,envOfC->Gj,callWith_type1->Hi,get?_update_seq->Iy,IntsAre->Ji,callWith_builtin1->Js,subscriptTail_builtinR->Nc,IsTup->Nj,AllBare->Nk,lt_int->Ox,entry_tuple_getitem->Oy,slicePart_none->Pj,assignInOrder_cons->Pu,args_tuple_getitem->Pv,subscriptTail->Qp,Subscript_->Sc,isBoolOf->Tw,entry_list_sort->Ud,slot_list_sort->Vg,args_list_sort->Vh,tupleItemsOf_->Wc,slot_tuple_getitem->Wz,plain_sorted->Xv,entry_sorted->Xw,args_sorted1->Xx,assignInOrder_nil->Xz,kind_sorted->Zo
open PyProof.Rows.F renaming plain_set_update_loop->Ig,entry_set_update_loop->Lx
open PyProof.Rows.IntsAre renaming int_at->Pr
open PyProof.Rows.IsTup renaming new->XV
open PySem renaming Value->Ac,wpAny_bind->Ad,Addr->Af,Shared->Ah,wpAny_pure->Ak,wpAny->Ap,model->As,Str->Av,Program->Bd,intKind->Bi,Heap->Bj,starEach->Bl,Around->Bo,tupleKeyHash->Bq,Expr->Br,World->Bt,Obj->Ci,mainGlobals->Cm,wpAny_holding->Ct,compareOp->Cu,wpAny_newObj_type->Dg,wpAny_field->Du,cLine->Dw,wpAny_callSpecial?_slot->Dy,wpAny_call_entry->Dz,argBest->Ec,binaryOp->Ek,Scope->Em,wpAny_seqItems->Ep,Comprehension->Et,sizeLine_eq->Ev,Pos->Ex,codeAny_builtin->EQ,Stmt->Fa,foldedSetIterable->Fb,wpAny_setField_rec->Fe,mem_of_lookup->Fk,wpAny_pyIter_list->Fm,FuncData->Ft,SetTable->Fw,wpAny_setState_of->Ga,bootBuiltins->Gb,wpAny_Call_Name_kw->Gd,backTo->Ge,rawInt->Gf,wpAny_mono->Gn,codeAny->Go,plainId_quiet->Gu,wpAny_pyIter_tuple->Hd,assignEach->Hf,wpAny_tryCatch->Hk,Builtin->Hl,cellsFrom->Hq,wpAny_letGo->Hs,NameKind->Ht,wpAny_updateSeq->Hy,Env->HT,IsPair->Im,codeAny_mono->Iq,wpAny_passesOwn->Iw,wpAny_attempt->Jb,sysModules->Jh,wpAny_askSetting->Jn,letOwnedTupleGo->Jv,wpAny_rule->Kb,getItem->Ko,wpAny_typeOf->Ks,codeAny_call_builtin->Ku,wpAny_forIn_list->Kw,swappedStores->Lc,swapsWithSole->Ld,wpAny_standAt->Le,behindInMarks->Lf,Arguments->Lg,call_meets->Lh,TriplesOk->Li,wpAny_execs_nil->Lo,sliceBounds->Lq,wpAny_of_eq->Lu,tupleKind_room_in1->Mc,pyNext->Mk,recursionLimit->Mm,wpAny_setField->Mo,Model->Mr,wpAny_truthy_bool->Ms,swapsWith->Mw,ofAClassStatement->My,wpAny_storeSet_of->Mz,bindArgs->Na,wpAny_call->Nd,pyIter->Nl,BindsTo->Nm,wpAny_isInstance->Nv,Sem->Oa,wpAny_updateSeq_pair->Od,PassesOwn->Og,codeAmong->Oh,codeAny_of_tree->Oo,pickOrder->Os,builtinsNs->Ow,IsTupleKey->Pe,Tok->Pi,firstArgMember->Pl,IsZip->Pm,wpAny_newFunctionEnv_cells->Qc,IsPart->Qe,hashByValue->Qh,tupleKind->Qk,wpAny_sequenceKey->Qo,callerA->Qr,attributeBase->Qx,wpAny_onRaise->Qz,setSearchFrom->Rb,wpAny_newList->Rf,wpAny_comprehension_free->Ro,Result->Sa,noFill_tuple_add->Sb,checkBuiltinCall->Se,closureFor->Sf,defaultsOf->Sj,richCompare_meets_room->Tj,valueAt->Tn,wpAny_specialOf->To,standAt->Tq,wpAny_ite_split->Ua,CmpOp->Uf,codeAny_call_function->Ug,seqIndex?->Ui,noteFrame->Uj,IsEnum->Uk,weight_type_call_type->Um,builtinLookup_eq_fast->Uq,wpAny_newTuple->Uz,isSubtype_stop->Va,newFunctionEnv->Vb,wpAny_runValue->Vd,isSubtype_type->Ve,wpAny_loadName_local->Vk,wpAny_newFunctionEnv->Vr,wpAny_Name->Vw,assignInOrder->Vx,bindL->Vz,bindC->Wa,seq_tuple_add->Wb,evalPart_none->Wd,atKey->Wf,intKind_is->Wm,wpAny_setEntries_of->Wp,bindName->Wt,setState->Wu,wpAny_Constant_int->Ww,concat_meets->Xk,call_meetsIn->Xm,wpAny_assign_Name->Xy,slot_list_getitem->Yd,list_append->Ye,lastMarks->Yf,ClassData->Yg,setFlight->Yh,pushCells->Yj,wpAny_pyIter_enum->Yk,searchCouldBeSeen->Yn,wpAny_pyIter_slot->Yo,wpAny_collect_seq->Yr,wpAny_eqBool_int->Yt,wpAny_execs_cons->Yu,unaryOp->Yv,richCompare->Za,seqIndex_of->Zb,wpAny_pyIter_zip->Zi,setAdd->Zk,check_set_init_1->Zl,argsOk->Zm,GenState->Zs,pushCells_keeps->Zx,wpAny_stack_any->Zy,typeLookup_type->ZB,typeLookup->t0,typeIs_int->u8,call->v6,setsByText->wS,checkCount->xL,Within->AaH,isTrue->AaK
open PySem.Around renaming under_plainId->Eo,frames_deeper->Oc,under_plain->Xe
open PySem.AutoSeq1 renaming wpAny_loadPart'->Ha,sub_tuple_tuple->Rk
open PySem.Builtin.Builtins renaming bindParams->Ps
open PySem.Builtin.Frozenset renaming updateFrom->Pg,sizeOf->Ru,newClass->Aa5
open PySem.Builtin.Getset_descriptor renaming descrCheckInstance->Tf,descrNameAndClass->Tt,descrGetter->Wg,descrGet->Xp
open PySem.Builtin.List renaming listTooLong->Ma,listLengthHint->Po,listExtendWith->Pp,listSameRef->Rv
open PySem.Builtin.ObjectAttr renaming bindTo->Qu,dataDescriptor?->Xo,getOf->AaG,find->AaJ
open PySem.Builtin.Slice renaming sliceAdjust->Fu,slicePlaces->Gp,sliceApplied->Ik,sliceFields->Qn,slicePartIndex->sK
open PySem.Builtin.SmallTypes renaming nextOf->Ea,ownedTupleIsFree->Es,ownedTupleHandOut->Gz
open PySem.Builtin.Tuple renaming tupleExact->Fi,tupleItemsOf->Kx,tupleCompareSizes->Nn
open PySem.Calls renaming spliced_cons->Jt,call_function_entry->Ln,spliced_nil->Mu,Name_function_global->Qb,callWith_builtin->Tu,evalArgs_plain->Vn
open PySem.Challenge renaming pw_fewdistances_k63_hubs_of_lots->Rh,rw_fewdistances_k63_hubs_of_lots->Ri
open PySem.Code renaming quiet_builtin->Px
open PySem.F renaming called_set->Dm,plain_min_loop->Gh,plain_max_loop->Gi,slot_tuple_iterator_next->Il,slot_enumerate_next->Kf,args_tuple_add_2->L2,entry_tuple_add->Me,slot_list_count->Mg,plainAttrs_dict->Mj,slot_tuple_add->Nb,entry_min_loop->Nh,entry_max_loop->Ni,slot_dict_get->Np,slot_zip_next->On,args_tuple_iterator_next_1->Pc,entry_tuple_iterator_next->Pk,excBase_ValueError->Qf,args_list_count_2->Qy,entry_list_count->Rm,type_list_append->Ry,args_tuple_lt_2->Sl,args_dict_get_3->Sm,attr_ValueError->Sn,slot_list_index->Sr,args_enumerate_next_1->Ss,entry_type_call->Su,plain_list_iadd->Sx,slot_dict_items->Ta,plainAttrs_list->Tc,type_list_count->Td,type_list_index->Te,entry_tuple_lt->Tk,entry_dict_get->Tp,entry_enumerate_next->Tx,typeCall_set_1->TD,entry_set_init->TW,slot_tuple_lt->Uh,plain_set_new->Ul,slot_set_iter->Ur,type_dict_get->Uu,type_list_pop->Uv,args_list_append_2->Vm,entry_list_append->We,slot_list_append->WF,args_zip_next_1->Yi,entry_zip_next->Zh,slot_int_rmul->Zz
open PySem.Heap renaming get?_push_of_some->Ag,lt_size->Ax,get?_push_size->Ba,get?_update_other->Bg,size_push->Dk,get?_update_self->DL,SameBut->Fd,get?_none_of_le->Jd,FlyingW->Ou,MadeExcOf->Uy,IsTuple->Xq,IsList->Zg
open PySem.Heap.IsSliceOf renaming new->Wy
open PySem.Heap.SameBut renaming update->Hm,refl->Ra
open PySem.IsL renaming update->Zd
open PySem.MeetsSeq renaming list_index->Aa9,EqGives->AaM
open PySem.NameKind renaming free->Gr,cell->Nt
open PySem.Obj renaming mapSeq->Eg,mapFields->Wn,data_mapFields->Xc,putSet->wP
open PySem.P renaming add_list->Sg
open PySem.SeqAt renaming list_countAt->Rn,EqAt->wE
open PySem.SeqAt.EqAt renaming bool_bool->Aa4,same->Aa8
open PySem.SetTable renaming insertAt->Bw,below->Cf,sizeAbove->Ff,grown->Hj,runEnd->Ho,insertAt_perm->Ic,fill->Lj,Probe->Mx,toList_insertAt->Rp,tooFull->Si,laid->Wj,fits->Wl,has->Xr,layClean->Ym,slot->AaA
open PySem.SetTable.below renaming go->Yl
open PySem.SetTable.layClean renaming free->Ie
open PySem.SetTable.probe renaming go->Kh
open PySem.Shared renaming heap->Nu,TypeIs->Re
open PySem.Str renaming ofString->Fz
open PySem.Value renaming ref->Bs,none->Er,bool->Fp,type->Gk,int->Oe,str->Ue,notImplemented->Vl,isStrOf->Aa6,builtin->Aa7
open PySem.W renaming Frag->Aj,tabIn->Dq,nsIn->Ds,kia_one->En,keepIn->Fj,fnOf->Gw,kitx_list->IN,exmOne->Jf,cellsFrom_some->Jx,kla_obj->Ka,kitOne->Km,codeIn->Kn,tabObj->Kr,envX->Kt,kas_rev->Lm,kitx_tuple->Mb,findIn->Ml,kla_fn->Mp,kitx_dict->Mt,hideAll->Of,kas_sort->Ot,callWith_K->Pw,methodObj->Ql,nsMap_none_of_in->Rl,instObj->Th,CodeHd->Uw,lookIn->Ux,kitAny->Vi,kla_callFunE->Vq,kla_codeExpr->Vs,hideAll_get->Vv,mroIn->Vy,mg_of->Wq,of_hideAll->Wv,codeRec_of->Wx,isNs_of_in->Xa,looks_findIn->Xn,kas_descPart->Xu,specialIn->Ya,kitx_none->Yb,kitx_bool->Yc,kas_count->Yp,kas_place->Yq,plainGet->Yw,kitx_int->Yx,kitx_str->Yy,takesIn->Zt,kas_desc->dL,OpenLaw->o0,KasT->wT,nsOkIn->x0,WalkO->AaD
open PySem.W.KatTups renaming cons->AaL
open PySem.W.Looks renaming of_pure->AaC
open PySem.Walks renaming list->Wi
open PySem.pickOrder renaming go->Xt
open Sum renaming inl->Jg,inr->Tg
open Sum.inl renaming inj->Ys
open True renaming intro->Hu
open _root_ renaming List->Aa,Nat->Ai,Option->Al,Int->Am,Bool->Ar,if_pos->Bb,if_neg->Bc,Array->Bn,of_decide_eq_true->Bx,decide_eq_true_eq->Ce,decide_eq_false->Cn,decide_eq_true->Cy,if_true->Dt,String->Ef,if_false->Eh,or_false->Eu,False->Fh,beq_self_eq_true->Gg,of_decide_eq_false->He,True->Kl,Decidable->Mq,beq_eq_false_iff_ne->Ov,beq_iff_eq->Pa,Unit->Qm,not_or->Sh,decide_eq_false_iff_not->Sv
noncomputable section
theorem om {p:Prop}(h:p:=by omega):p:=h
theorem kd {p:Prop}[Mq p](h:p:=by decide +kernel):p:=h
section
namespace _L
open PySem PySem.Spec PyProof.Rows
abbrev Key:=Sum Am Av
def kZ:Key->Ac->Ar
 |.inl k,v=>Value.isInt k v
 |.inr x,v=>Aa6 x v
def OL (w:Bt):Key->Am
 |.inl k=>hashInt k
 |.inr x=>hashStr w x
theorem zS:∀ {k:Key} {v:Ac},kZ k v=true->(∃ i t,k=Jg i/\v=Oe i t)\/(∃ x t,k=Tg x/\v=Ue x t)
 |.inl i,v,h=>by
  obtain⟨t,e⟩:=Value.isInt_shape (k:=i) (v:=v) h;exact .inl ⟨i,t,rfl,e⟩
 |.inr x,v,h=>by
  obtain⟨t,e⟩:=Value.isStrOf_shape (x:=x) (v:=v) h;exact .inr ⟨x,t,rfl,e⟩
theorem X0 (i:Am)(t:Pi):kZ (.inl i) (.int i t)=true:=by simp[kZ,Value.isInt]
theorem X1 (x:Av)(t:Pi):kZ (.inr x) (.str x t)=true:=by simp[kZ,Aa6]
theorem LJ (a b:Am):decide ((Jg a:Key)=Jg b)=(a == b):=by
 by_cases e:a=b
 .subst e;simp
 .have h:¬ (Jg a:Key)=Jg b:=λq=>e (Ys q)
  rw[Cn h];exact(Ov.mpr e).symm
theorem LO (a b:Av):decide ((Tg a:Key)=Tg b)=decide (a=b):=by
 by_cases e:a=b
 .subst e;simp
 .have h:¬ (Tg a:Key)=Tg b:=λq=>e (Sum.inr.inj q)
  rw[Cn h,Cn e]
theorem LK (a:Am)(b:Av):decide ((Jg a:Key)=Tg b)=false:=Cn (λq=>nomatch q)
theorem LN (a:Av)(b:Am):decide ((Tg a:Key)=Jg b)=false:=Cn (λq=>nomatch q)
def zI (prog:Bd)(w:Bt):PySem.KeyKind prog w Key where
 is:=kZ
 hash:=OL w
 inj:=λv a b ha hb=>by
  rcases zS ha with⟨i,t,rfl,rfl⟩|⟨x,t,rfl,rfl⟩
  .rcases zS hb with⟨j,u,rfl,e⟩|⟨y,u,rfl,e⟩
   .injection e with e1 _;rw[e1]
   .exact nomatch e
  .rcases zS hb with⟨j,u,rfl,e⟩|⟨y,u,rfl,e⟩
   .exact nomatch e
   .injection e with e1 _;rw[e1]
 byValue:=λk v h=>by
  rcases zS h with⟨i,t,rfl,rfl⟩|⟨x,t,rfl,rfl⟩ <;> rfl
 pyHash:=λhv h=>by
  rcases zS hv with⟨i,t,rfl,rfl⟩|⟨x,t,rfl,rfl⟩
  .exact wpAny_pyHash_int h
  .exact wpAny_pyHash_str h
 eqBool:=λhu hv h=>by
  rcases zS hu with⟨i,t,rfl,rfl⟩|⟨x,t,rfl,rfl⟩
  .rcases zS hv with⟨j,u,rfl,rfl⟩|⟨y,u,rfl,rfl⟩
   .rw[LJ] at h;exact Yt h
   .rw[LK] at h;exact SeqAt.EqAt.int_str i t y u _ _ _ _ h
  .rcases zS hv with⟨j,u,rfl,rfl⟩|⟨y,u,rfl,rfl⟩
   .rw[LN] at h;exact SeqAt.EqAt.str_int x t j u _ _ _ _ h
   .rw[LO] at h;exact wpAny_eqBool_str h
 «strs»:=λk x t v h=>by
  rcases zS h with⟨i,u,rfl,e⟩|⟨y,u,rfl,e⟩
  .exact nomatch e
  .injection e with e1 _
   subst e1;cases v <;> rfl
theorem cG (prog:Bd)(w:Bt)(i:Am)(t:Pi):(zI prog w).is (.inl i) (.int i t)=true:=X0 i t
theorem cH (prog:Bd)(w:Bt)(x:Av)(t:Pi):(zI prog w).is (.inr x) (.str x t)=true:=X1 x t
end _L
namespace _L
open PySem PySem.Spec PyProof.Rows
variable {us:Aa Ac}{b:Af}
inductive V where
 |non|bl (b:Ar)|int (i:Am)|str (x:Av)|byt (b:Bn UInt8)|flt (b:UInt64)|ref (a:Af)|ty (n:Ef)
 deriving DecidableEq
def qI:V->Ac->Prop
 |.non,u=>u=Er
 |.bl b,u=>u=Fp b
 |.int i,u=>∃ t,u=Oe i t
 |.str x,u=>∃ t,u=Ue x t
 |.byt b,u=>∃ t,u=Value.bytes b t
 |.flt b,u=>∃ t,u=Value.float b t
 |.ref a,u=>u=Bs a
 |.ty n,u=>u=Gk n
abbrev qH:Aa V->Aa Ac->Prop:=Paired qI
theorem qH.length {xs:Aa V}(r:qH xs us):xs.length=us.length:=Paired.length r
theorem qH.get:∀ {xs:Aa V} {us:Aa Ac} {i:Ai} {x:V},qH xs us->xs[i]? = Ab x->∃ u,us[i]? = Ab u/\qI x u
 |_,_,_,_,.nil,e=>by simp at e
 |_,_,0,_,.cons r _,e=>by simp at e;subst e;exact⟨_,rfl,r⟩
 |_,_,i+1,x,.cons _ t,e=>by
  obtain⟨u,h1,h2⟩:=qH.get (i:=i) (x:=x) t (by simpa using e)
  exact⟨u,by simpa using h1,h2⟩
theorem qH.set {x:V}{u:Ac}(r:qI x u):∀ {xs:Aa V} {us:Aa Ac} (i:Ai),qH xs us->qH (xs.set i x) (us.set i u)
 |_,_,_,.nil=>.nil
 |_,_,0,.cons _ t=>.cons r t
 |_,_,i+1,.cons q t=>.cons q (qH.set r i t)
theorem qH.append {xs ys:Aa V}{ws:Aa Ac}(h:qH xs us)(s:qH ys ws):qH (xs++ys) (us++ws):=by
 induction h with
 |nil=>exact s
 |cons r t ih=>exact .cons r ih
theorem qH.take:∀ {xs:Aa V} {us:Aa Ac} (n:Ai),qH xs us->qH (xs.take n) (us.take n)
 |_,_,0,_=>.nil
 |_,_,_+1,.nil=>.nil
 |_,_,n+1,.cons r t=>.cons r (qH.take n t)
theorem qH.drop:∀ {xs:Aa V} {us:Aa Ac} (n:Ai),qH xs us->qH (xs.drop n) (us.drop n)
 |_,_,0,r=>r
 |_,_,_+1,.nil=>.nil
 |_,_,n+1,.cons _ t=>qH.drop n t
def vJ:Al V->Al Ac->Prop
 |some v,Ab u=>qI v u
 |none,none=>Kl
 |_,_=>Fh
def KV {κ:Type}:Aa (κ × V)->Aa (κ × Ac)->Prop:=Paired λ(p:κ × V) (q:κ × Ac)=>p.1=q.1/\qI p.2 q.2
def kV:Key->V
 |.inl i=>.int i
 |.inr x=>.str x
inductive HO where
  |lst (xs:Aa V)
  |tup (xs:Aa V)
  |dK (kvs:Aa (Key × V))|dT (kvs:Aa (Aa Key × V))
  |set (S:Am->Ar) (n:Ai)
  |ins (C dx:Af) (fs:Aa (Av × V))
  |own (x:Af)
  |xd (fs:Aa (Av × V))
  |met (f x:Af)
  |rng (lo hi:Am)
  |frz (o:Ci) (u:HO)
  |tbl (ps:Bn Ac)
  |ext (φ : Bj->Prop)
variable {u:HO}
abbrev Hp:=Af->Al HO
def upd (H:Hp)(a:Af)(o:HO):Hp:=λb=>if b=a then Ab o else H b
theorem qQ {H:Hp}{a:Af}{o:HO}:upd H a o a=Ab o:=by unfold upd;rw[Bb rfl]
theorem qJ {H:Hp}{a:Af}{o:HO}(h:b≠a):upd H a o b=H b:=by unfold upd;rw[Bc h]
theorem CF {H:Hp}{a:Af}{o:HO}(h:H a=Ab o)(h':H b=Ab u)(d:o≠u):a≠b:=by
 intro e;subst e;rw[h] at h';exact d (Co h')
theorem qP {H:Hp}{a:Af}{o:HO}(h:H a=Ab o)(h':H b=none):a≠b:=by
 intro e;subst e;rw[h] at h';cases h'
section
variable (P:Bd)(w:Bt)
def z9 (H:Hp)(h:Bj)(a:Af):HO->Prop
 |.lst xs=>xs.length<=sizeLine/\∃ (its:Aa Ac) (n:Ai),qH xs its/\h.get? a=Ab { cls:=.type "list",data:=.seq its.toArray n }
 |.tup xs=>xs.length<=sizeLine/\∃ its:Aa Ac,qH xs its/\Nj h a its.toArray
 |.dK kvs=>kvs.length<=sizeLine/\(a == Jh)=false/\∃ vs,KV kvs vs/\h.DictOf (zI P w) a vs
 |.dT kvs=>kvs.length<=sizeLine/\(a == Jh)=false/\∃ xs:Aa (Aa Key × Af × Ac),
   Paired (λ(p:Aa Key × V) (q:Aa Key × Af × Ac)=>p.1=q.1/\H q.2.1=Ab (.tup (p.1.map kV))/\qI p.2 q.2.2) kvs xs /\
   ∃ o es ep,h.get? a=Ab o/\o.ExactDict/\o.data=.dict es ep/\es.toList=xs.map (entryOfKey (Qk (zI P w)))/\(xs.map (·.1)).Nodup
 |.set S n=>h.SetOf (Bi P w) a S n
 |.ins C dx fs=>H dx=Ab (.own a)/\fs.length<=1000/\dx≠a/\h.get? a=Ab (Th C dx) /\
   ∃ mA,h.Ns1 dx mA/\(∀ f,vJ (fs.lookup f) (mA f))/\AaH mA (fs.map (·.1))
 |.own _=>∃ o,h.get? a=Ab o
 |.xd fs=>∃ mA,h.Ns1 a mA/\∀ f,vJ (fs.lookup f) (mA f)
 |.rng lo hi=>∃ t u v,h.get? a=Ab { cls:=.type "range",data:=.fields #[.int lo t,.int hi u,.int 1 v] }
 |.frz o u=>h.get? a=Ab o/\z9 H h a u
 |.tbl ps=>h.get? a=Ab { cls:=.none,data:=.fields ps }
 |.met f x=>h.get? a=Ab (Ql (.ref f) (.ref x))
 |.ext φ => φ h/\(∃ o,h.get? a=Ab o)/\∀ h1 h2:Bj,φ h1->(∀ o,h1.get? a=Ab o->h2.get? a=Ab o)->φ h2
def HOk (H:Hp)(h:Bj):Prop:=∀ a o,H a=Ab o->z9 P w H h a o
end
section
variable {P:Bd}{w:Bt}{H H':Hp}{h h':Bj}{a:Af}{o:HO}
theorem z9.lt (x:z9 P w H h a o):a<h.objs.size:=by
 cases o with
 |lst xs=>obtain⟨_,_,_,_,e⟩:=x;exact Ax e
 |tup xs=>obtain⟨_,_,_,p⟩:=x;exact p.lt
 |dK kvs=>obtain⟨_,_,_,_,o,_,_,e,_⟩:=x;exact Ax e
 |dT kvs=>obtain⟨_,_,_,_,o,_,_,e,_⟩:=x;exact Ax e
 |set S n=>obtain⟨o,_,_,_,e,_⟩:=x;exact Ax e
 |ins C dx fs=>obtain⟨_,_,_,e,_⟩:=x;exact Ax e
 |own y=>obtain⟨_,e⟩:=x;exact Ax e
 |xd fs=>obtain⟨_,⟨_,_,_,e,_⟩,_⟩:=x;exact Ax e
 |rng lo hi=>obtain⟨_,_,_,e⟩:=x;exact Ax e
 |frz ob u=>obtain⟨e,_⟩:=x;exact Ax e
 |tbl ps=>exact Ax (show h.get? a=Ab _ from x)
 |met f y=>exact Ax (show h.get? a=Ab _ from x)
 |ext φ => obtain⟨_,⟨_,e⟩,_⟩:=x;exact Ax e
theorem Paired.mapP {α β:Type}{F G:α->β->Prop}{l₁:Aa α}{l₂:Aa β}(h:Paired F l₁ l₂)(f:∀ a b,F a b->G a b):Paired G l₁ l₂:=by
 induction h with
 |nil=>exact .nil
 |cons r t ih=>exact .cons (f _ _ r) ih
theorem z9.stay (x:z9 P w H h a o)(k:∀ b u,(b=a\/H b=Ab (.own a))->h.get? b=Ab u->h'.get? b=Ab u)
  (ho:∀ b,H b=Ab (.own a)->H' b=Ab (.own a)) (ht:∀ b xs,H b=Ab (.tup xs)->H' b=Ab (.tup xs)):z9 P w H' h' a o:=by
 induction o with
 |lst xs=>obtain⟨z,its,n,r,e⟩:=x;exact⟨z,its,n,r,k _ _ (.inl rfl) e⟩
 |tup xs=>obtain⟨z,its,r,ob,e,c⟩:=x;exact⟨z,its,r,ob,k _ _ (.inl rfl) e,c⟩
 |dK kvs=>obtain⟨z,y,vs,r,ob,es,ep,e,c⟩:=x;exact⟨z,y,vs,r,ob,es,ep,k _ _ (.inl rfl) e,c⟩
 |dT kvs =>
  obtain⟨z,y,xs,r,ob,es,ep,e,c⟩:=x;exact⟨z,y,xs,Paired.mapP r λp q z=>⟨z.1,ht _ _ z.2.1,z.2.2⟩,ob,es,ep,k _ _ (.inl rfl) e,c⟩
 |set S n=>obtain⟨ob,es,ep,t,e,c⟩:=x;exact⟨ob,es,ep,t,k _ _ (.inl rfl) e,c⟩
 |ins C dx fs =>
  obtain⟨d,z,ne,e,mA,⟨od,es,ep,e2,c⟩,r⟩:=x;exact⟨ho _ d,z,ne,k _ _ (.inl rfl) e,mA,⟨od,es,ep,k _ _ (.inr d) e2,c⟩,r⟩
 |own y=>obtain⟨ob,e⟩:=x;exact⟨ob,k _ _ (.inl rfl) e⟩
 |xd fs=>obtain⟨mA,⟨od,es,ep,e,c⟩,r⟩:=x;exact⟨mA,⟨od,es,ep,k _ _ (.inl rfl) e,c⟩,r⟩
 |rng lo hi=>obtain⟨t,u,v,e⟩:=x;exact⟨t,u,v,k _ _ (.inl rfl) e⟩
 |frz ob u ih=>obtain⟨e,q⟩:=x;exact⟨k _ _ (.inl rfl) e,ih q⟩
 |tbl ps =>
  have e:h.get? a=Ab { cls:=.none,data:=.fields ps }:=x;show h'.get? a=Ab { cls:=.none,data:=.fields ps };exact k a _ (.inl rfl) e
 |met f y =>
  have e:h.get? a=Ab (Ql (.ref f) (.ref y)):=x;show h'.get? a=Ab (Ql (.ref f) (.ref y));exact k a _ (.inl rfl) e
 |ext φ => obtain⟨p,⟨o,e⟩,st⟩:=x;exact⟨st _ _ p λo q=>k _ _ (.inl rfl) q,⟨o,k _ _ (.inl rfl) e⟩,st⟩
theorem HOk.lt (x:HOk P w H h)(e:H a=Ab o):a<h.objs.size:=(x a o e).lt
theorem HOk.fresh (x:HOk P w H h)(e:h.objs.size<=a):H a=none:=by
 cases q:H a with
 |none=>rfl
 |some u=>exact absurd (Bm (x.lt q) e) (Dp _)
theorem HOk.kept (x:HOk P w H h)(k:∀ b u,h.get? b=Ab u->h'.get? b=Ab u):HOk P w H h':=λa o e =>
 (x a o e).stay (λb u _ q=>k b u q) (λ_ q=>q) λ_ _ q=>q
theorem HOk.laid (x:HOk P w H h)(k:∀ b u,h.get? b=Ab u->h'.get? b=Ab u)(hp:h.objs.size<=a)(new:z9 P w (upd H a o) h' a o):HOk P w (upd H a o) h':=λb u e=>by
 have hn:=x.fresh hp;by_cases hb:b=a
 .subst hb;rw[qQ] at e;cases e;exact new
 .rw[qJ hb] at e
  exact(x b u e).stay (λc v _ q=>k c v q) (λc q=>by rw[qJ (qP q hn)];exact q) λc xs q=>by rw[qJ (qP q hn)];exact q
end
def Rd (H:Hp)(a:Af)(u:HO):Prop:=H a=Ab u\/∃ o,H a=Ab (.frz o u)
theorem Rd.of {H:Hp}{a:Af}(h:H a=Ab u):Rd H a u:=.inl h
theorem Rd.ok {P:Bd}{w:Bt}{H:Hp}{h:Bj}{a:Af}(r:Rd H a u)(x:HOk P w H h):z9 P w H h a u:=by
 rcases r with r|⟨o,r⟩
 .exact x a u r
 .obtain⟨_,q⟩:=x a _ r
  exact q
def Mut:Al HO->Prop
 |some (.lst _)=>Kl
 |some (.dK _)=>Kl
 |some (.dT _)=>Kl
 |some (.set _ _)=>Kl
 |some (.ins _ _ _)=>Kl
 |some (.ext _)=>Kl
 |_=>Fh
section
variable {P:Bd}{w:Bt}{H:Hp}{h h':Bj}{x e:Af}{o':HO}
theorem HOk.write (ok:HOk P w H h)(mu:Mut (H x))(he:e=x\/H e=Ab (.own x))(k:∀ b u,b≠e->h.get? b=Ab u->h'.get? b=Ab u)(heo:∃ u,h'.get? e=Ab u)
  (new:z9 P w (upd H x o') h' x o'):HOk P w (upd H x o') h':=λb u q=>by
 have nown:∀ c y,H c=Ab (.own y)->c≠x:=λc y r z=>by subst z;rw[r] at mu;exact mu
 have ntup:∀ c xs,H c=Ab (.tup xs)->c≠x:=λc xs r z=>by subst z;rw[r] at mu;exact mu
 by_cases hb:b=x
 .subst hb;rw[qQ] at q;cases q;exact new
 .rw[qJ hb] at q
  by_cases hbe:b=e
  .have q':H b=Ab (.own x):=by
    rcases he with z|z
    .exact absurd (hbe.trans z) hb
    .rw[hbe];exact z
   rw[q] at q';cases q';obtain⟨v,hv⟩:=heo;exact⟨v,by rw[hbe];exact hv⟩
  .refine(ok b u q).stay (λc v hc r=>k c v ?_ r) (λc r=>by rw[qJ (nown c b r)];exact r) λc xs r=>by rw[qJ (ntup c xs r)];exact r
   rcases hc with rfl|hc
   .exact hbe
   .rintro rfl
    rcases he with z|z
    .exact nown c b hc z
    .rw[hc] at z;cases z;exact hb rfl
end
structure Un (fs ex:Aa Af)(H H':Hp)(h h':Bj):Prop where
 keep:∀ b o,h.get? b=Ab o->H b=none->b ∉ fs->b ∉ ex->h'.get? b=Ab o
 slot:∀ b o,h.get? b=Ab o->H b=none->b∈fs->b ∉ ex->∃ sl,h'.get? b=Ab { o with slots:=sl }
 free:∀ b o,h.get? b=Ab o->H b=none->b ∉ ex->H' b=none
 there:∀ b o,h.get? b=Ab o->b ∉ ex->∃ o',h'.get? b=Ab o'
 tups:∀ b xs,H b=Ab (.tup xs)->H' b=Ab (.tup xs)
 frzs:∀ b o u,H b=Ab (.frz o u)->H' b=Ab (.frz o u)
 tbls:∀ b ps,H b=Ab (.tbl ps)->∃ more,H' b=Ab (.tbl (ps++more))
section
variable {fs fs' ex ex':Aa Af}{H H1 H2:Hp}{h h1 h2 h':Bj}{a x e:Af}{o:HO}
theorem Un.any (u:Un fs ex H H1 h h1){b:Af}{ob:Ci}(q:h.get? b=Ab ob)(n:H b=none)(hx:b ∉ ex):∃ sl,h1.get? b=Ab { ob with slots:=sl }:=by
 by_cases hb:b∈fs
 .exact u.slot b ob q n hb hx
 .exact⟨ob.slots,u.keep b ob q n hb hx⟩
theorem Un.kept (k:∀ b u,h.get? b=Ab u->h'.get? b=Ab u):Un fs ex H H h h':=
 ⟨λb ob q _ _ _=>k b ob q,λb ob q _ _ _=>⟨ob.slots,k b ob q⟩,λ_ _ _ n _=>n,λb ob q _=>⟨ob,k b ob q⟩,λ_ _ q=>q,λ_ _ _ q=>q,λ_ ps q=>⟨#[],by rw[q];simp⟩⟩
theorem Un.refl:Un fs ex H H h h:=Un.kept λ_ _ q=>q
theorem Un.laid (k:∀ b u,h.get? b=Ab u->h'.get? b=Ab u)(hp:h.objs.size<=a)(hn:H a=none):Un fs ex H (upd H a o) h h' where
 keep:=λb u q _ _ _=>k b u q
 slot:=λb u q _ _ _=>⟨u.slots,k b u q⟩
 free:=λb u q n _=>by rw[qJ (Bv (Bm (Ax q) hp))];exact n
 there:=λb u q _=>⟨u,k b u q⟩
 tups:=λb xs q=>by rw[qJ (qP q hn)];exact q
 frzs:=λb u xs q=>by rw[qJ (qP q hn)];exact q
 tbls:=λb ps q=>⟨#[],by rw[qJ (qP q hn),q];simp⟩
theorem Un.write (mu:Mut (H x))(he:e=x\/H e=Ab (.own x))(k:∀ b u,b≠e->h.get? b=Ab u->h'.get? b=Ab u)(heo:∃ u,h'.get? e=Ab u):Un fs ex H (upd H x o) h h':=by
 have hx:∀ b,H b=none->b≠x:=λb n z=>by subst z;rw[n] at mu;exact mu
 have hb:∀ b,H b=none->b≠e:=λb n z=>by
  subst z;rcases he with r|r
  .exact hx b n r
  .rw[n] at r;cases r
 have hm:∀ b u,H b=Ab u->¬ Mut (Ab u)->b≠x:=λb u q nm z=>by subst z;rw[q] at mu;exact nm mu
 refine⟨λb u q n _ _=>k b u (hb b n) q,λb u q n _ _=>⟨u.slots,k b u (hb b n) q⟩,λb u q n _=>by rw[qJ (hx b n)];exact n,λb u q _=>?_,
  λb xs q=>by rw[qJ (hm b _ q λz=>z)];exact q,λb u xs q=>by rw[qJ (hm b _ q λz=>z)];exact q,λb ps q=>⟨#[],by rw[qJ (hm b _ q λz=>z),q];simp⟩⟩
 by_cases hbe:b=e
 .subst hbe;exact heo
 .exact⟨u,k b u hbe q⟩
end
def trk (h:Bj)(H:Hp):Aa Af:=(Cg h.objs.size).filter λa=>(H a).isSome
def kT (h:Bj)(H:Hp):Bj:=Of h (trk h H)
theorem ZU (h:Bj)(H:Hp):(kT h H).objs.size=h.objs.size:=PySem.W.hideAll_size _ _
theorem VJ {h:Bj}{H:Hp}{o:Ci}(e:h.get? b=Ab o)(n:H b=none):(kT h H).get? b=Ab o:=
 Vv _ e λhm=>by
  have q:(H b).isSome=true:=(Ti.mp hm).2;rw[n] at q;simp at q
theorem F1 {h:Bj}{H:Hp}{o:Ci}(e:(kT h H).get? b=Ab o):h.get? b=Ab o/\H b=none:=by
 have e':h.get? b=Ab o:=Wv (trk h H) e;refine⟨e',?_⟩;cases q:H b with
 |none=>rfl
 |some x =>
  have hm:b∈trk h H:=Ti.mpr ⟨Ei.mpr (Ax e'),by simp[q]⟩
  have z:(kT h H).get? b=none:=PySem.W.hideAll_none (trk h H) hm;rw[z] at e;cases e
end _L
namespace _L
open PySem PySem.Spec PyProof.Rows
variable {E:Ac->Ah->Prop}{t':Ai}{g':Bn Zs}{d':Drawn}{M:Mr}{Q:Qm->Ah->Prop}
def wF:Aa Av:=["law","_law_right","by_hull","pair_bound","hub","greatest_often"]
def MM (mg:Av->Al Ac)(h:Bj):Prop:=∃ bm o,mg "__builtins__" = Ab (.ref bm)/\bm≠Ow/\h.get? bm=Ab o/\o.cls=.type "module" /\ o.dict=Ab Ow/\o.data=.plain
structure Mod (K:Aj)(mg:Av->Al Ac)(base:Bj):Prop where
 kin:K.In base
 glob:base.Ns Cm mg
 blt:∃ mb,base.Ns Ow mb/\∀ x:Av,x ≠ "__name__" -> mb x=Gb x
 nolimit:base.NoLimit
 bm:MM mg base
 code:∀ x∈wF,∀ c T,Dq K x=Ab (c,T)->Uw base c T
 inj:∀ x∈wF,∀ y∈wF,∀ c d T,Dq K x=Ab (c,T)->Dq K y=Ab (d,T)->x=y
structure Cx where
 prog:Bd
 w:Bt
 K:Aj
 mg:Av->Al Ac
 base:Bj
 A:Bo
 N:Aa Av
 s₀:Ah
 H₀:Hp
 env:HT
 outer:Aa HT
 stack:Aa HT
 ex:Aa Af
 fn:Av->Ar
 calm:Ar
 pn:Aa (Af × Ci)
 xe:Ac->Ah->Prop
def frs (l:Aa HT):Aa Af:=l.filterMap (·.frame)
abbrev Cx.fs (X:Cx):Aa Af:=frs X.outer
def Vis (sc:Em)(x:Av):Prop:=sc.names.lookup x=Ab .local \/ sc.names.lookup x=Ab .cell\/sc.names.lookup x=Ab .free
def Loc (sc:Em)(x:Av):Prop:=sc.names.lookup x=Ab .local \/ sc.names.lookup x=Ab .cell
def MQ (env:HT)(h:Bj)(m:Av->Al Ac)(x:Av)(u:Ac):Prop:=
 (env.kindOf x=Ab .local /\ m x=Ab u)\/((env.kindOf x=Ab .cell\/env.kindOf x=Ab .free)/\∃ c,env.cells.lookup x=Ab c/\h.IsCell c (Ab u))
structure Cx.Ok (X:Cx):Prop where
 mod:Mod X.K X.mg X.base
 kind:X.env.scope.kind=.function
 glob:X.env.globals=Cm
 blt:X.env.builtins=Ow
 above:X.s₀.heap.objs.size<=X.env.locals
 inj:∀ x y c,X.env.cells.lookup x=Ab c->X.env.cells.lookup y=Ab c->x=y
 has:∀ x,(X.env.kindOf x=Ab .cell\/X.env.kindOf x=Ab .free)->∃ c,X.env.cells.lookup x=Ab c
 cab:∀ x c,X.fn x=true->X.env.cells.lookup x=Ab c->X.s₀.heap.objs.size<=c
 hd:X.calm=true->X.A.handled=none
 frames:X.A.frames=Ab X.stack
 stk:X.stack=X.outer\/(X.stack=X.env::X.outer/\X.env.frame=Ab X.env.locals)
 exf:∀ b∈X.ex,b≠X.env.locals/\∀ x c,X.env.cells.lookup x=Ab c->c≠b
 bs:∀ b o,X.base.get? b=Ab o->X.s₀.heap.get? b=Ab o/\X.H₀ b=none
 bsz:X.base.objs.size<=X.s₀.heap.objs.size
 noex:∀ b o,X.base.get? b=Ab o->b ∉ X.ex
 exfs:∀ b∈X.ex,b ∉ X.fs
 funs:X.s₀.heap.FunFrames X.base X.outer
 frf:∀ b∈X.fs,X.H₀ b=none
structure Inv (X:Cx)(pins:Aa (Af × Ci))(σ : Aa (Al V))(H:Hp)(s:Ah):Prop where
 ok:X.Ok
 os:s.os=X.s₀.os
 bare:Nk s.gens
 base:Un X.fs X.ex X.H₀ H X.s₀.heap s.heap
 loc:∃ m,s.heap.Ns X.env.locals m/\∀ (i:Ai) (x:Av) (v:V),X.N[i]? = Ab x->σ[i]? = Ab (Ab v)->Vis X.env.scope x->∃ u,qI v u/\MQ X.env s.heap m x u
 cell:∀ x c,X.env.cells.lookup x=Ab c->∃ v,s.heap.IsCell c v
 free:H X.env.locals=none
 freeC:∀ x c,X.env.cells.lookup x=Ab c->H c=none
 pin:∀ p∈X.pn++pins,s.heap.get? p.1=Ab p.2/\H p.1=none/\p.1≠X.env.locals/\p.1 ∉ X.fs/\∀ v,p.2.data≠.cell v
 hok:HOk X.prog X.w H s.heap
 len:σ.length=X.N.length
section
variable {X:Cx}{pins:Aa (Af × Ci)}{σ : Aa (Al V)}{H H':Hp}{s:Ah}{h':Bj}
theorem Cx.Ok.nofr (ok:X.Ok){b:Af}{o:Ci}(e:X.base.get? b=Ab o):b ∉ X.fs:=λhb=>by
 have:=(ok.funs.mem hb).1;rw[e] at this;cases this
theorem Inv.bs (I:Inv X pins σ H s):∀ b o,X.base.get? b=Ab o->s.heap.get? b=Ab o/\H b=none:=λb o e =>
 ⟨I.base.keep b o (I.ok.bs b o e).1 (I.ok.bs b o e).2 (I.ok.nofr e) (I.ok.noex b o e),I.base.free b o (I.ok.bs b o e).1 (I.ok.bs b o e).2 (I.ok.noex b o e)⟩
theorem Inv.bk (I:Inv X pins σ H s):∀ b o,X.base.get? b=Ab o->s.heap.get? b=Ab o:=λb o e=>(I.bs b o e).1
theorem Inv.mod (I:Inv X pins σ H s):Mod X.K X.mg X.base:=I.ok.mod
theorem Inv.kIn (I:Inv X pins σ H s):X.K.In s.heap:=I.ok.mod.kin.keeps I.bk
theorem Inv.nolimit (I:Inv X pins σ H s):s.heap.NoLimit:=I.ok.mod.nolimit.keeps I.bk
theorem Inv.lt (I:Inv X pins σ H s):X.env.locals<s.heap.objs.size:=let ⟨_,hn,_⟩:=I.loc;hn.lt
theorem Inv.sz (I:Inv X pins σ H s):X.s₀.heap.objs.size<=s.heap.objs.size:=Cq I.ok.above (Fy I.lt)
theorem Inv.nofs (I:Inv X pins σ H s){a:Af}(h:s.heap.objs.size<=a):a ∉ X.fs:=λhb=>by
 obtain⟨_,o,ho,_⟩:=I.ok.funs.mem hb;exact absurd (Bm (Ax ho) (Cq I.sz h)) (Dp _)
theorem Inv.cne (I:Inv X pins σ H s):∀ x c,X.env.cells.lookup x=Ab c->c≠X.env.locals:=λx c e z=>by
 obtain⟨v,o,ho,hd⟩:=I.cell x c e;obtain⟨m,⟨o',es,ep,ho',hd',_⟩,_⟩:=I.loc;rw[z,ho'] at ho;cases ho;rw[hd'] at hd;cases hd
theorem Inv.funs (I:Inv X pins σ H s):s.heap.FunFrames X.base X.outer:=by
 have all:∀ (l:Aa HT),(∀ b∈frs l,b∈X.fs)->X.s₀.heap.FunFrames X.base l->s.heap.FunFrames X.base l:=by
  intro l
  induction l with
  |nil=>intro _ _;trivial
  |cons env r ih =>
   intro hs hl;obtain⟨hk,⟨L,o,hf,hn,ho,hd⟩,hr⟩:=hl;have hL:L∈X.fs:=hs L (by unfold frs;rw[Gm,hf];exact Cz)
   obtain⟨sl,e⟩:=I.base.slot L o ho (I.ok.frf L hL) hL λz=>I.ok.exfs L z hL;exact⟨hk,⟨L,_,hf,hn,e,hd⟩,ih (λb hb=>hs b (by unfold frs;rw[Gm,hf];exact Cc _ hb)) hr⟩
 exact all X.outer (λ_ hb=>hb) I.ok.funs
theorem Inv.stack (I:Inv X pins σ H s):s.heap.FunFrames X.base X.stack:=by
 rcases I.ok.stk with e|⟨e,hf⟩
 .rw[e];exact I.funs
 .rw[e]
  obtain⟨m,hn,_⟩:=I.loc;refine .cons (by rw[I.ok.kind];decide) hf hn ?_ I.funs
  exact Jd (Cq I.ok.bsz I.ok.above)
theorem Inv.stkSub (I:Inv X pins σ H s):∀ b∈frs X.stack,b∈X.env.locals::X.fs:=λb hb=>by
 rcases I.ok.stk with e|⟨e,hf⟩
 .rw[e] at hb;exact Cc _ hb
 .rw[e] at hb
  unfold frs at hb;rw[Gm,hf] at hb;exact hb
theorem Inv.stkFree (I:Inv X pins σ H s):∀ b∈frs X.stack,H b=none:=λb hb=>by
 rcases Aw.mp (I.stkSub b hb) with e|hb
 .rw[e];exact I.free
 .obtain⟨_,o,ho,_⟩:=I.ok.funs.mem hb
  exact I.base.free b o ho (I.ok.frf b hb) λz=>I.ok.exfs b z hb
theorem Inv.step {g':Bn Zs}{t':Ai}{d':Drawn}{ch:Aa Af}(I:Inv X pins σ H s)
  (hch:∀ b∈ch,(b∈X.ex\/X.s₀.heap.objs.size<=b)/\b≠X.env.locals/\(∀ x c,X.env.cells.lookup x=Ab c->c≠b)/\∀ p∈X.pn++pins,p.1≠b)
  (keep:∀ b o,b≠X.env.locals->b ∉ X.fs->b ∉ ch->s.heap.get? b=Ab o->H b=none->h'.get? b=Ab o)
  (slot:∀ b o,b≠X.env.locals->b∈X.fs->b ∉ ch->s.heap.get? b=Ab o->H b=none->∃ sl,h'.get? b=Ab { o with slots:=sl }) (free:∀ b o,b ∉ ch->s.heap.get? b=Ab o->H b=none->H' b=none)
  (there:∀ b o,b ∉ ch->s.heap.get? b=Ab o->∃ o',h'.get? b=Ab o')
  (tups:∀ b xs,H b=Ab (.tup xs)->H' b=Ab (.tup xs)) (frzs:∀ b o u,H b=Ab (.frz o u)->H' b=Ab (.frz o u)) (tbls:∀ b ps,H b=Ab (.tbl ps)->∃ more,H' b=Ab (.tbl (ps++more)))
  (ns:∀ m,s.heap.Ns X.env.locals m->h'.Ns X.env.locals m) (hok:HOk X.prog X.w H' h') (hg:Nk g') :
  Inv X pins σ H' { s with heap:=h',gens:=g',drawn:=d',toks:=t' }:=by
 have neL:∀ b o,X.s₀.heap.get? b=Ab o->b≠X.env.locals:=λb o e=>Bv (Bm (Ax e) I.ok.above);have neC:∀ b o,X.s₀.heap.get? b=Ab o->b ∉ X.ex->b ∉ ch:=λb o e hx hb=>by
  rcases (hch b hb).1 with z|z
  .exact hx z
  .exact absurd (Bm (Ax e) z) (Dp _)
 have cellK:∀ x c,X.env.cells.lookup x=Ab c->∀ v,s.heap.IsCell c v->h'.IsCell c v:=λx c e v ⟨o,ho,hd⟩=>by
  have nch:c ∉ ch:=λz=>(hch c z).2.2.1 x c e rfl;by_cases hc:c∈X.fs
  .obtain⟨sl,q⟩:=slot c o (I.cne x c e) hc nch ho (I.freeC x c e)
   exact⟨_,q,hd⟩
  .exact⟨o,keep c o (I.cne x c e) hc nch ho (I.freeC x c e),hd⟩
 refine⟨I.ok,I.os,hg,⟨λb o e n hb hx=>?_,λb o e n hb hx=>?_,λb o e n hx=>?_,λb o e hx=>?_,λb xs e=>tups b xs (I.base.tups b xs e),λb o xs e=>frzs b o xs (I.base.frzs b o xs e),λb ps e=>?_⟩,?_,λx c e=>?_,?_,λx c e=>?_,λp hp=>?_,hok,I.len⟩
 .exact keep b o (neL b o e) hb (neC b o e hx) (I.base.keep b o e n hb hx) (I.base.free b o e n hx)
 .obtain⟨sl,e1⟩:=I.base.slot b o e n hb hx
  obtain⟨sl',e2⟩:=slot b _ (neL b o e) hb (neC b o e hx) e1 (I.base.free b o e n hx);exact⟨sl',e2⟩
 .obtain⟨o',e1⟩:=I.base.there b o e hx
  exact free b o' (neC b o e hx) e1 (I.base.free b o e n hx)
 .obtain⟨o',e1⟩:=I.base.there b o e hx
  exact there b o' (neC b o e hx) e1
 .obtain⟨m1,e1⟩:=I.base.tbls b ps e
  obtain⟨m2,e2⟩:=tbls b _ e1;exact⟨m1++m2,by rw[e2,Array.append_assoc]⟩
 .obtain⟨m,hn,hl⟩:=I.loc
  refine⟨m,ns m hn,λi x v e1 e2 e3=>?_⟩;obtain⟨u,r,l⟩:=hl i x v e1 e2 e3;refine⟨u,r,?_⟩;rcases l with l|⟨k,c,e,z⟩
  .exact .inl l
  .exact .inr ⟨k,c,e,cellK x c e _ z⟩
 .obtain⟨v,z⟩:=I.cell x c e
  exact⟨v,cellK x c e v z⟩
 .obtain⟨m,⟨o,_,_,ho,_⟩,_⟩:=I.loc
  exact free _ o (λz=>(hch _ z).2.1 rfl) ho I.free
 .obtain⟨v,o,ho,hd⟩:=I.cell x c e
  exact free c o (λz=>(hch c z).2.2.1 x c e rfl) ho (I.freeC x c e)
 .obtain⟨e,n,ne,nf,d⟩:=I.pin p hp
  have nch:p.1 ∉ ch:=λz=>(hch p.1 z).2.2.2 p hp rfl;exact⟨keep p.1 p.2 ne nf nch e n,free p.1 p.2 nch e n,ne,nf,d⟩
theorem Inv.un {t':Ai}(I:Inv X pins σ H s)(u:Un X.fs [] H H' s.heap h')(hok:HOk X.prog X.w H' h'):Inv X pins σ H' { s with heap:=h',toks:=t' }:=by
 obtain⟨m,⟨o,es,ep,ho,r⟩,_⟩:=id I.loc;obtain⟨sl,hL⟩:=u.any ho I.free (by simp)
 exact I.step (g':=s.gens) (d':=s.drawn) (ch:=[]) (λ_ z=>nomatch z) (λb o _ hb _ e n=>u.keep b o e n hb (by simp)) (λb o _ hb _ e n=>u.slot b o e n hb (by simp)) (λb o _ e n=>u.free b o e n (by simp)) (λb o _ e=>u.there b o e (by simp)) u.tups u.frzs u.tbls (λm' hm=>by
  obtain⟨o',es',ep',ho',r'⟩:=hm;rw[ho] at ho';cases ho';exact⟨_,es',ep',hL,r'⟩) hok I.bare
theorem Inv.call {t':Ai}{d':Drawn}{ch:Aa Af}(I:Inv X pins σ H s)(u:Un (frs X.stack) ch H H' s.heap h')(hok:HOk X.prog X.w H' h')(hg:Nk g')
  (hch:∀ b∈ch,(b∈X.ex\/X.s₀.heap.objs.size<=b)/\b≠X.env.locals/\(∀ x c,X.env.cells.lookup x=Ab c->c≠b)/\∀ p∈X.pn++pins,p.1≠b) :
  Inv X pins σ H' { s with heap:=h',gens:=g',drawn:=d',toks:=t' }:=by
 obtain⟨m,⟨o,es,ep,ho,r⟩,_⟩:=id I.loc;obtain⟨sl,hL⟩:=u.any ho I.free λz=>(hch _ z).2.1 rfl;exact I.step (ch:=ch) hch (λb o hL hb hc e n=>u.keep b o e n (λz=>(Aw.mp (I.stkSub b z)).elim hL hb) hc) (λb o _ _ hc e n=>u.any e n hc) (λb o hc e n=>u.free b o e n hc) (λb o hc e=>u.there b o e hc) u.tups u.frzs u.tbls (λm' hm=>by
  obtain⟨o',es',ep',ho',r'⟩:=hm;rw[ho] at ho';cases ho';exact⟨_,es',ep',hL,r'⟩) hok hg
theorem Inv.turned {t':Ai}{it:Af}(I:Inv X pins σ H s)(k:∀ b o,b≠it->s.heap.get? b=Ab o->h'.get? b=Ab o)(hn:H it=none)(hL:it≠X.env.locals)
  (h1:it∈X.ex\/X.s₀.heap.objs.size<=it) (h2:∀ x c,X.env.cells.lookup x=Ab c->c≠it) (h3:∀ p∈X.pn++pins,p.1≠it):Inv X pins σ H { s with heap:=h',toks:=t' }:=by
 have nit:∀ b u,H b=Ab u->b≠it:=λb u e z=>by rw[z,hn] at e;cases e
 refine I.step (g':=s.gens) (d':=s.drawn) (ch:=[it]) (λb hb=>?_) (λb o _ _ hc e _=>k b o (λz=>hc (by simp[z])) e) (λb o _ _ hc e _=>⟨o.slots,k b o (λz=>hc (by simp[z])) e⟩) (λ_ _ _ _ n=>n)
  (λb o hc e=>⟨o,k b o (λz=>hc (by simp[z])) e⟩) (λ_ _ e=>e) (λ_ _ _ e=>e) (λb ps e=>⟨#[],by rw[e];simp⟩) (λm hm=>?_) (λb u e=>?_) I.bare
 .have e:b=it:=by simpa using hb
  subst e;exact⟨h1,hL,h2,h3⟩
 .obtain⟨o,es,ep,ho,r⟩:=hm
  exact⟨o,es,ep,k _ o (El hL) ho,r⟩
 .refine(I.hok b u e).stay (λc v hc q=>k c v ?_ q) (λ_ q=>q) λ_ _ q=>q
  rcases hc with z|z
  .rw[z];exact nit b u e
  .exact nit c _ z
theorem Inv.tok (I:Inv X pins σ H s)(t:Ai):Inv X pins σ H { s with toks:=t }:=I.un (h':=s.heap) (t':=t) Un.refl I.hok
theorem Inv.kept {t':Ai}(I:Inv X pins σ H s)(k:∀ b u,s.heap.get? b=Ab u->h'.get? b=Ab u):Inv X pins σ H { s with heap:=h',toks:=t' }:=I.un (Un.kept k) (I.hok.kept k)
theorem Inv.laid {a:Af}{o:HO}{t':Ai}(I:Inv X pins σ H s)(k:∀ b u,s.heap.get? b=Ab u->h'.get? b=Ab u)(hp:s.heap.objs.size<=a)(new:z9 X.prog X.w (upd H a o) h' a o) :
  Inv X pins σ (upd H a o) { s with heap:=h',toks:=t' }:=I.un (Un.laid k hp (I.hok.fresh hp)) (I.hok.laid k hp new)
theorem Inv.write {x e:Af}{o:HO}{t':Ai}(I:Inv X pins σ H s)(mu:Mut (H x))(he:e=x\/H e=Ab (.own x))(k:∀ b u,b≠e->s.heap.get? b=Ab u->h'.get? b=Ab u)(heo:∃ u,h'.get? e=Ab u)
  (new:z9 X.prog X.w (upd H x o) h' x o):Inv X pins σ (upd H x o) { s with heap:=h',toks:=t' }:=I.un (Un.write mu he k heo) (I.hok.write mu he k heo new)
theorem Inv.pins_of {pins':Aa (Af × Ci)}(I:Inv X pins σ H s)(h:∀ p∈pins',s.heap.get? p.1=Ab p.2/\H p.1=none/\p.1≠X.env.locals/\p.1 ∉ X.fs/\∀ v,p.2.data≠.cell v):Inv X pins' σ H s:=
 ⟨I.ok,I.os,I.bare,I.base,I.loc,I.cell,I.free,I.freeC,λp hp=>(Cp.mp hp).elim (λz=>I.pin p (Dh _ z)) (h p),I.hok,I.len⟩
theorem fQ {N:Aa Av}(hN:N.Nodup){i j:Ai}{x:Av}(a:N[i]? = Ab x)(b:N[j]? = Ab x):i=j:=by
 obtain⟨h1,e1⟩:=Az.mp a;obtain⟨h2,e2⟩:=Az.mp b;exact(Rz hN).mp (e1.trans e2.symm)
theorem dI {A:Bo}{i:Ai}{x:Av}{v:V}{u:Ac}(I:Inv X pins σ H s)(hN:X.N.Nodup)(hi:X.N[i]? = Ab x)(hx:Loc X.env.scope x)(r:qI v u)
  (h:∀ s',Inv X pins (σ.set i (Ab v)) H s'->(∃ a,Fd a s.heap s'.heap/\(a=X.env.locals\/X.env.cells.lookup x=Ab a))->Q () s') (hf:X.fn x=true\/X.env.scope.names.lookup x=Ab .local:=by first|exact .inl rfl|exact .inr rfl|assumption):Ap M A (storeName X.env x u) Q E s:=by
 obtain⟨m,hn,hl⟩:=id I.loc;have hcls:(X.env.scope.kind == .class||(X.env.scope.kind == .module&&X.env.locals != X.env.globals))=false:=by rw[I.ok.kind];rfl
 have hiσ:i<σ.length:=by rw[I.len];exact(Az.mp hi).1
 have cne:=I.cne;have tracked:∀ {a:Af} {h':Bj},(∃ o,s.heap.get? a=Ab o/\H a=none)->Fd a s.heap h'->HOk X.prog X.w H h':=λ{a h'} ha hs b ob e=>by
  obtain⟨_,_,hfree⟩:=ha;refine(I.hok b ob e).stay (λc w' hc q=>(hs.2 c ?_).trans q) (λ_ q=>q) λ_ _ q=>q;rintro rfl;rcases hc with rfl|hc
  .rw[hfree] at e;cases e
  .rw[hfree] at hc;cases hc
 rcases hx with hk|hk
 .refine wpAny_storeName_local hk hn (λh' hn' hs=>?_) hcls
  obtain⟨oL,_,_,hoL,_⟩:=id hn;refine h _ ⟨I.ok,I.os,I.bare,⟨λb o e n hb hx=>?_,λb o e n hb hx=>?_,I.base.free,λb o e hx=>?_,I.base.tups,I.base.frzs,I.base.tbls⟩,⟨_,hn',λj y v' e1 e2 e3=>?_⟩,λy c e=>?_,I.free,I.freeC,λp hp=>?_,tracked ⟨oL,hoL,I.free⟩ hs,by simpa using I.len⟩ ⟨_,hs,.inl rfl⟩
  .exact(hs.2 b (Bv (Bm (Ax e) I.ok.above))).trans (I.base.keep b o e n hb hx)
  .obtain⟨sl,e1⟩:=I.base.slot b o e n hb hx
   exact⟨sl,(hs.2 b (Bv (Bm (Ax e) I.ok.above))).trans e1⟩
  .obtain⟨o',e1⟩:=I.base.there b o e hx
   exact⟨o',(hs.2 b (Bv (Bm (Ax e) I.ok.above))).trans e1⟩
  .by_cases hj:j=i
   .subst hj
    rw[hi] at e1;cases e1;rw[Ed hiσ] at e2;cases e2;exact⟨u,r,.inl ⟨hk,by simp⟩⟩
   .rw[Dx (El hj)] at e2
    obtain⟨u',r',q⟩:=hl j y v' e1 e2 e3;refine⟨u',r',?_⟩;rcases q with⟨k,e⟩|⟨k,c,e,z⟩
    .refine .inl ⟨k,?_⟩
     have:y≠x:=λe=>hj (fQ hN e1 (e▸hi));simp[this,e]
    .exact .inr ⟨k,c,e,z.sameBut hs (cne y c e)⟩
  .obtain⟨w',z⟩:=I.cell y c e
   exact⟨w',z.sameBut hs (cne y c e)⟩
  .obtain⟨e,n,ne,nf,d⟩:=I.pin p hp
   exact⟨(hs.2 p.1 ne).trans e,n,ne,nf,d⟩
 .have hfn:X.fn x=true:=by
   rcases hf with z|z
   .exact z
   .rw[z] at hk;cases hk
  obtain⟨c,hc⟩:=I.ok.has x (.inl hk);obtain⟨w',z⟩:=I.cell x c hc;refine wpAny_storeName_cell I.ok.kind hk hc z (λh' hc' hs=>?_);obtain⟨oc,hoc,hocd⟩:=id z;refine h { s with heap:=h' } ⟨I.ok,I.os,I.bare,⟨λb o e n hb hx=>?_,λb o e n hb hx=>?_,I.base.free,λb o e hx=>?_,I.base.tups,I.base.frzs,I.base.tbls⟩,⟨m,hn.sameBut hs (El (cne x c hc)),λj y v' e1 e2 e3=>?_⟩,λy c' e=>?_,I.free,I.freeC,λp hp=>?_,tracked ⟨oc,hoc,I.freeC x c hc⟩ hs,by simpa using I.len⟩ ⟨c,hs,.inr hc⟩
  .exact(hs.2 b (Bv (Bm (Ax e) (I.ok.cab x c hfn hc)))).trans (I.base.keep b o e n hb hx)
  .obtain⟨sl,e1⟩:=I.base.slot b o e n hb hx
   exact⟨sl,(hs.2 b (Bv (Bm (Ax e) (I.ok.cab x c hfn hc)))).trans e1⟩
  .obtain⟨o',e1⟩:=I.base.there b o e hx
   exact⟨o',(hs.2 b (Bv (Bm (Ax e) (I.ok.cab x c hfn hc)))).trans e1⟩
  .by_cases hj:j=i
   .subst hj
    rw[hi] at e1;cases e1;rw[Ed hiσ] at e2;cases e2;exact⟨u,r,.inr ⟨.inl hk,c,hc,hc'⟩⟩
   .rw[Dx (El hj)] at e2
    obtain⟨u',r',q⟩:=hl j y v' e1 e2 e3;refine⟨u',r',?_⟩;rcases q with q|⟨k,c',e,z'⟩
    .exact .inl q
    .refine .inr ⟨k,c',e,z'.sameBut hs ?_⟩
     rintro rfl;exact hj (fQ hN e1 (I.ok.inj _ _ _ e hc▸hi))
  .by_cases hcc:c'=c
   .subst hcc;exact⟨_,hc'⟩
   .obtain⟨w2,z2⟩:=I.cell y c' e
    exact⟨w2,z2.sameBut hs hcc⟩
  .obtain⟨e,n,ne,nf,d⟩:=I.pin p hp
   refine⟨(hs.2 p.1 ?_).trans e,n,ne,nf,d⟩;intro q;rw[q,hoc] at e;have q':oc=p.2:=Co e;exact d w' (by rw[<- q'];exact hocd)
theorem j6 {A:Bo}{i:Ai}{x:Av}{v:V}{u:Ac}(I:Inv X pins σ H s)(hN:X.N.Nodup)(hi:X.N[i]? = Ab x)(hx:Loc X.env.scope x)(r:qI v u)
  (h:∀ s',Inv X pins (σ.set i (Ab v)) H s'->Q () s') (hf:X.fn x=true\/X.env.scope.names.lookup x=Ab .local:=by first|exact .inl rfl|exact .inr rfl|assumption):Ap M A (storeName X.env x u) Q E s:=
 dI I hN hi hx r (λs' I' _=>h s' I') hf
theorem Inv.call' {s':Ah}{ch:Aa Af}(I:Inv X pins σ H s)(ho:s'.os=s.os)(u:Un (frs X.stack) ch H H' s.heap s'.heap)(hok:HOk X.prog X.w H' s'.heap)(hg:Nk s'.gens)
  (hch:∀ b∈ch,(b∈X.ex\/X.s₀.heap.objs.size<=b)/\b≠X.env.locals/\(∀ x c,X.env.cells.lookup x=Ab c->c≠b)/\∀ p∈X.pn++pins,p.1≠b):Inv X pins σ H' s':=by
 obtain⟨h',g',d',t',o'⟩:=s';have e:o'=s.os:=ho;subst e;exact I.call (g':=g') (t':=t') (d':=d') u hok hg hch
end
abbrev XK:=Ac->Al Af->Hp->Prop
abbrev St:=Aa (Al V)
abbrev VK:=V->Hp->Prop
abbrev TE:=St->Hp->VK->Prop
abbrev TT:=St->Hp->(Ar->Hp->Prop)->Prop
abbrev TA:=St->Hp->(Aa V->Hp->Prop)->Prop
structure Ends where
 nx:St->Hp->Prop
 rt:VK
 bk:St->Hp->Prop:=λ_ _=>Fh
 ct:St->Hp->Prop:=λ_ _=>Fh
abbrev TS:=Ends->St->Hp->Prop
inductive EP (X:Cx)(pins:Aa (Af × Ci))(σ : St)(Q:VK)(u:Ac)(s':Ah):Prop
 |mk (v:V) (H':Hp) (I:Inv X pins σ H' s') (r:qI v u) (q:Q v H'):EP X pins σ Q u s'
inductive TP (X:Cx)(pins:Aa (Af × Ci))(σ : St)(Q:Ar->Hp->Prop)(b:Ar)(s':Ah):Prop
 |mk (H':Hp) (I:Inv X pins σ H' s') (q:Q b H'):TP X pins σ Q b s'
inductive AP (X:Cx)(pins:Aa (Af × Ci))(σ : St)(Q:Aa V->Hp->Prop)(us:Aa Ac)(s':Ah):Prop
 |mk (vs:Aa V) (H':Hp) (I:Inv X pins σ H' s') (r:qH vs us) (q:Q vs H'):AP X pins σ Q us s'
def SP (X:Cx)(pins:Aa (Af × Ci))(D:Ends)(f:Flow)(s':Ah):Prop:=
 match f with
 |.next=>∃ σ' H',Inv X pins σ' H' s'/\D.nx σ' H'
 |.brk=>∃ σ' H',Inv X pins σ' H' s'/\D.bk σ' H'
 |.cont=>∃ σ' H',Inv X pins σ' H' s'/\D.ct σ' H'
 |.ret u=>∃ v σ' H',Inv X pins σ' H' s'/\qI v u/\D.rt v H'
def PE (X:Cx)(e:Br)(t:TE):Prop:=
 ∀ (pins:Aa (Af × Ci)) (s:Ah) (σ : St) (H:Hp) (Q:VK),Inv X pins σ H s->t σ H Q->Ap (As X.prog X.w) X.A (eval e X.env) (EP X pins σ Q) X.xe s
def PT (X:Cx)(e:Br)(t:TT):Prop:=
 ∀ (pins:Aa (Af × Ci)) (s:Ah) (σ : St) (H:Hp) (Q:Ar->Hp->Prop),Inv X pins σ H s->t σ H Q->Ap (As X.prog X.w) X.A (isTrue e X.env (eval e X.env)) (TP X pins σ Q) X.xe s
def PW (X:Cx)(e:Br)(t:TT):Prop:=
 ∀ (whole:Oa Ac) (pins:Aa (Af × Ci)) (s:Ah) (σ : St) (H:Hp) (Q:Ar->Hp->Prop),Inv X pins σ H s->t σ H Q->Ap (As X.prog X.w) X.A (isTrue e X.env whole) (TP X pins σ Q) X.xe s
def PA (X:Cx)(es:Aa Br)(t:TA):Prop:=
 ∀ (pos:Ex) (pins:Aa (Af × Ci)) (s:Ah) (σ : St) (H:Hp) (Q:Aa V->Hp->Prop),Inv X pins σ H s->t σ H Q->Ap (As X.prog X.w) X.A (spliced (Ge pos (Bl es X.env))) (AP X pins σ Q) X.xe s
def PS (X:Cx)(st:Fa)(t:TS):Prop:=
 ∀ (pins:Aa (Af × Ci)) (s:Ah) (σ : St) (H:Hp) (D:Ends),Inv X pins σ H s->t D σ H->Ap (As X.prog X.w) X.A (exec st X.env) (SP X pins D) X.xe s
def PSs (X:Cx)(st:Aa Fa)(t:TS):Prop:=
 ∀ (pins:Aa (Af × Ci)) (s:Ah) (σ : St) (H:Hp) (D:Ends),Inv X pins σ H s->t D σ H->Ap (As X.prog X.w) X.A (execs st X.env) (SP X pins D) X.xe s
theorem thn {α:Type}{t:Oa α}{Q Q':α->Ah->Prop}{A:Bo}{s:Ah}(h:Ap M A t Q E s)(hQ:∀ a s,Q a s->Q' a s):Ap M A t Q' E s:=Gn h hQ λ_ _ x=>x
end _L
namespace _L
open PySem PySem.Spec PyProof.Rows
variable {pins:Aa (Af × Ci)}{u:Ac}{E Q:Ac->Ah->Prop}
section
variable {X:Cx}
theorem bin {a b:Br}{ta tb:TE}(ha:PE X a ta)(hb:PE X b tb){pins:Aa (Af × Ci)}{s:Ah}{σ : St}{H:Hp}{R:V->V->Hp->Prop}(I:Inv X pins σ H s)(h:ta σ H λx H1=>tb σ H1 λy H2=>R x y H2)
  {α:Type} {Q:α->Ah->Prop} {f:Ac->Ac->Oa α}
  (hf:∀ v u s2 x y H2,Inv X pins σ H2 s2->qI x v->qI y u->R x y H2->Ap (As X.prog X.w) X.A (f v u) Q X.xe s2) :
  Ap (As X.prog X.w) X.A (eval a X.env) (λv s₁=>Ap (As X.prog X.w) X.A (eval b X.env) (λu s₂=>Ap (As X.prog X.w) X.A (f v u) Q X.xe s₂) X.xe s₁) X.xe s:=by
 refine thn (ha pins s σ H _ I h) λv s1 ⟨x,H1,I1,r1,q1⟩=>?_;refine thn (hb pins s1 σ H1 _ I1 q1) λu s2 ⟨y,H2,I2,r2,q2⟩=>?_;exact hf v u s2 x y H2 I2 r1 r2 q2
def E4 (i:Ai):TE:=λσ H Q=>∃ v,σ[i]? = Ab (Ab v)/\Q v H
def tC (v:V):TE:=λ_ H Q=>Q v H
theorem XT {i:Ai}{x:Av}{pos:Ex}(hN:X.N[i]? = Ab x)(hv:Vis X.env.scope x)(hd:(x == ("__debug__" : Av))=false:=by decide)(hcd:(x == ("__classdict__" : Av))=false:=by decide):PE X (.Name x pos) (E4 i):=by
 intro pins s σ H Q I h;obtain⟨v,e,h⟩:=h;obtain⟨m,hn,hl⟩:=I.loc;obtain⟨u,r,l⟩:=hl i x v hN e hv;have fin:EP X pins σ Q u s:=⟨v,H,I,r,h⟩;rcases l with⟨hk,hm⟩|⟨hk,c,hc,hcell⟩
 .exact Vw (Vk I.ok.kind hk hn hm fin) hd
 .rcases hk with hk|hk
  .exact Vw (wpAny_loadName_cell I.ok.kind hk hc hcell fin) hd
  .exact Vw (wpAny_loadName_free I.ok.kind hk hc hcell fin hcd) hd
theorem SS:PE X (.Constant (.int i) j pos) (tC (.int i)):=λ_ _ _ H _ I h=>Ww ⟨.int i,H,I.tok _,⟨_,rfl⟩,h⟩
theorem A3:PE X (.Constant (.bool b) j pos) (tC (.bl b)):=λ_ _ _ H _ I h=>Constant_bool ⟨.bl b,H,I,rfl,h⟩
theorem SU:PE X (.Constant .none j pos) (tC .non):=λ_ _ _ H _ I h=>Constant_none ⟨.non,H,I,rfl,h⟩
theorem SW:PE X (.Constant (.str x) j pos) (tC (.str x)):=λ_ _ _ H _ I h=>Calls.Constant_str ⟨.str x,H,I.tok _,⟨_,rfl⟩,h⟩
def Gl (X:Cx)(x:Av):Prop:=X.env.kindOf x=Ab .globalImplicit
theorem uC {s:Ah}{σ:St}{H:Hp}{x:Av}{pos:Ex}(I:Inv X pins σ H s)(hg:Gl X x)(hm:X.mg x=Ab u)(h:Q u s)
  (hd:(x == ("__debug__" : Av))=false:=by decide):Ap (As X.prog X.w) X.A (eval (.Name x pos) X.env) Q E s:=
 Qb I.ok.kind hg (Calls.loadGlobal_global (by rw[I.ok.glob];exact I.mod.glob.keeps I.bk) hm h) hd
theorem yE {s:Ah}{σ:St}{H:Hp}{x:Av}{pos:Ex}(I:Inv X pins σ H s)(hg:Gl X x)(hm:X.mg x=none)(hv:Gb x=Ab u)(h:Q u s)
  (hn:x ≠ "__name__":=by decide) (hd:(x == ("__debug__" : Av))=false:=by decide):Ap (As X.prog X.w) X.A (eval (.Name x pos) X.env) Q E s:=by
 obtain⟨mb,h1,h2⟩:=I.mod.blt;exact Qb I.ok.kind hg (Calls.loadGlobal_builtin (by rw[I.ok.glob];exact I.mod.glob.keeps I.bk) hm (by rw[I.ok.blt];exact h1.keeps I.bk) ((h2 x hn).trans hv) h) hd
theorem F5 {x:Av}{v:V}{pos:Ex}(hg:Gl X x)(hm:X.mg x=Ab u)(r:qI v u)(hd:(x == ("__debug__" : Av))=false:=by decide):PE X (.Name x pos) (tC v):=
 λ_ _ _ H _ I h=>uC I hg hm ⟨v,H,I,r,h⟩ hd
theorem F4 {x:Av}{v:V}{pos:Ex}(hg:Gl X x)(hm:X.mg x=none)(hv:Gb x=Ab u)(r:qI v u)(hn:x ≠ "__name__":=by decide)(hd:(x == ("__debug__" : Av))=false:=by decide):PE X (.Name x pos) (tC v):=
 λ_ _ _ H _ I h=>yE I hg hm hv ⟨v,H,I,r,h⟩ hn hd
variable {a b:Br}{ta tb:TE}{pos:Ex}
variable {tA tB':TT}{rest:Aa Br}
theorem FE (ha:PT X a tA):PW X (.BoolOp .And [a] pos) tA:=by
 intro wh pins s σ H Q I h;refine isTrue_and (thn (ha pins s σ H Q I h) λc s1 e=>?_);cases c with
 |true=>exact isTrue_and_nil e
 |false=>exact e
theorem R7 (ha:PT X a tA):PW X (.BoolOp .Or [a] pos) tA:=by
 intro wh pins s σ H Q I h;refine isTrue_or (thn (ha pins s σ H Q I h) λc s1 e=>?_);cases c with
 |false=>exact isTrue_or_nil e
 |true=>exact e
theorem SV {t:TE}(h:PE X a t):PE X (.BoolOp op [a] pos) t:=λpins s σ H Q I hw=>BoolOp_one (h pins s σ H Q I hw)
end
end _L
namespace _L
open PySem PySem.Spec PyProof.Rows
variable {es:Aa Br}{K:Aj}{P:Bd}{tg:Br}{w:Bt}
def SqL (K:Aj)(H:Hp)(a:Af)(xs:Aa V):Prop:=
 Rd H a (.lst xs) \/
  ∃ (o:Ci) (its:Bn Ac) (n:Ai),K.lookup a=Ab o/\o.cls=.type "list" /\ o.dict=none/\o.data=.seq its n/\its.size<=sizeLine/\qH xs its.toList
def SqT (K:Aj)(H:Hp)(a:Af)(xs:Aa V):Prop:=
 Rd H a (.tup xs) \/
  ∃ (o:Ci) (its:Bn Ac) (n:Ai),K.lookup a=Ab o/\o.cls=.type "tuple" /\ o.data=.seq its n/\its.size<=sizeLine/\qH xs its.toList
def IQ:Ac->Al V
 |.none=>Ab .non
 |.bool b=>Ab (.bl b)
 |.int i _=>Ab (.int i)
 |.str x _=>Ab (.str x)
 |.bytes b _=>Ab (.byt b)
 |.float b _=>Ab (.flt b)
 |.ref a=>Ab (.ref a)
 |.type n=>Ab (.ty n)
 |_=>none
theorem qI.abs {x:V}{u:Ac}(r:qI x u):IQ u=Ab x:=by
 cases x with
 |non=>cases r;rfl
 |bl _=>cases r;rfl
 |int _=>obtain⟨t,rfl⟩:=r;rfl
 |str _=>obtain⟨t,rfl⟩:=r;rfl
 |byt _=>obtain⟨t,rfl⟩:=r;rfl
 |flt _=>obtain⟨t,rfl⟩:=r;rfl
 |ref _=>cases r;rfl
 |ty _=>cases r;rfl
theorem qI.inj {x y:V}{u:Ac}(r:qI x u)(q:qI y u):x=y:=Co (r.abs.symm.trans q.abs)
theorem qH.inj {xs ys:Aa V}{us:Aa Ac}(h:qH xs us)(k:qH ys us):xs=ys:=by
 induction h generalizing ys with
 |nil=>cases k;rfl
 |cons r t ih =>
  cases k with
  |cons r' t'=>rw[r.inj r',ih t']
section
variable {X:Cx}{pins:Aa (Af × Ci)}{σ : St}{H:Hp}{s:Ah}{a:Af}{xs ys:Aa V}
theorem SqL.of (h:H a=Ab (.lst xs)):SqL K H a xs:=.inl (.inl h)
theorem SqT.of (h:H a=Ab (.tup xs)):SqT K H a xs:=.inl (.inl h)
theorem Inv.list (I:Inv X pins σ H s)(h:SqL X.K H a xs):∃ its:Aa Ac,qH xs its/\PlainL s.heap a its.toArray/\xs.length<=sizeLine:=by
 rcases h with h|⟨o,its,n,hk,hc,hd,hs,hz,r⟩
 .obtain⟨z,its,n,r,e⟩:=h.ok I.hok
  exact⟨its,r,⟨_,n,e,rfl,rfl,rfl⟩,z⟩
 .refine⟨its.toList,r,⟨o,n,I.kIn a o hk,hc,hd,by simpa using hs⟩,?_⟩
  have e:=r.length;simp only[Df] at e;omega
theorem Inv.tuple (I:Inv X pins σ H s)(h:SqT X.K H a xs):∃ its:Aa Ac,qH xs its/\Nj s.heap a its.toArray/\xs.length<=sizeLine:=by
 rcases h with h|⟨o,its,n,hk,hc,hs,hz,r⟩
 .obtain⟨z,its,r,p⟩:=h.ok I.hok
  exact⟨its,r,p,z⟩
 .refine⟨its.toList,r,⟨o,I.kIn a o hk,hc,n,by simpa using hs⟩,?_⟩
  have e:=r.length;simp only[Df] at e;omega
theorem Inv.list_inj (I:Inv X pins σ H s)(h:SqL X.K H a xs)(h':SqL X.K H a ys):xs=ys:=by
 obtain⟨its,r,⟨o,n,e,_,_,d⟩,_⟩:=I.list h;obtain⟨its',r',⟨o',n',e',_,_,d'⟩,_⟩:=I.list h';rw[e] at e';cases e';rw[d] at d';injection d' with d1 _
 have:its=its':=by simpa using congrArg Xj d1
 subst this;exact r.inj r'
theorem Inv.tuple_inj (I:Inv X pins σ H s)(h:SqT X.K H a xs)(h':SqT X.K H a ys):xs=ys:=by
 obtain⟨its,r,⟨o,e,_,n,d⟩,_⟩:=I.tuple h;obtain⟨its',r',⟨o',e',_,n',d'⟩,_⟩:=I.tuple h';rw[e] at e';cases e';rw[d] at d';injection d' with d1 _
 have:its=its':=by simpa using congrArg Xj d1
 subst this;exact r.inj r'
end
abbrev Cx.wish (X:Cx)(E:Ac->Ah->Prop):Cx:={ X with xe:=E }
abbrev Cx.nox (X:Cx):Cx:=X.wish λ_ _=>Fh
theorem Cx.Ok.wish {X:Cx}(ok:X.Ok)(E:Ac->Ah->Prop):(X.wish E).Ok:=
 ⟨ok.mod,ok.kind,ok.glob,ok.blt,ok.above,ok.inj,ok.has,ok.cab,ok.hd,ok.frames,ok.stk,ok.exf,ok.bs,ok.bsz,ok.noex,ok.exfs,ok.funs,ok.frf⟩
theorem Cx.Ok.unwish {X:Cx}{E:Ac->Ah->Prop}(ok:(X.wish E).Ok):X.Ok:=
 ⟨ok.mod,ok.kind,ok.glob,ok.blt,ok.above,ok.inj,ok.has,ok.cab,ok.hd,ok.frames,ok.stk,ok.exf,ok.bs,ok.bsz,ok.noex,ok.exfs,ok.funs,ok.frf⟩
section
variable {X:Cx}{pins:Aa (Af × Ci)}{σ : St}{H:Hp}{s:Ah}{E:Ac->Ah->Prop}
theorem Inv.wish (I:Inv X pins σ H s)(E:Ac->Ah->Prop):Inv (X.wish E) pins σ H s:=⟨I.ok.wish E,I.os,I.bare,I.base,I.loc,I.cell,I.free,I.freeC,I.pin,I.hok,I.len⟩
theorem Inv.unwish (I:Inv (X.wish E) pins σ H s):Inv X pins σ H s:=⟨I.ok.unwish,I.os,I.bare,I.base,I.loc,I.cell,I.free,I.freeC,I.pin,I.hok,I.len⟩
theorem SP.unwish {D:Ends}{f:Flow}{s':Ah}(h:SP (X.wish E) pins D f s'):SP X pins D f s':=by
 cases f with
 |next=>obtain⟨σ',H',I,q⟩:=h;exact⟨σ',H',I.unwish,q⟩
 |brk=>obtain⟨σ',H',I,q⟩:=h;exact⟨σ',H',I.unwish,q⟩
 |cont=>obtain⟨σ',H',I,q⟩:=h;exact⟨σ',H',I.unwish,q⟩
 |ret u=>obtain⟨v,σ',H',I,r,q⟩:=h;exact⟨v,σ',H',I.unwish,r,q⟩
theorem PE.nox {e:Br}{t:TE}(h:PE X.nox e t):PE X e t:=λpins s σ H Q I hw =>
 Gn (h pins s σ H Q (I.wish _) hw) (λ_ _ ⟨v,H',I',r,q⟩=>⟨v,H',I'.unwish,r,q⟩) λ_ _ z=>Ao z
theorem PT.nox {e:Br}{t:TT}(h:PT X.nox e t):PT X e t:=λpins s σ H Q I hw =>
 Gn (h pins s σ H Q (I.wish _) hw) (λ_ _ ⟨H',I',q⟩=>⟨H',I'.unwish,q⟩) λ_ _ z=>Ao z
theorem PSs.nox {st:Aa Fa}{t:TS}(h:PSs X.nox st t):PSs X st t:=λpins s σ H D I hw =>
 Gn (h pins s σ H D (I.wish _) hw) (λ_ _ q=>q.unwish) λ_ _ z=>Ao z
end
section
variable {X:Cx}{st:Fa}{rest:Aa Fa}{t u:TS}{e:Br}{te:TE}{pos:Ex}
def AN:TS:=λD σ H=>D.nx σ H
def qAD (t u:TS):TS:=λD σ H=>t { D with nx:=u D } σ H
theorem FB:PSs X [] AN:=λ_ _ σ H _ I h=>Lo ⟨σ,H,I,h⟩
theorem UP (h1:PS X st t)(h2:PSs X rest u):PSs X (st::rest) (qAD t u):=by
 intro pins s σ H D I h;refine Yu (thn (h1 pins s σ H { D with nx:=u D } I h) λf s1 q=>?_)
 cases f with
 |next =>
  obtain⟨σ',H',I',q⟩:=q;exact h2 pins s1 σ' H' D I' q
 |ret v=>exact q
 |brk=>exact q
 |cont=>exact q
theorem FC (h1:PS X st t):PSs X [st] t:=by
 intro pins s σ H D I h;refine Yu (thn (h1 pins s σ H D I h) λf s1 q=>?_);cases f with
 |next=>exact Lo q
 |ret v=>exact q
 |brk=>exact q
 |cont=>exact q
theorem Inv.quiet {pins:Aa (Af × Ci)}{σ:St}{H:Hp}{s:Ah}(I:Inv X pins σ H s):interactive X.env=false:=by simp[interactive,I.ok.kind]
end
abbrev TG:=V->St->Hp->(St->Hp->Prop)->Prop
abbrev TGs:=Aa V->St->Hp->(St->Hp->Prop)->Prop
def PG (X:Cx)(target:Br)(t:TG):Prop:=
 ∀ (pins:Aa (Af × Ci)) (s:Ah) (σ : St) (H:Hp) (v:V) (u:Ac) (Q:St->Hp->Prop),Inv X pins σ H s->qI v u->t v σ H Q ->
  Ap (As X.prog X.w) X.A (assign target X.env u) (λ_ s'=>∃ σ' H',Inv X pins σ' H' s'/\Q σ' H') X.xe s
def PGs (X:Cx)(ts:Aa Br)(t:TGs):Prop:=
 ∀ (pins:Aa (Af × Ci)) (s:Ah) (σ : St) (H:Hp) (vs:Aa V) (us:Aa Ac) (Q:St->Hp->Prop),Inv X pins σ H s->qH vs us->t vs σ H Q ->
  Ap (As X.prog X.w) X.A (Vx ((Hf ts X.env).map (·.2)) us) (λ_ s'=>∃ σ' H',Inv X pins σ' H' s'/\Q σ' H') X.xe s
abbrev MR:=V->V->V->Hp->(Hp->Prop)->Prop
def sO (X:Cx)(t:MR):Prop:=
 ∀ (pins:Aa (Af × Ci)) (s:Ah) (σ : St) (H:Hp) (o i v:V) (ov iv u:Ac) (Q:Hp->Prop),Inv X pins σ H s->qI o ov->qI i iv->qI v u->t o i v H Q ->
  Ap (As X.prog X.w) X.A (setItem ov iv u) (λ_ s'=>∃ H',Inv X pins σ H' s'/\Q H') X.xe s
section
variable {X:Cx}{pos:Ex}
def HL (i:Ai):TG:=λv σ H Q=>Q (σ.set i (Ab v)) H
theorem F6 {i:Ai}{x:Av}(hN:X.N.Nodup)(hi:X.N[i]? = Ab x)(hx:Loc X.env.scope x)(hf:X.fn x=true\/X.env.scope.names.lookup x=Ab .local:=by first|exact .inl rfl|exact .inr rfl|assumption):PG X (.Name x pos) (HL i):=by
 intro pins s σ H v u Q I r h;exact Xy (j6 I hN hi hx r (λs' I'=>⟨_,H,I',h⟩) hf)
def O9:TGs:=λvs σ H Q=>vs=[]/\Q σ H
def HK (t:TG)(u:TGs):TGs:=λvs σ H Q=>∃ v r,vs=v::r/\t v σ H λσ' H'=>u r σ' H' Q
theorem F7:PGs X [] O9:=by
 intro pins s σ H vs us Q I r h;obtain⟨e,h⟩:=h;subst e;cases r;exact Xz ⟨σ,H,I,h⟩
theorem UM {e:Br}{t:TG}{u:TGs}(h1:PG X e t)(h2:PGs X es u)
  (hs:(Hf (e::es) X.env).map (·.2)=assign e X.env::(Hf es X.env).map (·.2):=by rfl):PGs X (e::es) (HK t u):=by
 intro pins s σ H vs us Q I r h;obtain⟨v,vr,e1,h⟩:=h;subst e1;cases r with
 |cons r rr =>
  rw[hs];refine Pu (thn (h1 pins s σ H _ _ _ I r h) λ_ s1 ⟨σ1,H1,I1,q1⟩=>?_);exact h2 pins s1 σ1 H1 _ _ Q I1 rr q1
def OA (K:Aj)(n:Ai)(t:TGs):TG:=λv σ H Q=>∃ a xs,v=.ref a/\SqT K H a xs/\xs.length=n/\t xs σ H Q
theorem SY {k:Ai}{t:TGs}{n:Ai}(hc:X.calm=true)(h:PGs X es t)
  (hn:(Hf es X.env).length=n:=by rfl) (hst:(Hf es X.env).findIdx? (·.1)=none:=by rfl):PG X (.Tuple es k pos) (OA X.K n t):=by
 intro pins s σ H v u Q I r hw;obtain⟨a,xs,e1,hq,hl,hw⟩:=hw;subst e1;cases r;obtain⟨its,rv,ht,hz⟩:=I.tuple hq;refine assign_Tuple_tuple (I.ok.hd hc) ht (by simp[hn,<- hl,rv.length]) hst λh' hx=>?_
 have I1:Inv X pins σ H { s with heap:=h' }:=I.kept (t':=s.toks) λb o e=>hx b o (Bv (Ax e)) e
 exact h pins _ σ H xs _ Q I1 (by simpa using rv) hw
def qAC (i j:Ai)(ta:TA):TS:=λD σ H=>ta σ H λvs H1=>∃ v w,vs=[v,w]/\D.nx ((σ.set i (Ab v)).set j (Ab w)) H1
theorem R4 {i j:Ai}{x y:Av}{a b:Br}{ta:TA}{px py pt:Ex} {kt k2 pt2} (hc:X.calm=true) (hN:X.N.Nodup) (hi:X.N[i]? = Ab x) (hj:X.N[j]? = Ab y) (hij:i≠j)
  (hx:X.env.scope.names.lookup x=Ab .local) (hy:X.env.scope.names.lookup y=Ab .local) (ha:PA X [a,b] ta)
  (hw:Lc [.Tuple [.Name x px,.Name y py] kt pt] (.Tuple [a,b] k2 pt2) X.env=pure (Ab [x,y]))
  (hs:Ld [.Tuple [.Name x px,.Name y py] kt pt] (.Tuple [a,b] k2 pt2) pos.line X.env=pure false:=by rfl) :
  PS X (.Assign [.Tuple [.Name x px,.Name y py] kt pt] (.Tuple [a,b] k2 pt2) pos) (qAC i j ta):=by
 intro pins s σ H D I h;rw[exec_Assign_arm];refine Ad (Le ?_);rw[hs];refine Ad (Ak ?_);rw[Bc (by decide)]
 refine Ad (Tuple_ (thn (ha _ pins s σ H _ I h) λus s1 ⟨vs,H1,I1,r1,q1⟩=>?_));obtain⟨v,w,e1,q1⟩:=q1;subst e1;obtain⟨u1,u2,rfl,rv,rw'⟩:∃ u1 u2,us=[u1,u2]/\qI v u1/\qI w u2:=by
  cases r1 with
  |cons p q =>
   cases q with
   |cons p' q' =>
    cases q';exact⟨_,_,rfl,p,p'⟩
 refine Dg ?_ (by show 2<=sizeLine;decide)
 have I2:Inv X pins σ H1 { s1 with heap:=s1.heap.push { cls:=.type "tuple",data:=.seq [u1,u2].toArray } }:=I1.kept (t':=s1.toks) λb o e=>Ag _ e
 rw[hw];refine Ad (Ak ?_);show Ap (As X.prog X.w) X.A (do rule "assign.swapped-stores";let items <- unpackItems (.ref s1.heap.objs.size) 2 none;Vx [λv=>Wt X.env y v,λv=>Wt X.env x v] items.reverse;pure Flow.next) _ _ _
 refine Ad (Kb (Ad (unpackItems_tuple (items:=#[u1,u2]) (I.ok.hd hc) (XV s1.heap _) λh' hx'=>?_)));have I3:=I2.kept (h':=h') (t':=s1.toks) λb o e=>hx' b o (Bv (Ax e)) e;show Ap _ _ (Vx [λv=>Wt X.env y v,λv=>Wt X.env x v] [u2,u1] >>= λ_=>pure Flow.next) _ _ _;refine Ad (Pu (wpAny_bindName (j6 I3 hN hj (.inl hy) rw' (λs2 I4=>?_) (.inr hy))));refine Pu (wpAny_bindName (j6 I4 hN hi (.inl hx) rv (λs3 I5=>Xz (Ak ?_)) (.inr hx)));rw[List.set_comm _ _ (El hij)] at I5;exact⟨_,H1,I5,q1⟩
end
section
variable {X:Cx}{pos:Ex}
def E5 (c:TT)(tb:TS):TS:=λD σ H=>∃ W:Ai->St->Hp->Prop,(∃ m,W m σ H)/\∀ m σ H,W m σ H ->
 c σ H λb H1=>if b=true then ∃ N:St->Hp->Prop,(∀ σ' H',N σ' H'->∃ m',m'<m/\W m' σ' H')/\tb { D with nx:=N,ct:=N,bk:=D.nx } σ H1 else D.nx σ H1
theorem UO {c:Br}{body:Aa Fa}{tc:TT}{tb:TS}(hp:Og (As X.prog X.w) X.A X.env X.xe)(hc:PT X c tc)(hb:PSs X body tb):PS X (.While c body [] pos) (E5 tc tb):=by
 intro pins s σ H D I h;obtain⟨W,⟨m0,w0⟩,turn⟩:=h;refine wpAny_While (codeAny_whileLoop (λn s'=>∃ σ' H',Inv X pins σ' H' s'/\W n σ' H') ?_ m0 ⟨σ,H,I,w0⟩);rintro n s1 ⟨σ1,H1,I1,w1⟩;refine Iw hp (thn (hc pins s1 σ1 H1 _ I1 (turn n σ1 H1 w1)) λb s2 ⟨H2,I2,q2⟩=>?_);cases b with
 |true =>
  obtain⟨N,hN,q2⟩:=q2;rw[Bb rfl];refine Iw hp (thn (hb pins s2 σ1 H2 _ I2 q2) λf s3 q3=>?_);cases f with
  |next =>
   obtain⟨σ3,H3,I3,n3⟩:=q3;obtain⟨m',hm,w3⟩:=hN σ3 H3 n3;exact⟨m',hm,σ3,H3,I3,w3⟩
  |cont =>
   obtain⟨σ3,H3,I3,n3⟩:=q3;obtain⟨m',hm,w3⟩:=hN σ3 H3 n3;exact⟨m',hm,σ3,H3,I3,w3⟩
  |brk=>exact q3
  |ret v=>exact q3
 |false =>
  rw[Bc Gc];exact Lo ⟨σ1,H2,I2,q2⟩
end
structure It where
 go:Ai->Hp->Prop
 yld:Ai->Hp->V->Hp->Prop
 stop:Ai->Hp->Prop
def x5 (X:Cx)(pins:Aa (Af × Ci))(H:Hp)(b:Af):Prop:=
 H b=none/\b≠X.env.locals/\b ∉ X.fs/\(b∈X.ex\/X.s₀.heap.objs.size<=b)/\(∀ x c,X.env.cells.lookup x=Ab c->c≠b)/\∀ p∈X.pn++pins,p.1≠b
theorem Inv.fpOk {X:Cx}{pins:Aa (Af × Ci)}{σ:St}{H H':Hp}{s:Ah}{b:Af}(I:Inv X pins σ H s)(hb:s.heap.objs.size<=b)(hn:H' b=none):x5 X pins H' b:=by
 refine⟨hn,Gv (Bm I.lt hb),I.nofs hb,.inr (Cq I.sz hb),λx c e z=>?_,λp hp z=>?_⟩
 .obtain⟨v,q⟩:=I.cell x c e
  exact absurd (Bm q.lt (by rw[z];exact hb)) (Dp _)
 .exact absurd (Bm (Ax (I.pin p hp).1) (by rw[z];exact hb)) (Dp _)
structure Turn (P:Bd)(w:Bt)(K:Aj)(tg:Br)(J:It)(fp:Aa Af)(it:Af)(tn:Ai->Bj->Prop):Prop where
 mem:it∈fp
 obj:∀ i h,tn i h->∀ b∈fp,∃ o,h.get? b=Ab o/\∀ v,o.data≠.cell v
 keep:∀ i h h',tn i h->(∀ b∈fp,∀ o,h.get? b=Ab o->h'.get? b=Ab o)->tn i h'
 item:∀ (X:Cx),X.prog=P->X.w=w->X.K=K->X.calm=true->∀ (i:Ai) (pins:Aa (Af × Ci)) (s:Ah) (σ : St) (H:Hp) (E:Ac->Ah->Prop),Inv X pins σ H s->(∀ b∈fp,x5 X pins H b)->tn i s.heap->J.go i H ->
  Ap (As P w) X.A (Mk (.ref it)) (λr s1=>∃ u,r=Ab u /\
   Ap (As P w) X.A (Jv tg (.ref it) u) (λ_ s2=>∃ x H',Inv X pins σ H' s2/\qI x u/\J.yld i H x H'/\tn (i+1) s2.heap/\∀ b∈fp,H' b=none) E s1) E s
 done:∀ (X:Cx),X.prog=P->X.w=w->X.K=K->X.calm=true->∀ (i:Ai) (pins:Aa (Af × Ci)) (s:Ah) (σ : St) (H:Hp) (E:Ac->Ah->Prop),Inv X pins σ H s->(∀ b∈fp,x5 X pins H b)->tn i s.heap->J.stop i H ->
  Ap (As P w) X.A (Mk (.ref it)) (λr s1=>r=none/\Inv X pins σ H s1) E s
 self:∀ (A:Bo) (i:Ai) (s:Ah) (Q:Ac->Ah->Prop) (E:Ac->Ah->Prop),tn i s.heap->Q (.ref it) s->Ap (As P w) A (Nl (.ref it)) Q E s
abbrev TI:=St->Hp->(It->Hp->Prop)->Prop
inductive PIE (X:Cx)(pins:Aa (Af × Ci))(σ : St)(tg:Br)(R:It->Hp->Prop)(itv:Ac)(s2:Ah):Prop
 |mk (it:Af) (fp:Aa Af) (tn:Ai->Bj->Prop) (J:It) (H':Hp) (e:itv=.ref it) (I:Inv X pins σ H' s2) (t:Turn X.prog X.w X.K tg J fp it tn) (z:tn 0 s2.heap) (f:∀ b∈fp,x5 X pins H' b) (q:R J H'):PIE X pins σ tg R itv s2
def PI (X:Cx)(tg iter:Br)(wi:TI):Prop:=
 ∀ (pins:Aa (Af × Ci)) (s:Ah) (σ : St) (H:Hp) (R:It->Hp->Prop),Inv X pins σ H s->wi σ H R ->
  Ap (As X.prog X.w) X.A (eval iter X.env) (λv s1=>Ap (As X.prog X.w) X.A (Nl v) (PIE X pins σ tg R) X.xe s1) X.xe s
theorem oI {M:Mr}{A:Bo}{E:Ac->Ah->Prop}{s:Ah}{it:Af}{u:Ac}{o:Ci}{n:Ef}{vs:Bn Ac}{Q:Qm->Ah->Prop}(ho:s.heap.get? it=Ab o)(hc:o.cls=.type n)(hd:o.data=.fields vs)
    (hn:["enumerate","zip","dict_itemiterator","dict_reverseitemiterator","odict_iterator","itertools.zip_longest","itertools.pairwise"].contains n=false) (hQ:Q () s):Ap M A (Jv tg (.ref it) u) Q E s:=by
  unfold Jv;cases tg <;> first
    |exact Ak hQ
    |(cases u <;> first
        |exact Ak hQ
        | (refine Ad (wpAny_load ho ?_)
           rw[hc,hd];show Ap M A (if (["enumerate","zip","dict_itemiterator","dict_reverseitemiterator","odict_iterator","itertools.zip_longest","itertools.pairwise"].contains n&&vs[0]? == Ab (Gf _))=true then _ else _) Q E s
           rw[Bc (by intro h;rw[hn,Hg] at h;cases h)]
           exact Ak hQ))
def Itl (K:Aj)(a:Af):It:=
 ⟨λi H=>∃ xs x,SqL K H a xs/\xs[i]? = Ab x,λi H x H'=>H'=H/\∀ xs,SqL K H a xs->xs[i]? = Ab x,λi H=>∃ xs,SqL K H a xs/\xs.length<=i⟩
def Itt (K:Aj)(a:Af):It:=
 ⟨λi H=>∃ xs x,SqT K H a xs/\xs[i]? = Ab x,λi H x H'=>H'=H/\∀ xs,SqT K H a xs->xs[i]? = Ab x,λi H=>∃ xs,SqT K H a xs/\xs.length<=i⟩
def Itr (lo:Am)(n:Ai):It:=⟨λi _=>i<n,λi H x H'=>H'=H/\x=.int (lo+i),λi _=>n<=i⟩
theorem dO (a it:Af):Turn P w K tg (Itl K a) [it] it (λi h=>h.IsListIter it a i) where
 mem:=by simp
 obj:=λi h st b hb=>by
  have e:b=it:=by simpa using hb
  subst e;obtain⟨o,e,c,d⟩:=st;exact⟨o,e,λv z=>by rw[d] at z;cases z⟩
 keep:=λi h h' st k=>st.at λo e=>k it (by simp) o e
 item:=by
  intro X hP hw hK hc i pins s σ H E I hf st hg;subst hP hw hK;obtain⟨xs,x,hq,hx⟩:=hg;obtain⟨its,rv,p,hz⟩:=I.list hq;obtain⟨u,hu,ru⟩:=rv.get hx;obtain⟨f0,f1,f2,f3,f4,f5⟩:=hf it (by simp)
  refine wpAny_pyNext_list_item st p.isList (x:=u) (by simpa using hu) λh' st' sb=>?_
  have I1:Inv X pins σ H { s with heap:=h' }:=I.turned (t':=s.toks) (λb o hb e=>(sb.2 b hb).trans e) f0 f1 f3 f4 f5
  obtain⟨o,e,c,d⟩:=id st';exact⟨u,rfl,oI (s:={ s with heap:=h' }) e c d (by decide) ⟨x,H,I1,ru,⟨rfl,λys hy=>by rw[I.list_inj hy hq];exact hx⟩,st',λb hb=>(hf b hb).1⟩⟩
 done:=by
  intro X hP hw hK hc i pins s σ H E I hf st hg;subst hP hw hK;obtain⟨xs,hq,hx⟩:=hg;obtain⟨its,rv,p,hz⟩:=I.list hq;obtain⟨f0,f1,f2,f3,f4,f5⟩:=hf it (by simp)
  have hl:=rv.length;exact wpAny_pyNext_list_end (I.ok.hd hc) st p.isList (by simp;omega) λh' eb=>⟨rfl,I.turned (t':=s.toks) (λb o hb e=>eb b o hb e) f0 f1 f3 f4 f5⟩
 self:=λ_ _ _ _ _ st h=>wpAny_pyIter_listiter st h
theorem QP (a it:Af):Turn P w K tg (Itt K a) [it] it (λi h=>h.IsTupleIter it a i) where
 mem:=by simp
 obj:=λi h st b hb=>by
  have e:b=it:=by simpa using hb
  subst e;obtain⟨o,e,c,d⟩:=st;exact⟨o,e,λv z=>by rw[d] at z;cases z⟩
 keep:=λi h h' st k=>st.at λo e=>k it (by simp) o e
 item:=by
  intro X hP hw hK hc i pins s σ H E I hf st hg;subst hP hw hK;obtain⟨xs,x,hq,hx⟩:=hg;obtain⟨its,rv,p,hz⟩:=I.tuple hq;obtain⟨u,hu,ru⟩:=rv.get hx;obtain⟨f0,f1,f2,f3,f4,f5⟩:=hf it (by simp)
  refine wpAny_pyNext_tuple_item st (show s.heap.IsTuple a its.toArray from p) (x:=u) (by simpa using hu) λh' st' sb=>?_
  have I1:Inv X pins σ H { s with heap:=h' }:=I.turned (t':=s.toks) (λb o hb e=>(sb.2 b hb).trans e) f0 f1 f3 f4 f5
  obtain⟨o,e,c,d⟩:=id st';exact⟨u,rfl,oI (s:={ s with heap:=h' }) e c d (by decide) ⟨x,H,I1,ru,⟨rfl,λys hy=>by rw[I.tuple_inj hy hq];exact hx⟩,st',λb hb=>(hf b hb).1⟩⟩
 done:=by
  intro X hP hw hK hc i pins s σ H E I hf st hg;subst hP hw hK;obtain⟨xs,hq,hx⟩:=hg;obtain⟨its,rv,p,hz⟩:=I.tuple hq;obtain⟨f0,f1,f2,f3,f4,f5⟩:=hf it (by simp)
  have hl:=rv.length;exact wpAny_pyNext_tuple_end (I.ok.hd hc) st (show s.heap.IsTuple a its.toArray from p) (by simp;omega) λh' eb=>⟨rfl,I.turned (t':=s.toks) (λb o hb e=>eb b o hb e) f0 f1 f3 f4 f5⟩
 self:=λ_ _ _ _ _ st h=>wpAny_pyIter_tupleiter st h
theorem QN (it:Af)(lo:Am)(n:Ai):Turn P w K tg (Itr lo n) [it] it (λi h=>IsRangeIter h it (lo+(i:Ai)*1) ((n:Am)-(i:Ai)) 1) where
 mem:=by simp
 obj:=λi h st b hb=>by
  have e:b=it:=by simpa using hb
  subst e;exact⟨_,st,λv z=>by
   have z':Data.fields _=Data.cell v:=z;cases z'⟩
 keep:=λi h h' st k=>k it (by simp) _ st
 item:=by
  intro X hP hw hK hc i pins s σ H E I hf st hg;subst hP hw hK;obtain⟨f0,f1,f2,f3,f4,f5⟩:=hf it (by simp)
  have W:=Walks.range (prog:=X.prog) (w:=X.w) (I.ok.hd hc) it lo 1 n;refine W.item i s _ _ hg st λv h' tk hv st' kk=>?_;obtain⟨t,rfl⟩:=hv;have I1:Inv X pins σ H { s with heap:=h',toks:=tk }:=I.turned (λb o hb e=>kk b o (by simpa using hb) e) f0 f1 f3 f4 f5
  refine⟨_,rfl,oI (s:={ s with heap:=h',toks:=tk }) (n:="range_iterator") st' rfl rfl (by decide) ⟨.int (lo+i),H,I1,⟨t,?_⟩,⟨rfl,rfl⟩,st',λb hb=>(hf b hb).1⟩⟩
  rw[Int.mul_one]
 done:=by
  intro X hP hw hK hc i pins s σ H E I hf st hg;subst hP hw hK;obtain⟨f0,f1,f2,f3,f4,f5⟩:=hf it (by simp)
  exact wpAny_pyNext_range_end (I.ok.hd hc) st (by have:n<=i:=hg;omega) λh' eb=>⟨rfl,I.turned (t':=s.toks) (λb o hb e=>eb b o hb e) f0 f1 f3 f4 f5⟩
 self:=λ_ _ _ _ _ st h=>wpAny_pyIter_rangeiter st h
end _L
namespace _L
open PySem PySem.Spec PyProof.Rows
variable {pins:Aa (Af × Ci)}{fp:Aa Af}{s:Ah}{H:Hp}{σ:St}
section
variable {X:Cx}{tg:Br}
theorem eQ {R:It->Hp->Prop}{E:Ac->Ah->Prop}{lo hi:Am}{t u v:Pi}{tk:Ai}(I:Inv X pins σ H s)(h1 : -(2 ^ 62)<=lo)(h2:lo<2 ^ 62)(h3 : -(2 ^ 62)<=hi)(h4:hi<2 ^ 62)
  (q:R (Itr lo (hi-lo).toNat) H):Ap (As X.prog X.w) X.A (Nl (.ref s.heap.objs.size)) (PIE X pins σ tg R) E { s with heap:=s.heap.push { cls:=.type "range",data:=.fields #[.int lo t,.int hi u,.int 1 v] },toks:=tk }:=by
 refine wpAny_pyIter_range (IsRange.new ..) (small_one h1 h2 h3 h4) ?_;have I1:Inv X pins σ H { s with heap:=s.heap.push { cls:=.type "range",data:=.fields #[.int lo t,.int hi u,.int 1 v] },toks:=tk }:=I.kept λb o e=>Ag _ e
 refine⟨(s.heap.push { cls:=.type "range",data:=.fields #[.int lo t,.int hi u,.int 1 v] }).objs.size,[(s.heap.push { cls:=.type "range",data:=.fields #[.int lo t,.int hi u,.int 1 v] }).objs.size],_,_,H,rfl,
  I1.kept (t':=tk) λb o e=>Ag _ e,QN _ lo (hi-lo).toNat,?_,λb hb=>?_,q⟩
 .have e1:lo+((0:Ai):Am)*1=lo:=by simp
  have e2:(((hi-lo).toNat:Ai):Am)-((0:Ai):Am)=Builtin.Range.rangeSize lo hi 1:=by rw[rangeSize_one];split <;> omega
  show IsRangeIter _ _ (lo+((0:Ai):Am)*1) ((((hi-lo).toNat:Ai):Am)-((0:Ai):Am)) 1;rw[e1,e2];exact Ba _ rfl
 .have e:b=(s.heap.push { cls:=.type "range",data:=.fields #[.int lo t,.int hi u,.int 1 v] }).objs.size:=by simpa using hb
  subst e;exact I1.fpOk (AT _) (I1.hok.fresh (AT _))
def OZ (wi:TI)(g:TG)(tb:TS):TS:=λD σ H=>wi σ H λJ H1=>∃ W:Ai->Ai->St->Hp->Prop,(∃ m,W 0 m σ H1)/\∀ i m σ H,W i m σ H ->
 (J.stop i H/\D.nx σ H)\/(J.go i H/\∃ N:St->Hp->Prop,(∀ σ' H',N σ' H'->∃ m',m'<m/\W (i+1) m' σ' H')/\∀ x H',J.yld i H x H'->g x σ H' λσ2 H2=>tb { D with nx:=N,ct:=N,bk:=D.nx } σ2 H2)
def vD (fp:Aa Af)(h:Bj):Aa (Af × Ci):=fp.filterMap λb=>(h.get? b).map λo=>(b,o)
theorem uA {h:Bj}{b:Af}{o:Ci}(hb:b∈fp)(e:h.get? b=Ab o):(b,o)∈vD fp h:=Hc.mpr ⟨b,hb,by rw[e];rfl⟩
theorem d7 {h:Bj}{p:Af × Ci}(hp:p∈vD fp h):p.1∈fp/\h.get? p.1=Ab p.2:=by
 obtain⟨b,hb,e⟩:=Hc.mp hp;cases q:h.get? b with
 |none=>rw[q] at e;cases e
 |some o =>
  rw[q] at e;have e':(b,o)=p:=Co e;subst e';exact⟨hb,q⟩
theorem Inv.pinned (I:Inv X pins σ H s)(hf:∀ b∈fp,x5 X pins H b)(ho:∀ b∈fp,∃ o,s.heap.get? b=Ab o/\∀ v,o.data≠.cell v):Inv X (pins++vD fp s.heap) σ H s:=
 I.pins_of λp hp=>(Cp.mp hp).elim (λz=>I.pin p (Bp _ z)) λz=>by
  obtain⟨hb,e⟩:=d7 z;obtain⟨f0,f1,f2,_⟩:=hf p.1 hb;obtain⟨o,e',d⟩:=ho p.1 hb;rw[e] at e';cases e';exact⟨e,f0,f1,f2,d⟩
theorem Inv.unpinned {pl:Aa (Af × Ci)}(I:Inv X (pins++pl) σ H s):Inv X pins σ H s:=I.pins_of λp hp=>I.pin p (Bp _ (Dh _ hp))
inductive ForI (X:Cx)(pins:Aa (Af × Ci))(fp:Aa Af)(tn:Ai->Bj->Prop)(W:Ai->Ai->St->Hp->Prop)(n:Ai)(s':Ah):Prop
 |mk (i:Ai) (σ' : St) (H':Hp) (I:Inv X pins σ' H' s') (t:tn i s'.heap) (f:∀ b∈fp,H' b=none) (w:W i n σ' H'):ForI X pins fp tn W n s'
theorem R3 {iter:Br}{body:Aa Fa}{wi:TI}{g:TG}{tb:TS}{pos:Ex}(hp:Og (As X.prog X.w) X.A X.env X.xe)(hc:X.calm=true)(hi:PI X tg iter wi)(hg:PG X tg g)(hb:PSs X body tb)
  (hs:∀ x,Fb iter X.env x=pure x:=by intro _;rfl):PS X (.For tg iter body [] pos) (OZ wi g tb):=by
 intro pins s σ H D I h;refine wpAny_For (thn (hi pins s σ H _ I h) λv s1 h1=>thn h1 λitv s2 h2=>?_) hs;obtain⟨it,fp,tn,J,H2,e,I2,T,st2,f2,W,⟨m0,w0⟩,turn⟩:=h2;subst e;have stat:∀ {H':Hp},(∀ b∈fp,H' b=none)->∀ b∈fp,x5 X pins H' b:=λhn b hb=>⟨hn b hb,(f2 b hb).2⟩;refine codeAny_forLoop_any (ForI X pins fp tn W) ?_ m0 ⟨0,σ,H2,I2,st2,λb hb=>(f2 b hb).1,w0⟩;rintro n s3 ⟨i,σ3,H3,I3,st3,fr3,w3⟩;rcases turn i n σ3 H3 w3 with⟨stop,qn⟩|⟨go,N,hN,step⟩
 .refine Iw hp (thn (T.done X rfl rfl rfl hc i pins s3 σ3 H3 X.xe I3 (stat fr3) st3 stop) λr s4 ⟨hr,I4⟩=>?_)
  subst hr;exact Lo ⟨σ3,H3,I4,qn⟩
 .refine Iw hp (thn (T.item X rfl rfl rfl hc i pins s3 σ3 H3 X.xe I3 (stat fr3) st3 go) λr s4 ⟨u,hr,h4⟩=>?_)
  subst hr;refine Iw hp (thn h4 λ_ s5 ⟨x,H5,I5,r5,y5,st5,fr5⟩=>?_);have I5':=I5.pinned (stat fr5) (T.obj _ _ st5);refine Iw hp (thn (hg _ s5 σ3 H5 x u _ I5' r5 (step x H5 y5)) λ_ s6 ⟨σ6,H6,I6,q6⟩=>?_);refine Iw hp (thn (hb _ s6 σ6 H6 _ I6 q6) λf s7 q7=>?_);have again:∀ {σ7:St} {H7:Hp},Inv X (pins++vD fp s5.heap) σ7 H7 s7->N σ7 H7->∃ m,m<n/\ForI X pins fp tn W m s7:=λ{σ7 H7} I7 n7=>by
   obtain⟨m',hm,w7⟩:=hN σ7 H7 n7;refine⟨m',hm,i+1,σ7,H7,I7.unpinned,T.keep _ _ _ st5 λb hb o e=>(I7.pin (b,o) (Bp _ (Bp _ (uA hb e)))).1,λb hb=>?_,w7⟩;obtain⟨o,e,d⟩:=T.obj _ _ st5 b hb;exact(I7.pin (b,o) (Bp _ (Bp _ (uA hb e)))).2.1
  cases f with
  |next=>obtain⟨σ7,H7,I7,n7⟩:=q7;exact again I7 n7
  |cont=>obtain⟨σ7,H7,I7,n7⟩:=q7;exact again I7 n7
  |brk=>obtain⟨σ7,H7,I7,q7⟩:=q7;exact⟨σ7,H7,I7.unpinned,q7⟩
  |ret v=>obtain⟨x7,σ7,H7,I7,r7,q7⟩:=q7;exact⟨x7,σ7,H7,I7.unpinned,r7,q7⟩
end
end _L
namespace _L
open PySem PySem.Spec PyProof.Rows
variable {us:Aa Ac}{f:Ac->Ac->Oa Ac}{g:Am->Am->Am}
abbrev R2:=V->V->Hp->VK->Prop
def OpR (X:Cx)(f:Ac->Ac->Oa Ac)(r:R2):Prop:=
 ∀ (pins:Aa (Af × Ci)) (s:Ah) (σ : St) (H:Hp) (x y:V) (v u:Ac) (Q:VK),Inv X pins σ H s->qI x v->qI y u->r x y H Q ->
  Ap (As X.prog X.w) X.A (f v u) (EP X pins σ Q) X.xe s
def UnR (X:Cx)(f:Ac->Oa Ac)(r:V->Hp->VK->Prop):Prop:=
 ∀ (pins:Aa (Af × Ci)) (s:Ah) (σ : St) (H:Hp) (x:V) (v:Ac) (Q:VK),Inv X pins σ H s->qI x v->r x H Q ->
  Ap (As X.prog X.w) X.A (f v) (EP X pins σ Q) X.xe s
def j8 (X:Cx)(f:Ac)(r:Aa V->Hp->VK->Prop):Prop:=
 ∀ (pins:Aa (Af × Ci)) (s:Ah) (σ : St) (H:Hp) (xs:Aa V) (us:Aa Ac) (Q:VK),Inv X pins σ H s->qH xs us->r xs H Q ->
  Ap (As X.prog X.w) X.A (call f us) (EP X pins σ Q) X.xe s
def IM (X:Cx)(r:V->Hp->(Ar->Hp->Prop)->Prop):Prop:=
 ∀ (pins:Aa (Af × Ci)) (s:Ah) (σ : St) (H:Hp) (x:V) (v:Ac) (Q:Ar->Hp->Prop),Inv X pins σ H s->qI x v->r x H Q ->
  Ap (As X.prog X.w) X.A (truthy v) (TP X pins σ Q) X.xe s
def tOp (r:R2)(ta tb:TE):TE:=λσ H Q=>ta σ H λx H1=>tb σ H1 λy H2=>r x y H2 Q
def rI (C:Am->Am->Prop)(g:Am->Am->V):R2:=λx y H Q=>∃ i j,x=.int i/\y=.int j/\C i j/\Q (g i j) H
def rI0 (g:Am->Am->V):R2:=λx y H Q=>∃ i j,x=.int i/\y=.int j/\Q (g i j) H
def rU (g:Am->V):V->Hp->VK->Prop:=λx H Q=>∃ i,x=.int i/\Q (g i) H
section
variable {X:Cx}{a b c:Br}{ta tb tc:TE}{pos:Ex}
theorem IU (ha:PE X a ta)(hb:PE X b tb){pins:Aa (Af × Ci)}{s:Ah}{σ : St}{H:Hp}{R:V->V->Hp->Prop}(I:Inv X pins σ H s)
  (h:ta σ H λx H1=>tb σ H1 λy H2=>R x y H2) {Q:Ac->Ah->Prop} {f:Ac->Ac->Oa Ac}
  (hf:∀ v u s2 x y H2,Inv X pins σ H2 s2->qI x v->qI y u->R x y H2->Ap (As X.prog X.w) X.A (f v u) Q X.xe s2) :
  Ap (As X.prog X.w) X.A (eval a X.env) (λv s₁=>Ap (As X.prog X.w) X.A (eval b X.env) (λu s₂=>Ap (As X.prog X.w) X.A (f v u) Q X.xe s₂) X.xe s₁) X.xe s:=by
 refine thn (ha pins s σ H _ I h) λv s1 ⟨x,H1,I1,r1,q1⟩=>?_;refine thn (hb pins s1 σ H1 _ I1 q1) λu s2 ⟨y,H2,I2,r2,q2⟩=>?_;exact hf v u s2 x y H2 I2 r1 r2 q2
theorem opI {f:Ac->Ac->Oa Ac}{C:Am->Am->Prop}
  (rule:∀ (i j:Am) (t u:Pi) (s:Ah) (Q:Ac->Ah->Prop) (E:Ac->Ah->Prop),C i j->Q (.int (g i j) s.toks) { s with toks:=s.toks+1 } -> Ap (As X.prog X.w) X.A (f (.int i t) (.int j u)) Q E s) :
  OpR X f (rI C λi j=>.int (g i j)):=by
 intro pins s σ H x y v u Q I rx ry h;obtain⟨i,j,rfl,rfl,hc,q⟩:=h;obtain⟨t,rfl⟩:=rx;obtain⟨t',rfl⟩:=ry;exact rule i j t t' s _ _ hc ⟨.int (g i j),H,I.tok _,⟨_,rfl⟩,q⟩
theorem SJ {f:Ac->Ac->Oa Ac}
  (rule:∀ (i j:Am) (t u:Pi) (s:Ah) (Q:Ac->Ah->Prop) (E:Ac->Ah->Prop),Q (.int (g i j) s.toks) { s with toks:=s.toks+1 } -> Ap (As X.prog X.w) X.A (f (.int i t) (.int j u)) Q E s) :
  OpR X f (rI0 λi j=>.int (g i j)):=by
 intro pins s σ H x y v u Q I rx ry h;obtain⟨i,j,rfl,rfl,q⟩:=h;obtain⟨t,rfl⟩:=rx;obtain⟨t',rfl⟩:=ry;exact rule i j t t' s _ _ ⟨.int (g i j),H,I.tok _,⟨_,rfl⟩,q⟩
theorem Q4 {g:Am->Am->Ar}
  (rule:∀ (i j:Am) (t u:Pi) (s:Ah) (Q:Ac->Ah->Prop) (E:Ac->Ah->Prop),Q (.bool (g i j)) s->Ap (As X.prog X.w) X.A (f (.int i t) (.int j u)) Q E s) :
  OpR X f (rI0 λi j=>.bl (g i j)):=by
 intro pins s σ H x y v u Q I rx ry h;obtain⟨i,j,rfl,rfl,q⟩:=h;obtain⟨t,rfl⟩:=rx;obtain⟨t',rfl⟩:=ry;exact rule i j t t' s _ _ ⟨.bl (g i j),H,I,rfl,q⟩
def IJ (i j:Am):Prop:=0<j/\j<1073741824
def IK (i j:Am):Prop:=0<=j/\j<=1000000/\i.natAbs<2 ^ 64
def Y9 (i j:Am):Prop:=(-(2 ^ 64)<i/\i<2 ^ 64)\/(-(2 ^ 64)<j/\j<2 ^ 64)
theorem Y9.ok {i j:Am}(h:Y9 i j):IntMulOk i j:=by
 rcases h with⟨h1,h2⟩|⟨h1,h2⟩
 .exact .of_left (intBits_le_64 h1 h2)
 .exact .of_right (intBits_le_64 h1 h2)
theorem SK:OpR X (Ek .Add) (rI0 λi j=>.int (i+j)):=SJ λ_ _ _ _ _ _ _ q=>add_int q
theorem SQ:OpR X (Ek .Sub) (rI0 λi j=>.int (i-j)):=SJ λ_ _ _ _ _ _ _ q=>sub_int q
theorem SN:OpR X (Ek .Mult) (rI Y9 λi j=>.int (i*j)):=opI λ_ _ _ _ _ _ _ hc q=>mul_int q hc.ok
theorem F2:OpR X (Ek .FloorDiv) (rI IJ λi j=>.int (i/j)):=opI λi j _ _ _ _ _ hc q=>by
 have h1:(0:Am)<j:=hc.1;have h2:j<1073741824:=hc.2;exact floordiv_int om (by rw[Int.fdiv_eq_ediv_of_nonneg i om];exact q) (.inl (PyProof.noPylong_small om))
theorem SM:OpR X (Ek .Mod) (rI (λ_ j=>0<j) λi j=>.int (i % j)):=opI λi j _ _ _ _ _ hc q=>by
 have h1:(0:Am)<j:=hc;exact mod_int' om (by rw[Int.fmod_eq_emod_of_nonneg i om];exact q)
theorem SO:OpR X (Ek .Pow) (rI IK λi j=>.int (i ^ j.toNat)):=opI λ_ _ _ _ _ _ _ hc q=>pow_int_small hc.1 hc.2.1 hc.2.2 q
theorem unI {f:Ac->Oa Ac}{g:Am->Am}
  (rule:∀ (i:Am) (t:Pi) (s:Ah) (Q:Ac->Ah->Prop) (E:Ac->Ah->Prop),Q (.int (g i) s.toks) { s with toks:=s.toks+1 } -> Ap (As X.prog X.w) X.A (f (.int i t)) Q E s) :
  UnR X f (rU λi=>.int (g i)):=by
 intro pins s σ H x v Q I rx h;obtain⟨i,rfl,q⟩:=h;obtain⟨t,rfl⟩:=rx;exact rule i t s _ _ ⟨.int (g i),H,I.tok _,⟨_,rfl⟩,q⟩
theorem E9:UnR X (Yv .USub) (rU λi=>.int (-i)):=unI λ_ _ _ _ _ q=>neg_int q
end
section
variable {X:Cx}{a b c:Br}{ta tb tc:TE}{pos:Ex}
theorem NZ {pins:Aa (Af × Ci)}{σ:St}{H:Hp}{s:Ah}{Q:VK}{k k':Ar}(I:Inv X pins σ H s)(q:Q (.bl k) H)(e:k=k'):EP X pins σ Q (.bool k') s:=by
 subst e;exact⟨.bl k,H,I,rfl,q⟩
theorem A2:OpR X (Cu .Lt) (rI0 λi j=>.bl (decide (i<j))):=Q4 λ_ _ _ _ _ _ _ q=>lt_int q
theorem A1:OpR X (Cu .LtE) (rI0 λi j=>.bl (decide (i<=j))):=Q4 λ_ _ _ _ _ _ _ q=>le_int q
theorem A0:OpR X (Cu .Gt) (rI0 λi j=>.bl (decide (j<i))):=Q4 λ_ _ _ _ _ _ _ q=>gt_int q
theorem CZ:OpR X (Cu .GtE) (rI0 λi j=>.bl (decide (j<=i))):=Q4 λ_ _ _ _ _ _ _ q=>ge_int q
theorem SL:OpR X (Cu .Is) (λx y H Q=>y=.non/\Q (.bl (decide (x=.non))) H):=by
 intro pins s σ H x y v u Q I rx ry h;obtain⟨rfl,q⟩:=h;cases ry;refine is_none_gen (NZ I q ?_);cases x <;> first
  |(cases rx;rfl)
  |(obtain⟨t,rfl⟩:=rx;rfl)
theorem OpR.or {r r':R2}(h:OpR X f r)(h':OpR X f r'):OpR X f (λx y H Q=>r x y H Q\/r' x y H Q):=by
 intro pins s σ H x y v u Q I rx ry q;rcases q with q|q
 .exact h pins s σ H x y v u Q I rx ry q
 .exact h' pins s σ H x y v u Q I rx ry q
theorem k8 (b:Br){op:Uf}(h:op≠.In:=by decide)(h2:op≠.NotIn:=by decide):Lf op b=false:=by
 have e1:(op == CmpOp.In)=false:=by cases op <;> first|rfl|exact absurd rfl h
 have e2:(op == CmpOp.NotIn)=false:=by cases op <;> first|rfl|exact absurd rfl h2
 cases b <;> simp[Lf,e1,e2]
def iY (K:Aj)(x:V)(H:Hp)(k:Ar):Prop:=
 match x with
 |.non=>k=false
 |.bl b=>k=b
 |.int i=>k=(i != 0)
 |.str y=>y.length<=sizeLine/\k=((y.length:Am) != 0)
 |.byt y=>y.size<=sizeLine/\k=((y.size:Am) != 0)
 |.ref p=>(∃ xs,SqL K H p xs/\k=!xs.isEmpty)\/(∃ xs,SqT K H p xs/\k=!xs.isEmpty)\/∃ kvs,H p=Ab (.dK kvs)/\k=!kvs.isEmpty
 |_=>Fh
theorem oK {κ:Type}{kvs:Aa (κ × V)}{vs:Aa (κ × Ac)}(r:KV kvs vs):(!vs.isEmpty)=!kvs.isEmpty:=by
 cases r <;> rfl
theorem mH {xs:Aa V}{its:Aa Ac}(r:qH xs its):(!its.toArray.isEmpty)=!xs.isEmpty:=by
 cases r <;> simp
theorem pJ:(sizeLine:Ai)<2 ^ 63:=by rw[Ev];decide
theorem pT:IM X (λx H Q=>∃ k,iY X.K x H k/\Q k H):=by
 intro pins s σ H x v Q I rx h;obtain⟨k,e,q⟩:=h;have hl:=pJ;have hs:sizeLine=16777216:=Ev;cases x with
 |non =>
  cases rx;have e':k=false:=e;subst e';exact truthy_none ⟨H,I,q⟩
 |bl b =>
  cases rx;have e':k=b:=e;subst e';exact Ms ⟨H,I,q⟩
 |int i =>
  obtain⟨t,rfl⟩:=rx;have e':k=(i != 0):=e;subst e';exact PySem.P.truthy_int ⟨H,I,q⟩
 |str y =>
  obtain⟨t,rfl⟩:=rx;obtain⟨hy,e'⟩:y.length<=sizeLine/\k=((y.length:Am) != 0):=e;subst e';exact PySem.P.truthy_str om ⟨H,I.tok _,q⟩
 |byt y =>
  obtain⟨t,rfl⟩:=rx;obtain⟨hy,e'⟩:y.size<=sizeLine/\k=((y.size:Am) != 0):=e;subst e';exact PySem.W.truthy_bytes om ⟨H,I.tok _,q⟩
 |ref p =>
  cases rx;have e':(∃ xs,SqL X.K H p xs/\k=!xs.isEmpty)\/(∃ xs,SqT X.K H p xs/\k=!xs.isEmpty)\/∃ kvs,H p=Ab (.dK kvs)/\k=!kvs.isEmpty:=e;rcases e' with⟨xs,hx,e'⟩|⟨xs,hx,e'⟩|⟨kvs,hx,e'⟩
  .subst e'
   obtain⟨its,r,pl,hz⟩:=I.list hx;have hlen:=r.length;exact wpAny_truthy_list pl.isList (by simp only[Ay];omega) ⟨H,I.tok _,by rw[mH r];exact q⟩
  .subst e'
   obtain⟨its,r,pl,hz⟩:=I.tuple hx;have hlen:=r.length;exact truthy_tuple pl (by simp only[Ay];omega) ⟨H,I.tok _,by rw[mH r];exact q⟩
  .subst e'
   obtain⟨hz,hS,vs,r,m⟩:kvs.length<=sizeLine/\(p == Jh)=false/\∃ vs,KV kvs vs/\s.heap.DictOf (zI X.prog X.w) p vs:=I.hok p _ hx;have hlen:kvs.length=vs.length:=Paired.length r;exact wpAny_truthy_dict hS m om ⟨H,I.tok _,by rw[oK r];exact q⟩
 |_=>exact(show Fh from e).elim
theorem Q5:OpR X (Ek .Add) (λx y H Q=>∃ i j,x=.str i/\y=.str j/\i.length+j.length<=sizeLine/\Q (.str (i++j)) H):=by
 intro pins s σ H x y v u Q I rx ry h;obtain⟨i,j,rfl,rfl,hz,q⟩:=h;obtain⟨t,rfl⟩:=rx;obtain⟨t',rfl⟩:=ry;exact add_str (λt' tk=>⟨.str (i++j),H,I.tok _,⟨_,rfl⟩,q⟩) hz
theorem jG {x:V}(r:qH [x] us):∃ u,us=[u]/\qI x u:=by
 cases r with
 |cons r1 r2=>cases r2;exact⟨_,rfl,r1⟩
theorem sM {x y:V}(r:qH [x,y] us):∃ u w',us=[u,w']/\qI x u/\qI y w':=by
 cases r with
 |cons r1 r2 =>
  cases r2 with
  |cons r3 r4=>cases r4;exact⟨_,_,rfl,r1,r3⟩
theorem lE:j8 X (.type "int") (λxs H Q=>(∃ i,xs=[.int i]/\Q (.int i) H)\/∃ k,xs=[.bl k]/\Q (.int (if k then 1 else 0)) H):=by
 intro pins s σ H xs us Q I r h;rcases h with⟨i,rfl,q⟩|⟨k,rfl,q⟩
 .obtain⟨u,rfl,t,rfl⟩:=jG r
  exact call_int_int ⟨.int i,H,I,⟨_,rfl⟩,q⟩
 .obtain⟨u,rfl,r1⟩:=jG r
  cases r1;exact call_int_bool ⟨.int (if k then 1 else 0),H,I.tok _,⟨_,rfl⟩,q⟩
def MP (K:Aj)(x:V)(H:Hp)(n:Ai):Prop:=
 match x with
 |.str y=>y.length<=sizeLine/\n=y.length
 |.byt y=>y.size<=sizeLine/\n=y.size
 |.ref p=>(∃ xs,SqL K H p xs/\n=xs.length)\/∃ xs,SqT K H p xs/\n=xs.length
 |_=>Fh
theorem YG:j8 X (.builtin "len") (λxs H Q=>∃ x n,xs=[x]/\MP X.K x H n/\Q (.int n) H):=by
 intro pins s σ H xs us Q I r h;obtain⟨x,n,rfl,e,q⟩:=h;obtain⟨u,rfl,rx⟩:=jG r;have hl:=pJ;have hs:sizeLine=16777216:=Ev;cases x with
 |str y =>
  obtain⟨t,rfl⟩:=rx;obtain⟨hy,e'⟩:y.length<=sizeLine/\n=y.length:=e;subst e';exact len_str om ⟨.int _,H,I.tok _,⟨_,rfl⟩,q⟩
 |byt y =>
  obtain⟨t,rfl⟩:=rx;obtain⟨hy,e'⟩:y.size<=sizeLine/\n=y.size:=e;subst e';exact PySem.W.len_bytes om ⟨.int _,H,I.tok _,⟨_,rfl⟩,q⟩
 |ref p =>
  cases rx;have e':(∃ xs,SqL X.K H p xs/\n=xs.length)\/∃ xs,SqT X.K H p xs/\n=xs.length:=e;rcases e' with⟨xs,hx,e'⟩|⟨xs,hx,e'⟩
  .subst e'
   obtain⟨its,r',pl,hz⟩:=I.list hx;have hlen:=r'.length;exact Calls.call_len_list pl.isList (by simp only[Ay];omega) ⟨.int xs.length,H,I.tok _,⟨_,by simp only[Ay];rw[hlen]⟩,q⟩
  .subst e'
   obtain⟨its,r',pl,hz⟩:=I.tuple hx;have hlen:=r'.length;exact len_tuple pl (by simp only[Ay];omega) ⟨.int xs.length,H,I.tok _,⟨_,by simp only[Ay];rw[hlen]⟩,q⟩
 |_=>exact(show Fh from e).elim
end
end _L
namespace _L
open PySem PySem.Spec PyProof.Rows
variable {mA:Av->Al Ac}
structure ObjM (h:Bj)(x dx C:Af)(mA:Av->Al Ac):Prop where
 obj:h.get? x=Ab (Th C dx)
 ns:h.Ns1 dx mA
 ne:dx≠x
set_option tactic.hygienic true in
theorem X5 {h:Bj}{dx:Af}(n:h.Ns1 dx mA):∃ od,h.get? dx=Ab od/\∀ name,Ux name od=Ab (mA name):=by
 obtain⟨o,es,ep,ho,hd,hk,_,hm⟩:=n;refine⟨o,ho,λname=>?_⟩;have e:=hm name;unfold nsFind findBy at e;rw[<- Array.find?_toList] at e;unfold Ux;rw[hd];dsimp only
 split
 .rename_i y q
  rw[q] at e;exact congrArg Ab e
 .rename_i q
  rw[q] at e;have a:es.toList.any (·.refKey)=false:=by
   rw[List.any_eq_false];intro y hy;obtain⟨z,t,hkey⟩:=hk y (Ob.mp hy);simp[DictEntry.refKey,hkey]
  have a':¬ es.toList.any (·.refKey)=true:=by rw[a];exact Gc
  rw[Bc a'];exact congrArg Ab e
theorem ObjM.look {h:Bj}{x dx C:Af}(I:ObjM h x dx C mA):∃ od,PySem.W.InstAt h x (Th C dx) C (Ab od)/\∀ name,Ux name od=Ab (mA name):=
 let ⟨od,ho,hl⟩:=X5 I.ns
 ⟨od,⟨I.obj,rfl,rfl,ho⟩,hl⟩
theorem vJ.some_of {v:V}{o:Al Ac}(r:vJ (Ab v) o):∃ u,o=Ab u/\qI v u:=by
 cases o with
 |none=>exact(show Fh from r).elim
 |some u=>exact⟨u,rfl,r⟩
section
variable {P:Bd}{w:Bt}{H H':Hp}{h h':Bj}{a C dx:Af}{fs fs':Aa (Av × V)}
theorem B6 (hok:HOk P w H h)(e:H a=Ab (.ins C dx fs)):∃ mA,ObjM h a dx C mA/\(∀ f,vJ (fs.lookup f) (mA f))/\AaH mA (fs.map (·.1))/\fs.length<=1000/\H dx=Ab (.own a):=by
 obtain⟨d,z,ne,ob,mA,n,r,q⟩:=(show z9 P w H h a (.ins C dx fs) from hok a _ e)
 exact⟨mA,⟨ob,n,ne⟩,r,q,z,d⟩
end
structure Cls (K:Aj)(C:Af):Prop where
 pg:Yw K C Str.empty=true
 hd:PySem.W.hasDictIn K C=true
 po:PySem.W.plainOver K C=true
 sa:Ml K (.ref C) "__setattr__" = Ab (Ab (.builtin "object.__setattr__"))
theorem Cls.get {K:Aj}{C:Af}(c:Cls K C)(f:Av):Yw K C f=true:=c.pg
section
variable {X:Cx}{pins:Aa (Af × Ci)}{σ : St}{H:Hp}{s:Ah}{A:Bo}{E:Ac->Ah->Prop}{Q:Ac->Ah->Prop}{c:Ac}{b:Ar}
inductive TyOf (K:Aj)(H:Hp):V->Ac->Prop where
 |non:TyOf K H .non (.type "NoneType")
 |bl (x:Ar):TyOf K H (.bl x) (.type "bool")
 |int (i:Am):TyOf K H (.int i) (.type "int")
 |str (x:Av):TyOf K H (.str x) (.type "str")
 |flt (x:UInt64):TyOf K H (.flt x) (.type "float")
 |lst {a:Af} {xs:Aa V} (e:H a=Ab (.lst xs)):TyOf K H (.ref a) (.type "list")
 |frz {a:Af} {o:Ci} {xs:Aa V} (e:H a=Ab (.frz o (.lst xs))):TyOf K H (.ref a) (.type "list")
 |tup {a:Af} {xs:Aa V} (e:H a=Ab (.tup xs)):TyOf K H (.ref a) (.type "tuple")
 |dK {a:Af} {kvs:Aa (Key × V)} (e:H a=Ab (.dK kvs)):TyOf K H (.ref a) (.type "dict")
 |dT {a:Af} {kvs:Aa (Aa Key × V)} (e:H a=Ab (.dT kvs)):TyOf K H (.ref a) (.type "dict")
 |ins {a C dx:Af} {fs:Aa (Av × V)} (e:H a=Ab (.ins C dx fs)) (cl:Cls K C) (ha:Ml K (.ref C) "__class__" = Ab (Ab (.builtin "object.__class__")))
   (hn:Ya K (.builtin "object.__class__") "__get__" = Ab (Ab (.builtin "getset_descriptor.__get__"))) (htk:Zt K (.builtin "object.__class__")=Ab true)
   (hm:Vy K C (.type "object")=Ab true):TyOf K H (.ref a) (.ref C)
theorem ZY {x:V}{u t:Ac}(I:Inv X pins σ H s)(rx:qI x u)(ty:TyOf X.K H x t)(e:Km X.K t c=Ab b)(h:∀ tk,Q (.bool b) { s with toks:=tk }) :
  Ap (As X.prog X.w) A (call (.builtin "isinstance") [u,c]) Q E s:=by
 cases ty with
 |non=>cases (show u=Er from rx);exact En Yb I.kIn Hu e (λz=>nomatch z) h
 |bl y=>cases (show u=Fp y from rx);exact En Yc I.kIn Hu e (λz=>nomatch z) h
 |int i=>obtain⟨t,q⟩:=(show ∃ t,u=Oe i t from rx);cases q;exact En Yx I.kIn Hu e (λz=>nomatch z) h
 |str y=>obtain⟨t,q⟩:=(show ∃ t,u=Ue y t from rx);cases q;exact En Yy I.kIn Hu e (λz=>nomatch z) h
 |flt y=>obtain⟨t,q⟩:=(show ∃ t,u=Value.float y t from rx);cases q;exact En PySem.W.kitx_float I.kIn Hu e (λz=>nomatch z) h
 |@lst a xs ea =>
  cases (show u=Bs a from rx)
  obtain⟨_,_,n,_,h1⟩:=(show z9 X.prog X.w H s.heap a (.lst xs) from I.hok a _ ea)
  exact En IN I.kIn ⟨_,h1,rfl⟩ e (λz=>nomatch z) h
 |@frz a ob xs ea =>
  cases (show u=Bs a from rx)
  obtain⟨_,_,_,n,_,h1⟩:=(show z9 X.prog X.w H s.heap a (.frz ob (.lst xs)) from I.hok a _ ea)
  exact En IN I.kIn ⟨_,h1,rfl⟩ e (λz=>nomatch z) h
 |@tup a xs ea =>
  cases (show u=Bs a from rx)
  obtain⟨_,_,_,p⟩:=(show z9 X.prog X.w H s.heap a (.tup xs) from I.hok a _ ea)
  obtain⟨o,h1,h2,_⟩:=p;exact En Mb I.kIn ⟨o,h1,h2⟩ e (λz=>nomatch z) h
 |@dK a kvs ea =>
  cases (show u=Bs a from rx)
  obtain⟨_,_,vs,_,p⟩:=(show z9 X.prog X.w H s.heap a (.dK kvs) from I.hok a _ ea)
  obtain⟨o,es,ep,h1,h2,_⟩:=p;exact En Mt I.kIn ⟨o,h1,h2.1⟩ e (λz=>nomatch z) h
 |@dT a kvs ea =>
  cases (show u=Bs a from rx)
  obtain⟨_,_,xs,_,o,es,ep,h1,h2,_⟩:=(show z9 X.prog X.w H s.heap a (.dT kvs) from I.hok a _ ea)
  exact En Mt I.kIn ⟨o,h1,h2.1⟩ e (λz=>nomatch z) h
 |@ins a C dx fs ea cl ha hn htk hm =>
  cases (show u=Bs a from rx)
  obtain⟨mA,O,_⟩:=B6 I.hok ea;obtain⟨od,J,_⟩:=O.look;exact En (PySem.W.kitx_own (cl.get _) cl.hd ha hn htk hm) I.kIn J e (λz=>nomatch z) h
end
end _L
namespace _L
open PySem PySem.Spec PyProof.Rows
variable {ps:Aa Av}{K:Aj}{mg:Av->Al Ac}{kindOf:Av->Al Ht}{A:Bo}{scope:Em}
structure Room (k:Ai)(A:Bo):Prop where
 hd:A.handled=none
 dp:A.depth+3*k+5<Mm
 un:A.units+16*k+200<Dw
 gd:A.guards=Ab []
theorem Room.deeper {k:Ai}(r:Room (k+1) A)(env:HT):Room k (A.deeper env):=
 ⟨r.hd,by have:=r.dp;show A.depth+1+3*k+5<_;omega,by have:=r.un;show A.units+3+16*k+200<_;omega,r.gd⟩
theorem Room.depth {k:Ai}(r:Room k A):A.depth<Mm:=by have:=r.dp;omega
theorem Room.units {k:Ai}(r:Room k A):A.units+64<Dw:=by have:=r.un;omega
def qAB:TA:=λ_ H Q=>Q [] H
section
variable {X:Cx}{e:Br}{es:Aa Br}{te:TE}{t:TA}{pos:Ex}
theorem SR:PA X [] qAB:=λ_ _ _ _ H Q I h=>Mu ⟨[],H,I,.nil,h⟩
def qAE (t:TA):TE:=λσ H Q=>t σ H λxs H1=>xs.length<=sizeLine/\∀ p,H1 p=none->Q (.ref p) (upd H1 p (.tup xs))
def qAA (t:TA):TE:=λσ H Q=>t σ H λxs H1=>xs.length<=sizeLine/\∀ p,H1 p=none->Q (.ref p) (upd H1 p (.lst xs))
theorem SX  (h:PA X es t):PE X (.Tuple es x1 pos) (qAE t):=by
 intro pins s σ H Q I hq;refine wpAny_Tuple_spliced (thn (h pos pins s σ H _ I hq) λus s1 ⟨xs,H1,I1,r,z,q⟩=>⟨by rw[<- r.length];exact z,?_⟩)
 have hf:H1 s1.heap.objs.size=none:=I1.hok.fresh (AT _);refine⟨.ref s1.heap.objs.size,upd H1 s1.heap.objs.size (.tup xs),I1.laid (t':=s1.toks) (λb u e=>Ag _ e) (AT _) ?_,rfl,q _ hf⟩;exact⟨z,us,r,⟨_,Ba _ rfl,rfl,_,rfl⟩⟩
theorem XS (h:PA X es t):PE X (.List es pos) (qAA t):=by
 intro pins s σ H Q I hq;refine wpAny_List_spliced (thn (h pos pins s σ H _ I hq) λus s1 ⟨xs,H1,I1,r,z,q⟩=>⟨by rw[<- r.length];exact z,?_⟩)
 have hf:H1 s1.heap.objs.size=none:=I1.hok.fresh (AT _);refine⟨.ref s1.heap.objs.size,upd H1 s1.heap.objs.size (.lst xs),I1.laid (t':=s1.toks) (λb u e=>Ag _ e) (AT _) ?_,rfl,q _ hf⟩;exact⟨z,us,0,r,Ba _ rfl⟩
end
abbrev Sp:=Aa V->Hp->VK->XK->Prop
abbrev CXT:=Aa HT->Hp->Ah->XK->Ac->Ah->Prop
structure Env0 (P:Bd)(w:Bt)(K:Aj)(mg:Av->Al Ac)(base:Bj)(A:Bo)(outer:Aa HT)(s:Ah)(H:Hp):Prop where
 frames:A.frames=Ab outer
 mod:Mod K mg base
 bs:∀ b o,base.get? b=Ab o->s.heap.get? b=Ab o/\H b=none
 bsz:base.objs.size<=s.heap.objs.size
 funs:s.heap.FunFrames base outer
 frf:∀ b∈frs outer,H b=none
 hok:HOk P w H s.heap
 bare:Nk s.gens
def CE (outer:Aa HT)(P:Bd)(w:Bt)(H:Hp)(s:Ah)(Q:VK)(u:Ac)(s':Ah):Prop:=
 ∃ v H',s'.os=s.os/\Nk s'.gens/\Un (frs outer) [] H H' s.heap s'.heap/\HOk P w H' s'.heap/\qI v u/\Q v H'
def CR (CX:CXT)(outer:Aa HT)(P:Bd)(w:Bt)(H:Hp)(s:Ah)(Q:VK)(E:XK)(r:Sa)(s':Ah):Prop:=
 match r with
 |.ok (.ret u)=>CE outer P w H s Q u s'
 |.ok _=>Fh
 |.error e=>CX outer H s E e s'
structure FnOk (P:Bd)(w:Bt)(K:Aj)(mg:Av->Al Ac)(base:Bj)(CX:CXT)(k:Ai)(f:Af)(fd:Ft)(ps:Aa Av)(sp:Sp):Prop where
 len:∀ vs H Q E,sp vs H Q E->vs.length=ps.length
 run:∀ (A:Bo) (outer:Aa HT) (s:Ah) (H:Hp) (args:Args) (us:Aa Ac) (vs:Aa V) (Q:VK) (E:XK),Room k A->Env0 P w K mg base A outer s H->Nm s fd args (ps.zip us)->qH vs us->sp vs H Q E ->
  Go (As P w) A (.call (.ref f) args) (CR CX outer P w H s Q E) s
section
variable {X:Cx}{pins:Aa (Af × Ci)}{σ : St}{H:Hp}{s s':Ah}
theorem Inv.env0 (I:Inv X pins σ H s):Env0 X.prog X.w X.K X.mg X.base X.A X.stack s H:=
 ⟨I.ok.frames,I.ok.mod,I.bs,Cq I.ok.bsz I.sz,I.stack,I.stkFree,I.hok,I.bare⟩
theorem Inv.after {Q:VK}{u:Ac}(I:Inv X pins σ H s)(h:CE X.stack X.prog X.w H s Q u s'):EP X pins σ Q u s':=by
 obtain⟨v,H',os,bare,un,hok,r,q⟩:=h;obtain⟨hh,g,d,t,os'⟩:=s';obtain rfl:os'=s.os:=os;exact⟨v,H',I.call (h':=hh) (g':=g) (d':=d) (t':=t) (ch:=[]) un hok bare (λb z=>absurd z (by simp)),r,q⟩
end
def vQ (K:Aj)(fd:Ft)(ps:Aa Av)(ds:Aa Ac):Prop:=
 ∀ (s:Ah) (us:Aa Ac),K.In s.heap->(us++ds).length=ps.length->Nm s fd ⟨us,[]⟩ (ps.zip (us++ds))
theorem vQ.all {fd:Ft}(h:∀ us:Aa Ac,us.length=ps.length->Na fd ⟨us,[]⟩=pure (ps.zip us)):vQ K fd ps []:=λs us _ hl=>by
 rw[Gx] at hl ⊢;exact .of_eq (h us hl)
structure FnScope (N P:Aa Av)(sc:Em):Prop where
 kind:sc.kind=.function
 co:sc.isCoroutine=false
 gen:sc.isGenerator=false
 nd:N.Nodup
 pre:N.take P.length=P
 par:∀ x∈P,sc.names.lookup x=Ab .local \/ sc.names.lookup x=Ab .cell
 nofree:∀ y∈sc.names,y.2≠.free
theorem lB {x:Av}:∀ {binds:Aa (Av × Ac)} {m:Av->Al Ac},(∀ v,(x,v) ∉ binds)->Vz kindOf binds m x=m x
 |[],_,_=>rfl
 |(n,v)::r,m,h=>by
  unfold Vz;rw[lB λw hw=>h w (Cc _ hw)]
  split
  .have:x≠n:=by rintro rfl;exact h v Cz
   simp[this]
  .rfl
theorem l9 {x:Av}:∀ {binds:Aa (Av × Ac)} {m:Av->Al Ac},(∀ v,(x,v) ∉ binds)->Wa kindOf binds m x=m x
 |[],_,_=>rfl
 |(n,v)::r,m,h=>by
  unfold Wa;rw[l9 λw hw=>h w (Cc _ hw)]
  split
  .rfl
  .have:x≠n:=by rintro rfl;exact h v Cz
   simp[this]
theorem lA {x:Av}{v:Ac}:∀ {P:Aa Av} {vs:Aa Ac} {i:Ai} {m:Av->Al Ac},P.Nodup->P[i]? = Ab x->vs[i]? = Ab v->kindOf x=Ab .local ->
  Vz kindOf (P.zip vs) m x=Ab v
 |[],_,_,_,_,h,_,_=>by simp at h
 |_::_,[],_,_,_,_,h,_=>by simp at h
 |p::P,w::vs,0,m,nd,h1,h2,hk=>by
  simp at h1 h2;subst h1;subst h2;show Vz kindOf ((p,w)::P.zip vs) m p=_;unfold Vz;rw[lB λv hv=>(Jw.mp nd).1 (Lp hv).1,Bb hk];simp
 |p::P,w::vs,i+1,m,nd,h1,h2,hk=>by
  show Vz kindOf ((p,w)::P.zip vs) m x=_;unfold Vz;exact lA (i:=i) (Jw.mp nd).2 (by simpa using h1) (by simpa using h2) hk
theorem l8 {x:Av}{v:Ac}:∀ {P:Aa Av} {vs:Aa Ac} {i:Ai} {m:Av->Al Ac},P.Nodup->P[i]? = Ab x->vs[i]? = Ab v->kindOf x≠Ab .local ->
  Wa kindOf (P.zip vs) m x=Ab v
 |[],_,_,_,_,h,_,_=>by simp at h
 |_::_,[],_,_,_,_,h,_=>by simp at h
 |p::P,w::vs,0,m,nd,h1,h2,hk=>by
  simp at h1 h2;subst h1;subst h2;show Wa kindOf ((p,w)::P.zip vs) m p=_;unfold Wa;rw[l9 λv hv=>(Jw.mp nd).1 (Lp hv).1,Bc hk];simp
 |p::P,w::vs,i+1,m,nd,h1,h2,hk=>by
  show Wa kindOf ((p,w)::P.zip vs) m x=_;unfold Wa;exact l8 (i:=i) (Jw.mp nd).2 (by simpa using h1) (by simpa using h2) hk
def xR (N:Aa Av)(vs:Aa V):St:=vs.map Ab++Cw (N.length-vs.length) none
def tN (CX:CXT)(P:Bd)(w:Bt)(K:Aj)(mg:Av->Al Ac)(base:Bj)(N:Aa Av)(qual:Av)(scope:Em)(f:Af)(cd:Ac)(A:Bo)(outer:Aa HT)(s:Ah)(H:Hp)(E:XK):Cx where
 prog:=P
 w:=w
 K:=K
 mg:=mg
 base:=base
 A:=A.deeper (Gj qual scope s.heap.objs.size f cd)
 N:=N
 s₀:=s
 H₀:=H
 env:=Gj qual scope s.heap.objs.size f cd
 outer:=outer
 stack:=Gj qual scope s.heap.objs.size f cd::outer
 ex:=[]
 calm:=true
 fn:=λ_=>true
 pn:=[]
 xe:=λe s'=>Ap (As P w) (A.deeper (Gj qual scope s.heap.objs.size f cd)) (leaving (Gj qual scope s.heap.objs.size f cd) e) (λ_ s''=>CX outer H s E e s'') (λe' s''=>CX outer H s E e' s'') s'
theorem sV {sc:Em}{n:Ai}{x:Av}(h:sc.names.lookup x=Ab .cell):∃ c,(Hq n sc.names []).lookup x=Ab c:=by
 have q:=Jx sc.names n [] (.inl h);exact Je.mp q
theorem lR {CX:CXT}{P:Bd}{w:Bt}{base:Bj}{N:Aa Av}{qual:Av}{f:Af}{cd:Ac}{outer:Aa HT}{s s1:Ah}{H:Hp}{E:XK}{us:Aa Ac}{vs:Aa V}
  (S:FnScope N ps scope) (hd:A.handled=none) (e0:Env0 P w K mg base A outer s H) (hl:vs.length=ps.length) (r:qH vs us)
  (x:InCallC s s.heap.objs.size (Vz (Gj qual scope s.heap.objs.size f cd).kindOf (ps.zip us) λ_=>none) (Hq (s.heap.objs.size+1) scope.names []) (Wa (Gj qual scope s.heap.objs.size f cd).kindOf (ps.zip us) λ_=>none) s1) :
  Inv (tN CX P w K mg base N qual scope f cd A outer s H E) [] (xR N vs) H s1:=by
 have hpl:ps.length<=N.length:=by have:=congrArg Yz S.pre;rw[Ia] at this;omega
 obtain⟨h1,tk,rfl,hk⟩:=x.done;have noA:∀ b:Af,b ∉ (tN CX P w K mg base N qual scope f cd A outer s H E).ex:=λb z=>absurd (show b∈([]:Aa Af) from z) (by simp)
 refine⟨⟨e0.mod,S.kind,rfl,rfl,AT _,λy z c h1 h2=>?_,λy hy=>?_,λy c _ h=>?_,λ_=>hd,Oc e0.frames,.inr ⟨rfl,rfl⟩,λb z=>absurd z (noA b),e0.bs,e0.bsz,λb _ _=>noA b,λb z=>absurd z (noA b),e0.funs,e0.frf⟩,
  rfl,e0.bare,Un.kept hk,⟨_,x.toInCall.ns,λi y v h1 h2 h3=>?_⟩,λy c h=>⟨_,x.cell y c h⟩,e0.hok.fresh (AT _),λy c h=>?_,λp hp=>absurd (show p∈([]:Aa (Af × Ci)) from hp) (by simp),e0.hok.kept hk,?_⟩
 .exact name_of_addr x.apart (Fk h1) (Fk h2)
 .have hy:scope.names.lookup y=Ab .cell\/scope.names.lookup y=Ab .free:=hy
  rcases hy with hy|hy
  .exact sV hy
  .exact absurd rfl (S.nofree _ (Fk hy))
 .exact Fy (x.above y c (Fk h))
 .have hi:i<vs.length:=by
   unfold xR at h2;by_cases hi:i<vs.length
   .exact hi
   .rw[Di (by simpa using hi)] at h2
    rw[Md] at h2
    split at h2 <;> cases h2
  have ha:vs[i]? = Ab v:=by
   unfold xR at h2;rw[Cb (by simpa using hi),Dc] at h2
   cases e:vs[i]? with
   |none=>rw[e] at h2;cases h2
   |some a=>rw[e] at h2;cases h2;rfl
  obtain⟨u,hu,rv⟩:=r.get ha;have hp:ps[i]? = Ab y:=by
   rw[<- S.pre,Rj om];exact h1
  have ndP:ps.Nodup:=by rw[<- S.pre];exact S.nd.sublist (List.take_sublist _ _)
  refine⟨u,rv,?_⟩;rcases S.par y (Bk hp) with k|k
  .exact .inl ⟨k,lA ndP hp hu k⟩
  .obtain⟨c,e⟩:=sV (n:=s.heap.objs.size+1) k
   refine .inr ⟨.inl k,c,e,?_⟩;have q:=x.cell y c e;rw[l8 ndP hp hu (by show scope.names.lookup y≠_;rw[k];decide)] at q
   exact q
 .exact e0.hok.fresh (Fy (x.above y c (Fk h)))
 .unfold xR
  show _=N.length;rw[Cj,Aq,List.length_replicate];omega
theorem HJ {CX:CXT}{P:Bd}{w:Bt}{base:Bj}{k:Ai}{f:Af}{name qual:Av}{params:Lg}{body:Aa Fa}{dV kV doc pm cdv ct oc:Ac}{an od:Al Af}
  {osl:Bn (Al Ac)} {N ps:Aa Av} {sp:Sp} (lk:K.lookup f=Ab ⟨oc,od,.func (Gw name qual params body scope dV kV doc pm an cdv ct),osl⟩) (hcd:Kn K cdv qual=true) (S:FnScope N ps scope)
  (len:∀ vs H Q E,sp vs H Q E->vs.length=ps.length)
  (hbody:∀ (A:Bo) (outer:Aa HT) (s:Ah) (H:Hp) (vs:Aa V) (Q:VK) (E:XK),Room k (A.deeper (Gj qual scope s.heap.objs.size f cdv))->sp vs H Q E ->
   ∃ t,PSs (tN CX P w K mg base N qual scope f cdv A outer s H E) body t/\t { nx:=λ_ H'=>Q .non H',rt:=Q } (xR N vs) H) :
  FnOk P w K mg base CX (k+1) f (Gw name qual params body scope dV kV doc pm an cdv ct) ps sp:=by
 refine⟨len,λA outer s H args us vs Q E hr e0 hb r hsp=>?_⟩;have hl:=len _ _ _ _ hsp;have KX:K.In s.heap:=e0.mod.kin.keeps λb o e=>(e0.bs b o e).1;have lim:s.heap.NoLimit:=e0.mod.nolimit.keeps λb o e=>(e0.bs b o e).1;have hkind:∀ y∈ps.zip us,scope.names.lookup y.1=Ab .local \/ (scope.names.lookup y.1=Ab .cell/\((Hq (s.heap.objs.size+1) scope.names []).lookup y.1).isSome=true):=λ⟨n,v⟩ hy=>by
  rcases S.par n (Lp hy).1 with q|q
  .exact .inl q
  .exact .inr ⟨q,Jx _ _ _ (.inl q)⟩
 refine Ug hr.depth (KX _ _ lk) rfl S.co S.gen rfl (Wx KX hcd) (hb _ _ _ _ ?_);refine Qc S.kind hkind λenv he s1 x=>?_;subst he;refine⟨lim.keeps x.toInCall.keep,codeAny_func ?_⟩;obtain⟨t,ht,hq⟩:=hbody A outer s H vs Q E (hr.deeper _) hsp;have I:Inv (tN CX P w K mg base N qual scope f cdv A outer s H E) [] (xR N vs) H s1:=lR S hr.hd e0 hl r x;refine Gn (ht [] s1 (xR N vs) H _ I hq) (λfl s' hs=>?_) λe s' hs=>hs;have fin:∀ {σ' : St} {H':Hp} {v:V} {u:Ac},Inv (tN CX P w K mg base N qual scope f cdv A outer s H E) [] σ' H' s'->qI v u->Q v H'->CE outer P w H s Q u s':=
  λ{σ' H' v u} J rv q=>⟨v,H',J.os,J.bare,J.base,J.hok,rv,q⟩
 cases fl with
 |ret u =>
  obtain⟨v,σ',H',J,rv,q⟩:=hs;exact fin J rv q
 |next =>
  obtain⟨σ',H',J,q⟩:=hs;exact fin (v:=V.non) (u:=Er) J rfl q
 |brk =>
  obtain⟨_,_,_,q⟩:=hs;exact Ao q
 |cont =>
  obtain⟨_,_,_,q⟩:=hs;exact Ao q
end _L
namespace _H
open PySem PyProof.Rows
variable {Q:Ac->Ah->Prop}{lo hi:Al Am}{items:Bn Ac}
def lexLt:Aa Am->Aa Am->Ar
 |[],[]=>false
 |[],_::_=>true
 |_::_,[]=>false
 |x::xs,y::ys=>if x=y then lexLt xs ys else decide (x<y)
theorem lexLt_cons (x y:Am)(xs ys:Aa Am):lexLt (x::xs) (y::ys)=if x=y then lexLt xs ys else decide (x<y):=rfl
theorem lexLt_nil_nil:lexLt [] []=false:=rfl
theorem nG (y:Am)(ys:Aa Am):lexLt [] (y::ys)=true:=rfl
theorem nF (x:Am)(xs:Aa Am):lexLt (x::xs) [] = false:=rfl
theorem VA (A:Bo)(s:Ah)(a:Am)(t:Pi)(c:Am)(u:Pi):∃ e,SeqAt.EqAt A s (.int a t) (.int c u) e/\(e=true↔a=c):=
 ⟨(a == c),SeqAt.EqAt.int_int a t c u,by simp⟩
theorem J3 (A:Bo)(s:Ah)(a:Am)(t:Pi)(c:Am)(u:Pi)(prog:Bd)(w:Bt)(E:Ac->Ah->Prop)(Q:Ac->Ah->Prop)(h:Q (.bool (decide (a<c))) s) :
  Ap (As prog w) A (Za .Lt (.int a t) (.int c u)) Q E s:=
 (Ox h:Ap (As prog w) A (Cu .Lt (.int a t) (.int c u)) Q E s)
section
open PySem.SeqAt
open PySem.AutoSeq1 (wpAny_loadPart')
open PySem.MeetsSeq PySem.MeetsSeq2 PySem.MeetsSeq3
theorem dR (l b:Af)(items items2:Bn Ac)(n n2:Ai)(dd dd2:Al Af)(sl sl2:Bn (Al Ac))(ns ms:Aa Am)(hi:Ji items.toList ns)(hj:Ji items2.toList ms) :
  Meets (Hl.«tuple.__lt__» ⟨[.ref l,.ref b],[]⟩)
   (λ_ R s=>s.heap.get? l=Ab { cls:=.type "tuple",dict:=dd,data:=.seq items n,slots:=sl } /\ s.heap.get? b=Ab { cls:=.type "tuple",dict:=dd2,data:=.seq items2 n2,slots:=sl2 } /\
    R (.ok (.ret (.bool (lexLt ns ms)))) s):=
 .of_wp λprog w A R s h=>by
  obtain⟨hp,g,d,tk,os⟩:=s;obtain⟨hl,hb,h⟩:=h;have f2:=Rk;have z1:items.size=ns.length:=by rw[<- hi.length];simp
  have z2:items2.size=ms.length:=by rw[<- hj.length];simp
  wp_walk using wpAny_loadPart' hl,wpAny_loadPart' hb,Kw _ (λrest b s'=>b.1=none/\s'=⟨hp,g,d,tk,os⟩/\∃ (vs ws:Aa Ac) (ns' ms':Aa Am),rest=vs.zip ws /\
   Ji vs ns'/\Ji ws ms'/\ns'.length+items2.size=ms'.length+items.size/\R (.ok (.ret (.bool (lexLt ns' ms')))) ⟨hp,g,d,tk,os⟩) _
  case turn =>
   rintro⟨y,x⟩ rest b s' ⟨hb',rfl,vs,ws,ns',ms',hz,hvi,hwi,hlen,hR⟩;cases hvi with
   |nil=>rw[List.zip_nil_left] at hz;cases hz
   |cons a t hvi' =>
    cases hwi with
    |nil=>rw[List.zip_nil_right] at hz;cases hz
    |cons c u hwi' =>
     rw[Ih] at hz;injection hz with hyx hrest
     injection hyx with hy hx
     subst hy hx;rw[lexLt_cons] at hR;simp only[Ch] at hlen;obtain⟨e,he,hiff⟩:=VA A.in1 ⟨hp,g,d,tk,os⟩ a t c u;refine Ad (he prog w _ _ ?_);cases e with
     |true =>
      rw[Bb (hiff.mp rfl)] at hR
      wp_walk
      exact⟨rfl,rfl,_,_,_,_,hrest,hvi',hwi',by omega,hR⟩
     |false =>
      rw[Bc (λq=>absurd (hiff.mpr q) Gc)] at hR;have hri:=J3 A.in1 ⟨hp,g,d,tk,os⟩ a t c u prog w
      wp_walk using hri
      exact⟨_,rfl,by simpa using hR⟩
  case fin =>
   rintro⟨b1,b2⟩ s' ⟨hb',rfl,vs,ws,ns',ms',hz,hvi,hwi,hlen,hR⟩;simp only at hb';subst hb';have hv:lexLt ns' ms'=decide (items.size<items2.size):=by
    cases hvi with
    |nil =>
     cases hwi with
     |nil =>
      simp only[Ez] at hlen;rw[lexLt_nil_nil];exact(Cn om).symm
     |cons c u hw =>
      simp only[Ez,Ch] at hlen;rw[nG];exact(Cy om).symm
    |cons a t hv =>
     cases hwi with
     |nil =>
      simp only[Ez,Ch] at hlen;rw[nF];exact(Cn om).symm
     |cons c u hw =>
      rw[Ih] at hz;cases hz
   rw[hv] at hR
   wp_walk
   exact⟨_,rfl,by simpa [Nn] using hR⟩
  case h =>
   exact⟨rfl,rfl,items.toList,items2.toList,ns,ms,rfl,hi,hj,by omega,h⟩
end
section
variable {prog:Bd}{w:Bt}{A:Bo}{E:Ac->Ah->Prop}{s:Ah}
theorem lt_tupInts {l b:Af}{items2:Bn Ac}{ns ms:Aa Am}(hl:Nj s.heap l items)(hb:Nj s.heap b items2)(hi:Ji items.toList ns)(hj:Ji items2.toList ms)
  (hu:A.units<Dw) (h:Q (.bool (lexLt ns ms)) s):Ap (As prog w) A (Cu .Lt (.ref l) (.ref b)) Q E s:=by
 obtain⟨⟨cls,dd,data,sl⟩,ho,hc,n,hd⟩:=id hl;obtain⟨⟨cls2,dd2,data2,sl2⟩,ho2,hc2,n2,hd2⟩:=id hb;simp only at hc hd hc2 hd2;subst hc hd hc2 hd2;exact Tj (op:=.Lt) ⟨_,ho,rfl⟩ ⟨_,ho2,rfl⟩ Uh Tk (Sl _ _) (dR l b items items2 n n2 dd dd2 sl sl2 ns ms hi hj)
  ⟨ho,ho2,show Fp (lexLt ns ms)≠Vl/\Q (.bool (lexLt ns ms)) s from⟨(λx=>nomatch x),h⟩⟩ hu
theorem cat_tup {t b:Af}{vs ws:Aa Ac}(ht:Nj s.heap t vs.toArray)(hb:Nj s.heap b ws.toArray)(hv:vs≠[])
  (h1:ws=[]->Q (.ref t) s) (h2:ws≠[]->Q (.ref s.heap.objs.size) { s with heap:=s.heap.push { cls:=.type "tuple",data:=.seq (vs++ws).toArray } })
  (hsz:vs.length+ws.length<=sizeLine):Ap (As prog w) A (Ek .Add (.ref t) (.ref b)) Q E s:=by
 obtain⟨⟨cls,dd,data,sl⟩,ho,hc,n,hd⟩:=id ht;obtain⟨⟨cls2,dd2,data2,sl2⟩,ho2,hc2,n2,hd2⟩:=id hb;simp only at hc hd hc2 hd2;subst hc hd hc2 hd2;have e:vs.toArray++ws.toArray=(vs++ws).toArray:=by simp
 by_cases hw:ws=[]
 .exact Xk ⟨_,ho,rfl⟩ ⟨_,ho2,rfl⟩ Sb Wb Nb Me (L2 _ _)
   (tuple_addW1 t b vs.toArray ws.toArray n n2 dd dd2 sl sl2 (by simpa using hv) (by simp[hw])) ⟨ho,ho2,h1 hw⟩
 .refine Xk ⟨_,ho,rfl⟩ ⟨_,ho2,rfl⟩ Sb Wb Nb Me (L2 _ _)
   (tuple_addW2 t b vs.toArray ws.toArray n n2 dd dd2 sl sl2 (by simpa using hv) (by simpa using hw) (by rw[Ay,Ay];exact hsz)) ⟨ho,ho2,?_⟩
  rw[e];exact h2 hw
def sIx (n d:Ai):Al Am->Ai
 |none=>d
 |some v=>if v<0 then (v+(n:Am)).toNat else min v.toNat n
theorem RV (n d:Ai)(hd:d<=n)(o:Al Am):sIx n d o<=n:=by
 cases o with
 |none=>exact hd
 |some v =>
  show (if v<0 then (v+(n:Am)).toNat else min v.toNat n)<=n
  by_cases hv:v<0
  .rw[Bb hv];omega
  .rw[Bc hv];exact Nat.min_le_right _ _
theorem cN (v:Am)(n d:Ai):(if v<0 then max (v+(n:Am)) 0 else min v (n:Am))=((sIx n d (Ab v):Ai):Am):=by
 show (if v<0 then max (v+(n:Am)) 0 else min v (n:Am))=(((if v<0 then (v+(n:Am)).toNat else min v.toNat n):Ai):Am)
 by_cases hv:v<0
 .simp only[Bb hv];omega
 .simp only[Bc hv];omega
theorem o3 (lo hi:Al Am)(n:Ai):Fu lo hi 1 (n:Am)=(((sIx n 0 lo:Ai):Am),((sIx n n hi:Ai):Am)):=by
 have h1:¬ ((1:Am)<0):=by omega
 unfold Fu;simp only[h1,Eh];refine Zu ?_ ?_
 .cases lo with
  |none=>rfl
  |some v=>exact cN v n 0
 .cases hi with
  |none=>rfl
  |some v=>exact cN v n n
theorem Q6 (i j:Ai):Gp (i:Am) (j:Am) 1=j-i:=by
 unfold Gp;have h1:(1:Am)>0:=by omega
 simp only[h1,Dt,Int.ediv_one]
 split <;> omega
theorem t9 {v:Ac}{o:Al Am}{Q:Al Am->Ah->Prop}(p:Qe v o)(h:Q o s):Ap (As prog w) A (sK v) Q E s:=by
 cases p with
 |none=>exact Pj h
 |int i t=>exact slicePart_int h
theorem uY {sl:Af}{vl vu:Ac}{n:Ai}{Q:Am × Am × Ai->Ah->Prop}(hs:s.heap.IsSliceOf sl vl vu .none)(pl:Qe vl lo)(pu:Qe vu hi)
  (h:Q (((sIx n 0 lo:Ai):Am),1,sIx n n hi-sIx n 0 lo) s):Ap (As prog w) A (Ik (.ref sl) (pure (n:Am))) Q E s:=by
 obtain⟨os,hos,hcs,hds⟩:=id hs;unfold Ik Qn;refine Ad (Ad (Du hos hds (x:=vl) rfl (Ad (Du hos hds (x:=vu) rfl (Ad (Du hos hds (x:=.none) rfl (Ak ?_)))))));refine Ad (Pj ?_);show Ap _ _ (if ((1:Am) == 0)=true then _ else _) _ _ s
 rw[Bc (by decide)]
 refine Ad (t9 pl (Ad (t9 pu (Ad (Ak ?_)))));show Ap _ _ (match Fu lo hi 1 (n:Am) with|(lo,hi)=>pure (lo,(1:Am),Gp lo hi 1)) _ _ s
 rw[o3 lo hi n];show Ap _ _ (pure (((sIx n 0 lo:Ai):Am),(1:Am),Gp ((sIx n 0 lo:Ai):Am) ((sIx n n hi:Ai):Am) 1)) _ _ s;rw[Q6];exact Ak h
theorem UN (xs:Bn Ac)(i k:Ai):((Cg k).filterMap λ(m:Ai)=>xs[((i:Am)+(m:Am)*1).toNat]?).toArray=((xs.toList.drop i).take k).toArray:=by
 have e:(λ(m:Ai)=>xs[((i:Am)+(m:Am)*1).toNat]?)=λm=>xs[i+m]?:=by
  funext m
  have:((i:Am)+(m:Am)*1).toNat=i+m:=by omega
  rw[this]
 rw[e];have:=pick_run xs i k;rw[List.filterMap_map] at this;have e2:((λx=>xs[x]?)∘λx=>i+x)=λm=>xs[i+m]?:=rfl;rw[e2] at this;rw[this]
theorem getItem_tuple_cut {t sl:Af}{vl vu:Ac}(ht:Nj s.heap t items)(hs:s.heap.IsSliceOf sl vl vu .none)(pl:Qe vl lo)(pu:Qe vu hi)
  (hw:¬ (sIx items.size 0 lo=0/\sIx items.size items.size hi=items.size))
  (h:Q (.ref s.heap.objs.size) { s with heap:=s.heap.push { cls:=.type "tuple",data:=.seq ((items.toList.drop (sIx items.size 0 lo)).take (sIx items.size items.size hi-sIx items.size 0 lo)).toArray } })
  (hsz:items.size<=sizeLine):Ap (As prog w) A (Ko (.ref t) (.ref sl)) Q E s:=by
 have htake:sizeOk (.seq ((items.toList.drop (sIx items.size 0 lo)).take (sIx items.size items.size hi-sIx items.size 0 lo)).toArray):=by
  show ((items.toList.drop (sIx items.size 0 lo)).take (sIx items.size items.size hi-sIx items.size 0 lo)).toArray.size<=sizeLine;rw[Ay,Ia,Jj,Df];omega
 have hj:sIx items.size items.size hi<=items.size:=RV _ _ (AT _) hi;obtain⟨os,hos,hcs,hds⟩:=id hs;have hTs:s.TypeIs (.ref sl) "slice":=⟨os,hos,hcs⟩;unfold Ko
 try with_reducible refine Ct ?_
 first|refine Ad (Ak ?_)|skip
 refine Ad (Qo ht.typeIs (by decide) ?_)
 refine Ad (Dy (name:=Fz "__getitem__") ht.typeIs Do
  (Dz Do ht.typeIs Oy ?_ (Pv _ _)))
 show Ap _ _ (Kx (.ref t) >>= _) _ _ s;refine Ad (Wc ht ?_);refine Ad (Ks hTs ?_);rw[Bb (by decide)]
 refine Ad (uY hs pl pu ?_);have hno:¬ ((((sIx items.size 0 lo:Ai):Am) == 0&&(1:Am) == 1&&(sIx items.size items.size hi-sIx items.size 0 lo) == items.size)=true):=by
  intro q;rw[Au,Au] at q;have q1:((sIx items.size 0 lo:Ai):Am)=0:=eq_of_beq q.1.1;have q2:sIx items.size items.size hi-sIx items.size 0 lo=items.size:=eq_of_beq q.2;exact hw ⟨by omega,by omega⟩
 show Ap _ _ (if (((sIx items.size 0 lo:Ai):Am) == 0&&(1:Am) == 1&&(sIx items.size items.size hi-sIx items.size 0 lo) == items.size)=true then _ else _) _ _ s
 rw[Bc hno,UN]
 first
  |exact Ad (m:=Fi _) (Dg (Ak ⟨_,rfl,Ak h⟩) htake)
  |exact Ad (m:=Fi _) (Dg (Ad (Ak (Ak ⟨_,rfl,Ak h⟩))) htake)
  |exact Ad (Ad (m:=Fi _) (Dg (Ak (Ak ⟨_,rfl,Ak h⟩)) htake))
  |exact Ad (Ad (m:=Fi _) (Dg (Ak ⟨_,rfl,Ak h⟩) htake))
end
end _H
namespace _L
open PySem PySem.Spec PyProof.Rows
abbrev TO:=St->Hp->(Al Am->Hp->Prop)->Prop
def PO (X:Cx)(e:Al Br)(t:TO):Prop:=
 ∀ (pins:Aa (Af × Ci)) (s:Ah) (σ : St) (H:Hp) (Q:Al Am->Hp->Prop),Inv X pins σ H s->t σ H Q ->
  Ap (As X.prog X.w) X.A (evalPart e X.env) (λu s'=>∃ o H',Inv X pins σ H' s'/\Qe u o/\Q o H') X.xe s
def M6:TO:=λ_ H Q=>Q none H
def AO (t:TE):TO:=λσ H Q=>t σ H λx H1=>∃ i,x=.int i/\Q (Ab i) H1
theorem kW {ns:Aa Am}:∀ {us:Aa Ac},qH (ns.map V.int) us->Ji us ns:=by
 induction ns with
 |nil=>intro us r;rw[Xl] at r;cases r;exact .nil
 |cons n ns ih =>
  intro us r;rw[Ee] at r;cases r with
  |cons r1 r2 =>
   obtain⟨t,e⟩:=r1;subst e;exact .cons n t (ih r2)
section
variable {X:Cx}{e:Br}{te:TE}{lo hi:Al Br}{tl th:TO}{pos p2:Ex}
theorem F9:PO X none M6:=by
 intro pins s σ H Q I h;rw[Wd];exact Ak ⟨none,H,I,.none,h⟩
theorem FA (h:PE X e te):PO X (Ab e) (AO te):=by
 intro pins s σ H Q I hw;rw[evalPart_some];refine thn (h pins s σ H _ I hw) λu s1 ⟨x,H1,I1,r1,q1⟩=>?_;obtain⟨i,rfl,q⟩:=q1;obtain⟨t,rfl⟩:=r1;exact⟨Ab i,H1,I1,.int i t,q⟩
def SlR (X:Cx)(r:V->Al Am->Al Am->Hp->VK->Prop):Prop:=
 ∀ (pins:Aa (Af × Ci)) (s:Ah) (σ : St) (H:Hp) (x:V) (v vl vu:Ac) (lo hi:Al Am) (sl:Af) (Q:VK),Inv X pins σ H s->qI x v->s.heap.IsSliceOf sl vl vu .none->Qe vl lo->Qe vu hi->r x lo hi H Q ->
  ∃ T id,t0 (.type T) "__getitem__" = pure (Ab (.builtin id))/\s.TypeIs v T/\Ap (As X.prog X.w) X.A (Ko v (.ref sl)) (EP X pins σ Q) X.xe s
theorem SlR.or {r r':V->Al Am->Al Am->Hp->VK->Prop}(h:SlR X r)(h':SlR X r'):SlR X (λx lo hi H Q=>r x lo hi H Q\/r' x lo hi H Q):=by
 intro pins s σ H x v vl vu lo hi sl Q I rx hs pl pu q;rcases q with q|q
 .exact h pins s σ H x v vl vu lo hi sl Q I rx hs pl pu q
 .exact h' pins s σ H x v vl vu lo hi sl Q I rx hs pl pu q
def tSl (r:V->Al Am->Al Am->Hp->VK->Prop)(te:TE)(tl th:TO):TE:=λσ H Q=>te σ H λx H1=>tl σ H1 λl H2=>th σ H2 λu H3=>r x l u H3 Q
theorem UL {r:V->Al Am->Al Am->Hp->VK->Prop}(hr:SlR X r)(he:PE X e te)(hl:PO X lo tl)(hu:PO X hi th):PE X (.Subscript e (.Slice lo hi none p2) pos) (tSl r te tl th):=by
 intro pins s σ H Q I h;refine Sc (thn (he pins s σ H _ I h) λv s1 ⟨x,H1,I1,r1,q1⟩=>?_);refine wpAny_Slice (thn (hl pins s1 σ H1 _ I1 q1) λvl s2 ⟨l,H2,I2,pl,q2⟩=>thn (hu pins s2 σ H2 _ I2 q2) λvu s3 ⟨u,H3,I3,pu,q3⟩=>?_);rw[Wd];refine Ak ?_;have I4:Inv X pins σ H3 { s3 with heap:=s3.heap.push { cls:=.type "slice",data:=.fields #[vl,vu,.none] } }:=I3.kept (t':=s3.toks) λb ob q=>Ag _ q
 obtain⟨T,id,hT,ht,hg⟩:=hr pins { s3 with heap:=s3.heap.push { cls:=.type "slice",data:=.fields #[vl,vu,.none] } } σ H3 x v vl vu l u s3.heap.objs.size Q I4 r1 (Wy ..) pl pu q3
 show Ap (As X.prog X.w) X.A (Qp e (.Slice lo hi none p2) v (.ref s3.heap.objs.size)) (EP X pins σ Q) X.xe { s3 with heap:=s3.heap.push { cls:=.type "slice",data:=.fields #[vl,vu,.none] } }
 exact tail_any (ops:=[.ref s3.heap.objs.size,v]) ht hT hg (by with_unfolding_all rfl)
def gZ (xs:Aa V)(lo hi:Al Am):Aa V:=(xs.drop (_H.sIx xs.length 0 lo)).take (_H.sIx xs.length xs.length hi-_H.sIx xs.length 0 lo)
theorem bQ (xs:Aa V)(lo hi:Al Am):(gZ xs lo hi).length<=xs.length:=by
 unfold gZ;rw[Ia,Jj];omega
def OX (K:Aj):V->Al Am->Al Am->Hp->VK->Prop:=λx lo hi H Q=>∃ a xs,x=.ref a/\SqT K H a xs /\
 ¬ (_H.sIx xs.length 0 lo=0/\_H.sIx xs.length xs.length hi=xs.length)/\∀ p,H p=none->Q (.ref p) (upd H p (.tup (gZ xs lo hi)))
theorem RY:SlR X (OX X.K):=by
 intro pins s σ H x v vl vu lo hi sl Q I rx hs pl pu h;obtain⟨a,xs,rfl,hx,hw,q⟩:=h;cases rx;obtain⟨its,r,ht,hz⟩:=I.tuple hx;have hlen:its.toArray.size=xs.length:=by rw[Ay];exact r.length.symm
 refine⟨"tuple",_,Do.lookup,ht.typeIs,?_⟩;refine _H.getItem_tuple_cut ht hs pl pu (by rw[hlen];exact hw) ?_ (by rw[hlen];exact hz)
 rw[hlen];refine⟨.ref s.heap.objs.size,_,I.laid (t':=s.toks) (o:=.tup (gZ xs lo hi)) (λb ob q=>Ag _ q) (AT _) ?_,rfl,q _ (I.hok.fresh (AT _))⟩;exact⟨Cq (bQ xs lo hi) hz,_,(r.drop (_H.sIx xs.length 0 lo)).take (_H.sIx xs.length xs.length hi-_H.sIx xs.length 0 lo),XV _ _⟩
end
end _L
namespace _L
open PySem PySem.Spec PyProof.Rows
variable {pins:Aa (Af × Ci)}{s:Ah}{H:Hp}{σ:St}
def ixN (n:Ai)(i:Am):Al Ai:=if 0<=i then (if i<n then Ab i.toNat else none) else if -(n:Am)<=i then Ab (i+n).toNat else none
def atI {α:Type}(xs:Aa α)(i:Am):Al α:=(ixN xs.length i).bind λj=>xs[j]?
theorem aJ {n:Ai}{i:Am}{j:Ai}(h:ixN n i=Ab j):Ui i n=Ab j/\j<n /\ -(n:Am)<=i/\i<n:=by
 unfold ixN at h;by_cases h0:0<=i
 .rw[Bb h0] at h
  by_cases h1:i<n
  .rw[Bb h1] at h
   have e:i.toNat=j:=Co h;exact⟨by rw[Zb h0 h1,e],by omega,by omega,h1⟩
  .rw[Bc h1] at h;cases h
 .rw[Bc h0] at h
  by_cases h1 : -(n:Am)<=i
  .rw[Bb h1] at h
   have e:(i+n).toNat=j:=Co h;exact⟨by rw[seqIndex_neg om h1,e],by omega,h1,by omega⟩
  .rw[Bc h1] at h;cases h
theorem tJ {α:Type}{xs:Aa α}{i:Am}{v:α}(h:atI xs i=Ab v):∃ j,Ui i xs.length=Ab j/\xs[j]? = Ab v/\j<xs.length /\ -(xs.length:Am)<=i/\i<xs.length:=by
 unfold atI at h;cases e:ixN xs.length i with
 |none=>rw[e] at h;cases h
 |some j =>
  rw[e] at h;obtain⟨h1,h2,h3,h4⟩:=aJ e;exact⟨j,h1,h,h2,h3,h4⟩
theorem GI {α:Type}{xs:Aa α}{j:Ai}{v:α}(h:xs[j]? = Ab v):atI xs (j:Am)=Ab v:=by
 have hj:j<xs.length:=(Az.mp h).1;have e:ixN xs.length (j:Am)=Ab j:=by
  unfold ixN;rw[Bb om,Bb om];simp
 unfold atI;rw[e];exact h
def tI (b:Br):Prop:=∀ o i,subscripted b false o i=operate [o,i] (Ko o i)
def IxR (X:Cx)(r:R2):Prop:=
 ∀ (value slice:Br) (pins:Aa (Af × Ci)) (s:Ah) (σ : St) (H:Hp) (x y:V) (v u:Ac) (Q:VK),Inv X pins σ H s->qI x v->qI y u->r x y H Q ->
  subscripted slice false v u=operate [v,u] (Ko v u)->Ap (As X.prog X.w) X.A (Qp value slice v u) (EP X pins σ Q) X.xe s
def MtR (X:Cx)(id:Ef)(r:V->Aa V->Hp->VK->Prop):Prop:=
 ∀ (pins:Aa (Af × Ci)) (s:Ah) (σ : St) (H:Hp) (x:V) (xs:Aa V) (v:Ac) (us:Aa Ac) (Q:VK),Inv X pins σ H s->qI x v->qH xs us->r x xs H Q ->
  Ap (As X.prog X.w) X.A (call (.builtin id) (v::us)) (EP X pins σ Q) X.xe s
section
variable {X:Cx}{a b:Br}{ta tb:TE}{pos:Ex}
theorem IxR.or {r r':R2}(h:IxR X r)(h':IxR X r'):IxR X (λx y H Q=>r x y H Q\/r' x y H Q):=by
 intro value slice pins s σ H x y v u Q I rx ry q hs;rcases q with q|q
 .exact h value slice pins s σ H x y v u Q I rx ry q hs
 .exact h' value slice pins s σ H x y v u Q I rx ry q hs
theorem MtR.or {id:Ef}{r r':V->Aa V->Hp->VK->Prop}(h:MtR X id r)(h':MtR X id r'):MtR X id (λx xs H Q=>r x xs H Q\/r' x xs H Q):=by
 intro pins s σ H x xs v us Q I rx rs q;rcases q with q|q
 .exact h pins s σ H x xs v us Q I rx rs q
 .exact h' pins s σ H x xs v us Q I rx rs q
theorem A4 {r:R2}(hr:IxR X r)(ha:PE X a ta)(hb:PE X b tb)(hs:tI b):PE X (.Subscript a b pos) (tOp r ta tb):=by
 intro pins s σ H Q I h;exact Sc (IU ha hb I h λv u s2 x y H2 I2 rx ry q=>hr a b pins s2 σ H2 x y v u Q I2 rx ry q (hs _ _))
def OT (K:Aj):R2:=λx y H Q=>∃ p xs i v,x=.ref p/\y=.int i/\SqL K H p xs/\atI xs i=Ab v/\Q v H
def OU (K:Aj):R2:=λx y H Q=>∃ p xs i v,x=.ref p/\y=.int i/\SqT K H p xs/\atI xs i=Ab v/\Q v H
theorem aK:IxR X (OT X.K):=by
 intro value slice pins s σ H x y v u Q I rx ry h hs;obtain⟨p,xs,i,z,rfl,rfl,hq,he,q⟩:=h;cases rx;obtain⟨t,rfl⟩:=ry;obtain⟨its,r,pl,hz⟩:=I.list hq;obtain⟨j,h1,h2,h3,h4,h5⟩:=tJ he;obtain⟨w,ew,rw'⟩:=r.get h2;have hl:=r.length;have hn:=pJ;have fin:EP X pins σ Q w s:=⟨z,H,I,rw',q⟩;by_cases h0:0<=i
 .have hj:i.toNat=j:=by
   rw[Zb h0 h5] at h1;exact Co h1
  exact item_listR pl.isList h0 om (by rw[hj];simpa using ew) fin hs
 .have hj:(i+(its.toArray.size:Am)).toNat=j:=by
   rw[seqIndex_neg om h4] at h1;rw[Ay,<- hl];exact Co h1
  exact Nc (x:=w) pl.isList.typeIs Yd.lookup
   (wpAny_getItem_list_neg (Q:=λr s'=>r=w/\EP X pins σ Q r s') pl.isList om (by rw[Ay] <;> omega) om (by rw[hj];simpa using ew) ⟨rfl,fin⟩) hs
theorem LC:IxR X (OU X.K):=by
 intro value slice pins s σ H x y v u Q I rx ry h hs;obtain⟨p,xs,i,z,rfl,rfl,hq,he,q⟩:=h;cases rx;obtain⟨t,rfl⟩:=ry;obtain⟨its,r,pl,hz⟩:=I.tuple hq;obtain⟨j,h1,h2,h3,h4,h5⟩:=tJ he;obtain⟨w,ew,rw'⟩:=r.get h2;have hl:=r.length;have hn:=pJ;have fin:EP X pins σ Q w s:=⟨z,H,I,rw',q⟩;exact Nc (x:=w) pl.typeIs Wz.lookup
  (getItem_tuple (j:=j) (Q:=λr s'=>r=w/\EP X pins σ Q r s') pl om om (by rw[Ay,<- hl];exact h1) (by simpa using ew) ⟨rfl,fin⟩) hs
theorem oW (its:Aa Ac)(n j:Ai)(u:Ac):Eg (·.setIfInBounds j u) { cls:=.type "list",data:=.seq its.toArray n } = { cls:=.type "list",data:=.seq (its.set j u).toArray n }:=by
 simp[Eg]
theorem Inv.lst {p:Af}{xs:Aa V}(I:Inv X pins σ H s)(h:H p=Ab (.lst xs)) :
  ∃ (its:Aa Ac) (n:Ai),qH xs its/\s.heap.get? p=Ab { cls:=.type "list",data:=.seq its.toArray n } /\ xs.length<=sizeLine:=by
 obtain⟨z,its,n,r,e⟩:=I.hok p _ h;exact⟨its,n,r,e,z⟩
theorem Inv.lstUpd {p:Af}{xs ys:Aa V}{its its':Aa Ac}{n n':Ai}{f:Ci->Ci}(I:Inv X pins σ H s)(h:H p=Ab (.lst xs))
  (ho:s.heap.get? p=Ab { cls:=.type "list",data:=.seq its.toArray n }) (hf:f { cls:=.type "list",data:=.seq its.toArray n } = { cls:=.type "list",data:=.seq its'.toArray n' }) (r:qH ys its') (hz:ys.length<=sizeLine) (t:Ai) :
  Inv X pins σ (upd H p (.lst ys)) { s with heap:=s.heap.update p f,toks:=t }:=by
 have e:(s.heap.update p f).get? p=Ab { cls:=.type "list",data:=.seq its'.toArray n' }:=by
  rw[DL f ho (by rw[hf] <;> rfl),hf]
 refine I.write (x:=p) (e:=p) (by rw[h];trivial) (.inl rfl) (λb u hb q=>(Bg _ _ (El hb)).trans q) ⟨_,e⟩ ?_
 exact⟨hz,its',n',r,e⟩
def AC:V->V->V->Hp->(Hp->Prop)->Prop:=λo i v H Q=>∃ p xs k j,o=.ref p/\i=.int k/\H p=Ab (.lst xs)/\ixN xs.length k=Ab j/\Q (upd H p (.lst (xs.set j v)))
theorem JC:sO X AC:=by
 intro pins s σ H o i v ov iv u Q I ro ri rv h;obtain⟨p,xs,k,j,rfl,rfl,hp,hj,q⟩:=h;cases ro;obtain⟨t,rfl⟩:=ri;obtain⟨its,n,r,ho,hz⟩:=I.lst hp;obtain⟨h1,h2,h3,h4⟩:=aJ hj;have hl:=r.length;have hn:=pJ;have I':Inv X pins σ (upd H p (.lst (xs.set j v))) { s with heap:=s.heap.update p (Eg (·.setIfInBounds j u)) }:=
  I.lstUpd hp ho (oW its n j u) (r.set rv j) (by rw[Tl];exact hz) s.toks
 by_cases h0:0<=k
 .have hk:k.toNat=j:=by
   rw[Zb h0 h4] at h1;exact Co h1
  exact PySem.W.ki_setAt ho h0 om (by rw[Ay,<- hl];exact h4) (by rw[hk];exact⟨_,I',q⟩)
 .have hk:(k+(its.toArray.size:Am)).toNat=j:=by
   rw[seqIndex_neg om h3] at h1;rw[Ay,<- hl];exact Co h1
  exact PySem.W.ki_setBack ho om (by rw[Ay,<- hl];exact h3) om (by rw[hk];exact⟨_,I',q⟩)
theorem h8 (lo hi:Al Am)(n:Ai):(Lq lo hi none n).1=((_H.sIx n 0 lo:Ai):Am)/\(Lq lo hi none n).2.1=((_H.sIx n n hi:Ai):Am)/\(Lq lo hi none n).2.2=1:=by
 refine⟨?_,?_,rfl⟩
 .cases lo with
  |none=>simp[Lq,_H.sIx]
  |some i =>
   simp only[Lq,_H.sIx,Zc,show (1:Am)>0 by decide,Dt]
   by_cases h:i<0
   .simp only[h,Dt] <;> omega
   .simp only[h,Eh] <;> omega
 .cases hi with
  |none=>simp[Lq,_H.sIx]
  |some i =>
   simp only[Lq,_H.sIx,Zc,show (1:Am)>0 by decide,Dt]
   by_cases h:i<0
   .simp only[h,Dt] <;> omega
   .simp only[h,Eh] <;> omega
theorem dQ (its:Aa Ac)(lo hi:Al Am):slicePick its.toArray lo hi none=((its.drop (_H.sIx its.length 0 lo)).take (_H.sIx its.length its.length hi-_H.sIx its.length 0 lo)).toArray:=by
 obtain⟨h1,h2,h3⟩:=h8 lo hi its.toArray.size;unfold slicePick;rw[h1,h2,h3];simp only[sliceRange_one,pick_run,Ay] <;> rfl
def OW (K:Aj):V->Al Am->Al Am->Hp->VK->Prop:=λx lo hi H Q=>∃ a xs,x=.ref a/\SqL K H a xs/\∀ p,H p=none->Q (.ref p) (upd H p (.lst (gZ xs lo hi)))
theorem iK:SlR X (OW X.K):=by
 intro pins s σ H x v vl vu lo hi sl Q I rx hs pl pu h;obtain⟨a,xs,rfl,hx,q⟩:=h;cases rx;obtain⟨its,r,ht,hz⟩:=I.list hx;have hlen:=r.length;refine⟨"list",_,Yd.lookup,ht.isList.typeIs,?_⟩;refine wpAny_getItem_list_slice ht.isList hs pl pu .none (by simp) ?_ (by rw[Ay] <;> omega)
 rw[dQ,<- hlen];refine⟨.ref s.heap.objs.size,_,I.laid (t':=s.toks) (o:=.lst (gZ xs lo hi)) (λb ob q=>Ag _ q) (AT _) ?_,rfl,q _ (I.hok.fresh (AT _))⟩;exact⟨Cq (bQ xs lo hi) hz,_,0,(r.drop (_H.sIx xs.length 0 lo)).take (_H.sIx xs.length xs.length hi-_H.sIx xs.length 0 lo),Ba _ rfl⟩
theorem j8.or {f:Ac}{r r':Aa V->Hp->VK->Prop}(h:j8 X f r)(h':j8 X f r'):j8 X f (λxs H Q=>r xs H Q\/r' xs H Q):=by
 intro pins s σ H xs us Q I rs q;rcases q with q|q
 .exact h pins s σ H xs us Q I rs q
 .exact h' pins s σ H xs us Q I rs q
theorem gX:j8 X (.type "list") (λxs H Q=>∃ p ys,xs=[.ref p]/\(SqL X.K H p ys\/SqT X.K H p ys)/\∀ l,H l=none->Q (.ref l) (upd H l (.lst ys))):=by
 intro pins s σ H xs us Q I r h;obtain⟨p,ys,rfl,hq,q⟩:=h;obtain⟨u,rfl,rx⟩:=jG r;cases rx;have fin:∀ (its:Aa Ac),qH ys its->ys.length<=sizeLine->∀ (h':Bj) (c':Ai),(∀ b o',s.heap.get? b=Ab o'->h'.get? b=Ab o') ->
   h'.get? s.heap.objs.size=Ab { cls:=.type "list",dict:=none,data:=.seq its.toArray c',slots:=#[] } -> EP X pins σ Q (.ref s.heap.objs.size) { s with heap:=h' }:=λits r' hz h' c' kp e =>
  ⟨.ref s.heap.objs.size,_,I.laid (t':=s.toks) kp (AT _) (show z9 X.prog X.w _ h' _ (.lst ys) from⟨hz,its,c',r',e⟩),rfl,q _ (I.hok.fresh (AT _))⟩
 rcases hq with hq|hq
 .obtain⟨its,r',pl,hz⟩:=I.list hq
  have hlen:=r'.length;obtain⟨o,ho,hc,n,hd⟩:=pl.isList;exact call_list_seq p (.inl rfl) ho hc hd (λh' c' kp e=>fin its r' hz h' c' kp e) (by simp only[Ay] <;> omega)
 .obtain⟨its,r',pl,hz⟩:=I.tuple hq
  have hlen:=r'.length;obtain⟨o,ho,hc,n,hd⟩:=pl;exact call_list_seq p (.inr rfl) ho hc hd (λh' c' kp e=>fin its r' hz h' c' kp e) (by simp only[Ay] <;> omega)
theorem gR:j8 X (.type "tuple") (λxs H Q=>∃ p ys,xs=[.ref p]/\((SqL X.K H p ys/\∀ l,H l=none->Q (.ref l) (upd H l (.tup ys)))\/(SqT X.K H p ys/\Q (.ref p) H))):=by
 intro pins s σ H xs us Q I r h;obtain⟨p,ys,rfl,h⟩:=h;obtain⟨u,rfl,rx⟩:=jG r;cases rx;rcases h with⟨hq,q⟩|⟨hq,q⟩
 .obtain⟨its,r',pl,hz⟩:=I.list hq
  have hlen:=r'.length;refine call_tuple_list pl.isList (λh' kp=>?_) (by simp only[Ay] <;> omega)
  have I1:Inv X pins σ H { s with heap:=h' }:=I.kept (t':=s.toks) kp
  have I2:Inv X pins σ (upd H h'.objs.size (.tup ys)) { s with heap:=h'.push { cls:=.type "tuple",data:=.seq its.toArray } }:=
   I1.laid (t':=s.toks) (λb o e=>Ag _ e) (AT _) (show z9 X.prog X.w _ _ _ (.tup ys) from⟨hz,its,r',XV _ _⟩)
  exact⟨.ref h'.objs.size,_,I2,rfl,q _ (I1.hok.fresh (AT _))⟩
 .obtain⟨its,r',pl,hz⟩:=I.tuple hq
  exact call_tuple_same pl ⟨.ref p,H,I,rfl,q⟩
def tyV (K:Aj)(T:Ef)(x:V)(H:Hp):Prop:=match x with
 |.str _=>T = "str"
 |.int _=>T = "int"
 |.ref p=>(T = "list" /\ ∃ xs,SqL K H p xs)\/(T = "tuple" /\ ∃ o,K.lookup p=Ab o/\o.cls=.type "tuple" /\ o.dict=none) \/
   (T = "dict" /\ ((∃ kvs,H p=Ab (.dK kvs))\/∃ kvs,H p=Ab (.dT kvs)))\/(T = "set" /\ ∃ S n,H p=Ab (.set S n))
 |_=>Fh
theorem Y0 {T:Ef}{x:V}{v:Ac}(I:Inv X pins σ H s)(r:qI x v)(ty:tyV X.K T x H) :
  s.TypeIs v T/\∀ a,v=.ref a->∃ ob,s.heap.get? a=Ab ob/\ob.dict=none:=by
 cases x with
 |str z =>
  obtain⟨t,rfl⟩:=r;cases (show T = "str" from ty)
  exact⟨typeIs_str s z t,λ_ e=>nomatch e⟩
 |int i =>
  obtain⟨t,rfl⟩:=r;cases (show T = "int" from ty)
  exact⟨u8 s i t,λ_ e=>nomatch e⟩
 |ref p =>
  cases r;rcases ty with⟨rfl,xs,hq⟩|⟨rfl,o,hk,hc,hd⟩|⟨rfl,hk⟩|⟨rfl,S,n,hk⟩
  .obtain⟨its,_,pl,_⟩:=I.list hq
   refine⟨pl.isList.typeIs,λa e=>?_⟩;cases e;obtain⟨o,n,e,c,hd,_⟩:=pl;exact⟨o,e,hd⟩
  .refine⟨⟨o,I.kIn p o hk,hc⟩,λa e=>?_⟩
   cases e;exact⟨o,I.kIn _ o hk,hd⟩
  .have z:∃ o,s.heap.get? p=Ab o/\o.ExactDict:=by
    rcases hk with⟨kvs,hk⟩|⟨kvs,hk⟩
    .obtain⟨_,_,_,_,o,_,_,e,ex,_⟩:=I.hok p _ hk
     exact⟨o,e,ex⟩
    .obtain⟨_,_,_,_,o,_,_,e,ex,_⟩:=I.hok p _ hk
     exact⟨o,e,ex⟩
   obtain⟨o,e,ex⟩:=z;refine⟨⟨o,e,ex.1⟩,λa e2=>?_⟩;cases e2;exact⟨o,e,ex.2.1⟩
  .obtain⟨o,_,_,_,e,ex,_⟩:=I.hok p _ hk
   refine⟨⟨o,e,ex.1⟩,λa e2=>?_⟩;cases e2;exact⟨o,e,ex.2.1⟩
 |_=>exact Ao ty
variable {o e:Br}{es:Aa Br}{to:TE}{t:TA}{name:Av}{apos cpos:Ex}{T id:Ef}{r:V->Aa V->Hp->VK->Prop}
/- xs.append(e),list.index on a module's tuple .. are MtR facts of 06m -/
end
end _L
namespace _L
open PySem PySem.Spec PyProof.Rows
variable {us:Aa Ac}
def MtM (X:Cx)(id:Ef)(r:V->Aa V->Hp->VK->Prop):Prop:=
 ∀ (pins:Aa (Af × Ci)) (s:Ah) (σ : St) (H:Hp) (x:V) (xs:Aa V) (v:Ac) (us:Aa Ac) (Q:VK),Inv X pins σ H s->qI x v->qH xs us->r x xs H Q ->
  Ap (As X.prog X.w) X.A (call (.builtin id) (v::us)) (EP X pins σ Q) X.xe s
theorem qH.one {x:V}(h:qH [x] us):∃ u,us=[u]/\qI x u:=jG h
theorem qH.two {x y:V}(h:qH [x,y] us):∃ u v,us=[u,v]/\qI x u/\qI y v:=sM h
theorem qH.eraseIdx:∀ {xs:Aa V} {us:Aa Ac} (i:Ai),qH xs us->qH (xs.eraseIdx i) (us.eraseIdx i)
 |_,_,_,.nil=>.nil
 |_,_,0,.cons _ t=>t
 |_,_,i+1,.cons r t=>.cons r (qH.eraseIdx i t)
theorem qH.rep {xs:Aa V}(h:qH xs us):∀ k:Ai,qH (Cw k xs).flatten (Cw k us).flatten
 |0=>.nil
 |k+1=>by
  rw[Gq,Gq,Hv,Hv];exact qH.append h (qH.rep h k)
theorem lW {α:Type}:∀ (l:Aa α) (i:Ai),(l.eraseIdx i).length<=l.length
 |[],_=>AT _
 |_::_,0=>Jk _
 |_::r,i+1=>Nat.succ_le_succ (lW r i)
theorem lN (its:Aa Ac):∀ (k:Ai) (acc:Aa Ac),
  v4 (λx1 x2=>x1++x2) acc.toArray (Cw k its.toArray)=(acc++(Cw k its).flatten).toArray
 |0,acc=>by simp
 |k+1,acc=>by
  have e:acc.toArray++its.toArray=(acc++its).toArray:=by simp
  have e2:(acc++its)++(Cw k its).flatten=acc++(Cw (k+1) its).flatten:=by
   rw[Gq,Hv,Fl]
  rw[<- e2,<- lN its k (acc++its),<- e,Gq,Lr]
section
variable {X:Cx}{pins:Aa (Af × Ci)}{σ : St}{H:Hp}{s:Ah}{l b:Af}{xs ys zs:Aa V}
theorem Inv.lset {its its':Aa Ac}{n:Ai}{f:Bn Ac->Bn Ac}{t':Ai}(I:Inv X pins σ H s)(hH:H l=Ab (.lst xs))
  (e:s.heap.get? l=Ab { cls:=.type "list",data:=.seq its.toArray n }) (hf:f its.toArray=its'.toArray) (hv:qH ys its') (hz:ys.length<=sizeLine) :
  Inv X pins σ (upd H l (.lst ys)) { s with heap:=s.heap.update l (Eg f),toks:=t' }:=by
 have q:=Zd e f;rw[hf] at q;refine I.write (x:=l) (e:=l) (by rw[hH];exact trivial) (.inl rfl) (λb' u hb hu=>(Bg s.heap (Eg f) (El hb)).trans hu) ⟨_,q⟩ ?_
 exact⟨hz,its',_,hv,q⟩
theorem Inv.lstM (I:Inv X pins σ H s)(hH:H l=Ab (.lst xs)):xs.length<=sizeLine/\∃ (its:Aa Ac) (n:Ai),qH xs its/\xs.length=its.length/\s.heap.get? l=Ab { cls:=.type "list",data:=.seq its.toArray n }:=by
 obtain⟨z,its,n,r,e⟩:=I.hok l _ hH;exact⟨z,its,n,r,r.length,e⟩
theorem UD {n:Ai}(h:n<=sizeLine):Ma n=false:=by
 unfold Ma;exact Cn om
end
section
variable {X:Cx}
def FP:V->Aa V->Hp->VK->Prop:=λx vs H Q=>∃ l xs y,x=.ref l/\vs=[y]/\H l=Ab (.lst xs)/\xs.length<sizeLine/\Q .non (upd H l (.lst (xs++[y])))
theorem XE:MtM X "list.append" FP:=by
 intro pins s σ H x vs v us Q I rx rv h;obtain⟨l,xs,y,rfl,rfl,hH,hz,q⟩:=h;cases rx;obtain⟨u,rfl,ru⟩:=rv.one;obtain⟨z,its,n,r,hl,e⟩:=I.lstM hH;refine Lh WF ⟨_,e,rfl⟩ We (Vm _ _) (Ye l its.toArray n u (by rw[Ay];omega)) ⟨e,?_⟩
 refine⟨.non,_,I.lset (its':=its++[u]) hH e (by simp) (r.append (.cons ru .nil)) ?_,rfl,q⟩
 rw[Cj,No];omega
def RQ:V->Aa V->Hp->VK->Prop:=λx vs H Q=>∃ l xs i k y,x=.ref l/\vs=[.int i]/\H l=Ab (.lst xs) /\ -(2 ^ 63)<=i/\i<2 ^ 63/\Ui i xs.length=Ab k/\xs[k]? = Ab y/\Q y (upd H l (.lst (xs.eraseIdx k)))
theorem U7:MtM X "list.pop" RQ:=by
 intro pins s σ H x vs v us Q I rx rv h;obtain⟨l,xs,i,k,y,rfl,rfl,hH,h1,h2,hk,hy,q⟩:=h;cases rx;obtain⟨u,rfl,ru⟩:=rv.one;obtain⟨t,rfl⟩:=ru;obtain⟨z,its,n,r,hl,e⟩:=I.lstM hH;obtain⟨w,hw,rw'⟩:=r.get hy;refine Lh F.slot_list_pop ⟨_,e,rfl⟩ F.entry_list_pop (F.args_list_pop_2 _ _)
  (MeetsSeq.list_pop_at l its.toArray n i t k w (fitsIndex_both h1 h2) (by rw[Ay,<- hl];exact hk) (by rw[<- By];exact hw) (by rw[Ay];omega)) ⟨e,?_⟩
 refine⟨y,_,I.lset (its':=its.eraseIdx k) hH e ?_ (r.eraseIdx k) ?_,rw',q⟩
 .show its.toArray.eraseIdxIfInBounds k=(its.eraseIdx k).toArray
  rw[List.eraseIdxIfInBounds_toArray]
 .have:=lW xs k
  omega
theorem BM {α:Type}(xs:Aa α)(k:Ai):(Cw k xs).flatten.length=k*xs.length:=by
 induction k with
 |zero=>simp
 |succ k ih=>rw[Gq,Hv,Cj,ih,Nat.succ_mul,Nat.add_comm]
end
end _L
namespace _L
open PySem PySem.Spec PyProof.Rows
variable {xs:Aa (Aa Key × Af × Ac)}{kvs:Aa (Aa Key × V)}{Q:Ac->Ah->Prop}{H':Hp}
section
variable {κ : Type}[DecidableEq κ]
def yD (kvs:Aa (κ × V))(k:κ):Al V:=(kvs.find? λkv=>decide (kv.1=k)).map (·.2)
def vE (kvs:Aa (κ × V))(k:κ)(v:V):Aa (κ × V):=
 if (kvs.any λkv=>decide (kv.1=k))=true then kvs.map (λkv=>if kv.1=k then (kv.1,v) else kv) else kvs++[(k,v)]
theorem fY {p:κ × V}{r:Aa (κ × V)}{k:κ}(e:p.1=k):yD (p::r) k=Ab p.2:=by simp[yD,Ix,e]
theorem fX {p:κ × V}{r:Aa (κ × V)}{k:κ}(e:¬ p.1=k):yD (p::r) k=yD r k:=by simp[yD,Ix,e]
theorem c9 (k:κ):∀ kvs:Aa (κ × V),(kvs.any λkv=>decide (kv.1=k))=(yD kvs k).isSome
 |[]=>rfl
 |p::r=>by
  rw[Jy];by_cases e:p.1=k
  .simp only[fY e,Cy e,Bool.true_or,WP]
  .rw[fX e,Cn e,Bool.false_or];exact c9 k r
theorem bR (kvs:Aa (κ × V))(k:κ)(v:V):(vE kvs k v).length<=kvs.length+1:=by
 unfold vE
 split
 .rw[Aq];omega
 .rw[Cj,Ch,Ez];omega
theorem vJ.isSome_eq {o:Al V}{u:Al Ac}(r:vJ o u):o.isSome=u.isSome:=by
 cases o with
 |none=>cases u with
  |none=>rfl
  |some _=>exact(show Fh from r).elim
 |some _=>cases u with
  |none=>exact(show Fh from r).elim
  |some _=>rfl
theorem vJ.getD {o:Al V}{u:Al Ac}{d:V}{d':Ac}(r:vJ o u)(rd:qI d d'):qI (o.getD d) (u.getD d'):=by
 cases o with
 |none=>cases u with
  |none=>exact rd
  |some _=>exact(show Fh from r).elim
 |some _=>cases u with
  |none=>exact(show Fh from r).elim
  |some _=>exact r
theorem KV.val {kvs:Aa (κ × V)}{vs:Aa (κ × Ac)}(r:KV kvs vs)(k:κ):vJ (yD kvs k) (Tn vs k):=by
 unfold KV at r
 induction r with
 |nil=>exact Hu
 |@cons p q ps qs h t ih =>
  obtain⟨h1,h2⟩:=h;by_cases e:p.1=k
  .have e':q.1=k:=h1.symm.trans e
   have b:Tn (q::qs) k=Ab q.2:=by simp[Tn,Ix,e']
   rw[fY e,b];exact h2
  .have e':¬ q.1=k:=λz=>e (h1.trans z)
   have b:Tn (q::qs) k=Tn qs k:=by simp[Tn,Ix,e']
   rw[fX e,b];exact ih
theorem KV.any {kvs:Aa (κ × V)}{vs:Aa (κ × Ac)}(r:KV kvs vs)(k:κ):(kvs.any λkv=>decide (kv.1=k))=vs.any λkv=>decide (kv.1=k):=by
 unfold KV at r
 induction r with
 |nil=>rfl
 |cons h t ih=>rw[Jy,Jy,ih,h.1]
theorem KV.repl {kvs:Aa (κ × V)}{vs:Aa (κ × Ac)}(r:KV kvs vs)(k:κ){y:V}{u:Ac}(ry:qI y u) :
  KV (kvs.map λkv=>if kv.1=k then (kv.1,y) else kv) (vs.map λkv=>if kv.1=k then (kv.1,u) else kv):=by
 unfold KV at r ⊢
 induction r with
 |nil=>exact .nil
 |@cons p q ps qs h t ih =>
  rw[Ee,Ee];refine .cons ?_ ih;obtain⟨h1,h2⟩:=h;by_cases e:p.1=k
  .rw[Bb e,Bb (h1.symm.trans e)];exact⟨h1,ry⟩
  .rw[Bc e,Bc (λz=>e (h1.trans z))];exact⟨h1,h2⟩
theorem KV.put {kvs:Aa (κ × V)}{vs:Aa (κ × Ac)}(r:KV kvs vs)(k:κ){y:V}{u:Ac}(ry:qI y u):KV (vE kvs k y) (stored vs k u):=by
 unfold vE stored;rw[r.any k];by_cases e:(vs.any λkv=>decide (kv.1=k))=true
 .rw[Bb e,Bb e];exact r.repl k ry
 .rw[Bc e,Bc e];exact Paired.snoc r ⟨rfl,ry⟩
theorem KV.length {kvs:Aa (κ × V)}{vs:Aa (κ × Ac)}(r:KV kvs vs):kvs.length=vs.length:=Paired.length r
end
theorem mL {P:Bd}{w:Bt}{k:Key}{u:Ac}(r:qI (kV k) u):(zI P w).is k u=true:=by
 cases k with
 |inl i=>obtain⟨t,e⟩:=(show ∃ t,u=Oe i t from r);subst e;exact cG P w i t
 |inr x=>obtain⟨t,e⟩:=(show ∃ t,u=Ue x t from r);subst e;exact cH P w x t
theorem lT {P:Bd}{w:Bt}:∀ {ks:Aa Key} {us:Aa Ac},qH (ks.map kV) us->ItemsAre (zI P w) ks us
 |[],_,r=>by rw[Xl] at r;cases r;exact .nil
 |k::ks,_,r=>by
  rw[Ee] at r;cases r with
  |cons h t=>exact .cons (mL h) (lT t)
abbrev KT (H:Hp):Aa (Aa Key × V)->Aa (Aa Key × Af × Ac)->Prop:=Paired λp q=>p.1=q.1/\H q.2.1=Ab (.tup (p.1.map kV))/\qI p.2 q.2.2
theorem KT.val {H:Hp}(r:KT H kvs xs)(k:Aa Key):vJ (yD kvs k) ((Wf xs k).map (·.2)):=by
 induction r with
 |nil=>exact Hu
 |@cons p q ps qs h t ih =>
  obtain⟨h1,_,h2⟩:=h;by_cases e:p.1=k
  .have e':q.1=k:=h1.symm.trans e
   have b:Wf (q::qs) k=Ab q.2:=by simp[Wf,Ix,e']
   rw[fY e,b];exact h2
  .have e':¬ q.1=k:=λz=>e (h1.trans z)
   have b:Wf (q::qs) k=Wf qs k:=by simp[Wf,Ix,e']
   rw[fX e,b];exact ih
theorem KT.repl {H:Hp}(r:KT H kvs xs)(k:Aa Key){y:V}{u:Ac}(ry:qI y u) :
  KT H (kvs.map λkv=>if kv.1=k then (kv.1,y) else kv) (xs.map (putAt k u)):=by
 induction r with
 |nil=>exact .nil
 |@cons p q ps qs h t ih =>
  rw[Ee,Ee];refine .cons ?_ ih;obtain⟨h1,h2,h3⟩:=h;unfold putAt;by_cases e:p.1=k
  .rw[Bb e,Bb (h1.symm.trans e)];exact⟨h1,h2,ry⟩
  .rw[Bc e,Bc (λz=>e (h1.trans z))];exact⟨h1,h2,h3⟩
theorem KT.put {H:Hp}(r:KT H kvs xs)(k:Aa Key){b:Af}{y:V}{u:Ac}(hb:H b=Ab (.tup (k.map kV)))(ry:qI y u) :
  KT H (vE kvs k y) (storedH xs k b u):=by
 have e:(kvs.any λkv=>decide (kv.1=k))=(Wf xs k).isSome:=by
  rw[c9,(r.val k).isSome_eq,Qq]
 unfold vE storedH;rw[e];by_cases q:(Wf xs k).isSome=true
 .rw[Bb q,Bb q];exact r.repl k ry
 .rw[Bc q,Bc q];exact Paired.snoc r ⟨rfl,hb,ry⟩
theorem KT.keeps {H:Hp}(r:KT H kvs xs)(ht:∀ b ys,H b=Ab (.tup ys)->H' b=Ab (.tup ys)):KT H' kvs xs:=
 Paired.mapP r λ_ _ z=>⟨z.1,ht _ _ z.2.1,z.2.2⟩
section
variable {P:Bd}{w:Bt}{H:Hp}{h:Bj}{a:Af}
theorem KU {u:HO}(ok:HOk P w H h)(e:Rd H a u):z9 P w H h a u:=e.ok ok
theorem m8 {kvs:Aa (Key × V)}(ok:HOk P w H h)(e:Rd H a (.dK kvs)):kvs.length<=sizeLine/\(a == Jh)=false/\∃ vs,KV kvs vs/\h.DictOf (zI P w) a vs:=
 show z9 P w H h a (.dK kvs) from KU ok e
theorem JZ {kvs:Aa (Key × V)}(ok:HOk P w H h)(e:H a=Ab (.dK kvs)):kvs.length<=sizeLine/\(a == Jh)=false/\∃ vs,KV kvs vs/\h.DictOf (zI P w) a vs:=m8 ok (.inl e)
theorem pI {ks:Aa Key}(ok:HOk P w H h)(e:H a=Ab (.tup (ks.map kV))):(Qk (zI P w)).is h ks a:=by
 obtain⟨_,its,r,o,h1,h2,n,h3⟩:=(show z9 P w H h a (.tup (ks.map kV)) from ok a _ e)
 exact⟨o,its.toArray,n,h1,h2,h3,by simpa using lT r⟩
theorem m9 (ok:HOk P w H h)(e:Rd H a (.dT kvs)):kvs.length<=sizeLine/\(a == Jh)=false /\
  ∃ xs,KT H kvs xs/\h.DictOfH (Qk (zI P w)) a xs:=by
 obtain⟨z,y,xs,r,o,es,ep,h1,h2,h3,h4,h5⟩:=(show z9 P w H h a (.dT kvs) from KU ok e)
 refine⟨z,y,xs,r,o,es,ep,h1,h2,h3,h4,λx hx=>?_,h5⟩;have all:∀ {l:Aa (Aa Key × V)} {m:Aa (Aa Key × Af × Ac)},KT H l m->∀ x∈m,(Qk (zI P w)).is h x.1 x.2.1:=by
  intro l m q
  induction q with
  |nil=>intro x hx;exact nomatch hx
  |@cons p q ps qs hq t ih =>
   intro x hx;rcases Aw.mp hx with e|hx
   .subst e
    exact pI ok (by rw[<- hq.1];exact hq.2.1)
   .exact ih x hx
 exact all r x hx
theorem HF (ok:HOk P w H h)(e:H a=Ab (.dT kvs)):kvs.length<=sizeLine/\(a == Jh)=false /\
  ∃ xs,KT H kvs xs/\h.DictOfH (Qk (zI P w)) a xs:=m9 ok (.inl e)
end
def uE (H:Hp)(a:Af)(y:V)(r:Al V):Prop:=
 (∃ kvs k,Rd H a (.dK kvs)/\y=kV k/\r=yD kvs k)\/∃ kvs k b,Rd H a (.dT kvs)/\y=.ref b/\H b=Ab (.tup (k.map kV))/\r=yD kvs k
def tG (H:Hp)(a:Af)(y v:V)(H':Hp):Prop:=
 (∃ kvs k,H a=Ab (.dK kvs)/\y=kV k/\kvs.length<sizeLine/\H'=upd H a (.dK (vE kvs k v))) \/
 ∃ kvs k b,H a=Ab (.dT kvs)/\y=.ref b/\H b=Ab (.tup (k.map kV))/\kvs.length<sizeLine/\H'=upd H a (.dT (vE kvs k v))
theorem uE.k {H:Hp}{a:Af}{kvs:Aa (Key × V)}{k:Key}(e:H a=Ab (.dK kvs)):uE H a (kV k) (yD kvs k):=.inl ⟨kvs,k,.inl e,rfl,rfl⟩
theorem uE.t {H:Hp}{a b:Af}{k:Aa Key}(e:H a=Ab (.dT kvs))(eb:H b=Ab (.tup (k.map kV))):uE H a (.ref b) (yD kvs k):=.inr ⟨kvs,k,b,.inl e,rfl,eb,rfl⟩
theorem tG.k {H:Hp}{a:Af}{kvs:Aa (Key × V)}{k:Key}{v:V}(e:H a=Ab (.dK kvs))(hl:kvs.length<sizeLine):tG H a (kV k) v (upd H a (.dK (vE kvs k v))):=.inl ⟨kvs,k,e,rfl,hl,rfl⟩
theorem tG.t {H:Hp}{a b:Af}{k:Aa Key}{v:V}(e:H a=Ab (.dT kvs))(eb:H b=Ab (.tup (k.map kV)))(hl:kvs.length<sizeLine) :
  tG H a (.ref b) v (upd H a (.dT (vE kvs k v))):=.inr ⟨kvs,k,b,e,rfl,eb,hl,rfl⟩
section
variable {X:Cx}{pins:Aa (Af × Ci)}{σ : St}{H:Hp}{s:Ah}{a:Af}{y v:V}{u r:Ac}{o:Al V}{A:Bo}{E:Ac->Ah->Prop}
theorem Inv.big (I:Inv X pins σ H s):Jh<s.heap.objs.size:=by
 have h:Cm<s.heap.objs.size:=(I.mod.glob.keeps I.bk).lt;exact Mf (by decide) h
theorem ZD (hu:A.units+1<Dw)(I:Inv X pins σ H s)(g:uE H a y (Ab v))(ry:qI y u)(h:∀ w' s',Inv X pins σ H s'->qI v w'->Q w' s') :
  Ap (As X.prog X.w) A (Ko (.ref a) u) Q E s:=by
 rcases g with⟨kvs,k,e,ey,l⟩|⟨kvs,k,b,e,ey,eb,l⟩
 .subst ey
  obtain⟨z,hd,vs,rel,dd⟩:=m8 I.hok e;obtain⟨w',hw,rw'⟩:=vJ.some_of (v:=v) (o:=Tn vs k) (by rw[l];exact rel.val k)
  exact wpAny_getItem_of (mL ry) dd.mapOf hw (h w' _ (I.tok _) rw')
 .subst ey
  cases (show u=Bs b from ry)
  obtain⟨z,hd,xs,rel,dd⟩:=m9 I.hok e;obtain⟨w',hw,rw'⟩:=vJ.some_of (v:=v) (o:=(Wf xs k).map (·.2)) (by rw[l];exact rel.val k)
  obtain⟨p,hp,hp2⟩:=De.mp hw;refine wpAny_getItem_heap (Mc hu) (pI I.hok eb) dd hp ?_;rw[hp2];exact h w' _ (I.tok _) rw'
theorem O1 (hu:A.units+1<Dw)(I:Inv X pins σ H s)(g:uE H a y o)(ry:qI y u)(h:∀ s',Inv X pins σ H s'->Q (.bool o.isSome) s') :
  Ap (As X.prog X.w) A (Cu .In u (.ref a)) Q E s:=by
 rcases g with⟨kvs,k,e,ey,l⟩|⟨kvs,k,b,e,ey,eb,l⟩
 .subst ey
  obtain⟨z,hd,vs,rel,dd⟩:=m8 I.hok e;refine wpAny_in_of (mL ry) hd dd.mapOf ?_;rw[<- (rel.val k).isSome_eq,<- l];exact h _ (I.tok _)
 .subst ey
  cases (show u=Bs b from ry)
  obtain⟨z,hd,xs,rel,dd⟩:=m9 I.hok e;refine wpAny_in_heap (Mc hu) (pI I.hok eb) hd dd ?_;have q:=(rel.val k).isSome_eq;rw[Qq] at q;rw[<- q,<- l];exact h _ (I.tok _)
theorem cR {h':Bj}{t':Ai}{ob:HO}(I:Inv X pins σ H s)(mu:Mut (H a))(hs:Fd a s.heap h')(he:∃ q,h'.get? a=Ab q)(new:z9 X.prog X.w (upd H a ob) h' a ob) :
  Inv X pins σ (upd H a ob) { s with heap:=h',toks:=t' }:=
 I.write (x:=a) (e:=a) mu (.inl rfl) (λb q hb z=>(hs.2 b hb).trans z) he new
theorem NF {P:Bd}{w:Bt}{h':Bj}{kvs:Aa (Key × V)}{vs:Aa (Key × Ac)}(z:kvs.length<=sizeLine)(hd:(a == Jh)=false)(rel:KV kvs vs)(dd:h'.DictOf (zI P w) a vs) :
  z9 P w H' h' a (.dK kvs):=⟨z,hd,vs,rel,dd⟩
theorem ZE {Q:Qm->Ah->Prop}(hu:A.units+1<Dw)(I:Inv X pins σ H s)(g:tG H a y v H')(ry:qI y u)(rv:qI v r)(h:∀ s',Inv X pins σ H' s'->Q () s') :
  Ap (As X.prog X.w) A (setItem (.ref a) u r) Q E s:=by
 rcases g with⟨kvs,k,e,ey,l,eH⟩|⟨kvs,k,b,e,ey,eb,l,eH⟩
 .subst ey eH
  obtain⟨z,hd,vs,rel,dd⟩:=JZ I.hok e;have hz:vs.length<=sizeLine:=by rw[<- rel.length];exact z
  have hl:(vE kvs k v).length<=sizeLine:=by have:=bR kvs k v;omega
  refine wpAny_setItem_pairs (hsz:=hz) (mL ry) dd λh' dd' hs=>h _ ?_;have he:∃ q,h'.get? a=Ab q:=let ⟨q,_,_,hq,_⟩:=dd';⟨q,hq⟩
  exact cR I (by rw[e];exact Hu) hs he (NF hl hd (rel.put k rv) dd')
 .subst ey eH
  cases (show u=Bs b from ry)
  obtain⟨z,hd,xs,rel,dd⟩:=HF I.hok e;have hz:xs.length<=sizeLine:=by rw[<- Paired.length rel];exact z
  have hl:(vE kvs k v).length<=sizeLine:=by have:=bR kvs k v;omega
  refine wpAny_setItem_heap (hsz:=hz) (Mc hu) (pI I.hok eb) dd λh' dd' hs=>h _ ?_;obtain⟨q,es,ep,hq,h2,h3,h4,_,h5⟩:=dd';refine cR I (by rw[e];exact Hu) hs ⟨q,hq⟩ ⟨hl,hd,_,(rel.put k eb rv).keeps λc ys ec=>?_,q,es,ep,hq,h2,h3,h4,h5⟩
  rw[qJ (CF ec e (λz=>nomatch z))];exact ec
end
def YD (i:Br):Prop:=∀ ov iv,subscripted i false ov iv=operate [ov,iv] (Ko ov iv)
theorem M5 {prog:Bd}{w:Bt}{A:Bo}{E:Ac->Ah->Prop}{s:Ah}{env:HT}{value slice:Br}{pos:Ex}{T id:Ef}
  (hl:t0 (.type T) "__getitem__" = pure (Ab (.builtin id))) (hs:YD slice)
  (h:Ap (As prog w) A (eval value env) (λo s₁=>Ap (As prog w) A (eval slice env) (λi s₂=>s₂.TypeIs o T/\Ap (As prog w) A (Ko o i) Q E s₂) E s₁) E s) :
  Ap (As prog w) A (eval (.Subscript value slice pos) env) Q E s:=by
 refine Sc (Gn h (λo s₁ h₁=>Gn h₁ (λi s₂ h₂=>?_) λ_ _ x=>x) λ_ _ x=>x);obtain⟨hT,h₂⟩:=h₂;unfold Qp;refine Ad ?_;rw[getitemInPython_of_ne hT.not_modules];refine Ad (To hT hl ?_);have fin:Ap (As prog w) A (subscripted slice false o i) (λr s₃=>Ap (As prog w) A (letTemporaryGo value o r >>= λ_=>pure r) Q E s₃) E s₂:=by
  rw[hs o i];exact wpAny_operating (Gn h₂ (λr s₃ h₃=>Ad (wpAny_letTemporaryGo (Ak h₃))) λ_ _ x=>x)
 first
  |exact Ak (Ad fin)
  |exact Ad (Ak (Ad fin))
  |exact Ad fin
theorem cF {X:Cx}{pins:Aa (Af × Ci)}{σ:St}{H:Hp}{s:Ah}{a:Af}{y:V}{o:Al V}(I:Inv X pins σ H s)(g:uE H a y o):s.TypeIs (.ref a) "dict":=by
 rcases g with⟨kvs,k,e,_,_⟩|⟨kvs,k,b,e,_,_,_⟩
 .obtain⟨_,_,vs,_,dd⟩:=m8 I.hok e
  exact dd.typeIs
 .obtain⟨_,_,xs,_,dd⟩:=m9 I.hok e
  exact dd.typeIs
theorem YZ {P:Bd}{w:Bt}{H:Hp}(h:Bj)(hb:Jh<h.objs.size):z9 P w H (h.push { cls:=.type "dict",data:=.dict #[] }) h.objs.size (.dK []):=
 ⟨Gy _,Ov.mpr (El (Bv hb)),[],.nil,Heap.DictOf.new h⟩
def E2:TE:=λ_ H Q=>∀ p,H p=none->Q (.ref p) (upd H p (.dK []))
section
variable {X:Cx}{pos:Ex}
theorem eI:PE X (.Dict [] [] pos) E2:=λpins s σ H Q I h =>
 wpAny_Dict_empty ⟨.ref s.heap.objs.size,_,I.laid (a:=s.heap.objs.size) (o:=.dK []) (t':=s.toks) (λ_ _ q=>Ag _ q) (AT _) (YZ s.heap I.big),rfl,h _ (I.hok.fresh (AT _))⟩
end
section
variable {X:Cx}{pins:Aa (Af × Ci)}{σ : St}{H:Hp}{s:Ah}{a:Af}{y d:V}{u r:Ac}{o:Al V}{A:Bo}{E:Ac->Ah->Prop}
theorem TM (hu:A.units+1<Dw)(I:Inv X pins σ H s)(g:uE H a y o)(ry:qI y u)(rd:qI d r)(h:∀ w' s',Inv X pins σ H s'->qI (o.getD d) w'->Q w' s') :
  Ap (As X.prog X.w) A (call (.builtin "dict.get") [.ref a,u,r]) Q E s:=by
 rcases g with⟨kvs,k,e,ey,l⟩|⟨kvs,k,b,e,ey,eb,l⟩
 .subst ey
  obtain⟨z,hd,vs,rel,dd⟩:=m8 I.hok e;refine Xm Np dd.typeIs Tp (Sm _ _ _) (meets_dict_get_default (zI X.prog X.w) a (mL ry) hd r) ⟨_,dd.mapOf,h _ _ (I.tok _) ?_⟩;rw[l];exact(rel.val k).getD rd
 .subst ey
  cases (show u=Bs b from ry)
  obtain⟨z,hd,xs,rel,dd⟩:=m9 I.hok e;refine Xm Np dd.typeIs Tp (Sm _ _ _) (meetsH_dict_get_default (Qk (zI X.prog X.w)) a b hd r) ⟨Mc hu,k,xs,pI I.hok eb,dd,h _ _ (I.tok _) ?_⟩;rw[l];exact(rel.val k).getD rd
end
end _L
namespace _A
open PySem PySem.W PySem.Calls PyProof.Rows
theorem mG {P:Params}{h:Bj}:∀ (ns:Aa Am) (vs:Aa Ac),WellAll P h vs (ns.map WData.int)->Ji vs ns:=by
 intro ns
 induction ns with
 |nil =>
  intro vs w;rw[Xl] at w;cases w;exact .nil
 |cons n ns ih =>
  intro vs w;rw[Ee] at w;cases w with
  |cons a b =>
   cases a;exact .cons _ _ (ih _ b)
theorem WS {l:OpenLaw}{n:Ai}(hn:l.most=Ab n){P:Params}{h:Bj}{args:Aa WData}{vals:Aa Ac}
  (hpre:l.row.toRowW.claim.pre args=true) (hwl:WellAll P h vals args) :
  ∃ a vs ns,vals=[Bs a]/\args=[WData.list (ns.map WData.int)]/\h.get? a=Ab { cls:=.type "list",data:=.seq vs.toArray } /\ Ji vs ns/\ns.length<=n:=by
 have hsh:WShape.hasAll [] args [.list .int]=true:=(pre_splitW hpre).1;have hc:l.pre.holds [] { args:=args } = true:=(pre_splitW hpre).2;obtain⟨d,r,rfl,h1,h2⟩:=hasAllW_cons hsh;obtain rfl:=hasAllW_nil h2;obtain⟨xs,rfl,h3⟩:=hasW_list h1;obtain⟨ns,rfl⟩:=items_int h3;have hlen:ns.length<=n:=by
  unfold OpenLaw.pre at hc;have h4:(WTm.not (.lt (.lit (.int (n:Am))) (.len (.arg 0)))).holds [] { args:=[.list (ns.map .int)] } = true:=by
   have h4:=(holds_andW hc).1;rw[hn] at h4;exact h4
  have h5:=condW_of h4 (w_not (w_lt w_lit (w_len_list (w_arg rfl))));rw[Aq] at h5;refine Sd λq=>?_;have q':(n:Am)<((ns.length:Ai):Am):=by omega
  first
   |(rw[Cy q'] at h5;exact absurd h5 (by decide))
   |(simp at h5;omega)
 cases hwl with
 |cons w1 w2 =>
  cases w2;cases w1 with
  |list ho hall=>exact⟨_,_,ns,rfl,rfl,ho,mG ns _ hall,hlen⟩
theorem XY (l:OpenLaw)(args:Aa WData):l.row.toRowW.claim.post args (.bool true) args=true:=
 postW_of (r:=l.row.toRowW) (X:=(true == true))
  (show WShape.has [] (.bool true) .bool=true by first|rfl|decide|simp[WShape.has,WShape.arms,WShape.armsAll])
  (show (WTm.eq .res (.lit (.bool true))).value [] { args:=args,res:=Ab (.bool true),after:=args } = Ab (.bool (true == true)) from w_eq_bool (w_res rfl) w_lit) rfl
theorem attach_call {l:OpenLaw}{n:Ai}{q:Bd}{loose:Aa Av}{XP:(Av->Al Ac)->Bj->Prop}{YP:Bt->Bj->Prop}{d:DefRec}
  (hn:l.most=Ab n) (hdf:d.params.defaults=[])
  (call:∀ (w:Bt) (s₀ s₁:Ah) (mg mb:Av->Al Ac) (fa:Af) (o:Ci) (pm cd doc:Ac) (a:Af) (vs:Aa Ac) (ns:Aa Am),
   Ground q loose [] XP w s₀ mg mb s₁.heap->YP w s₁.heap ->
   s₁.heap.get? fa=Ab o->o.data=.func (docDef d.name d.params d.body d.scope pm cd doc)->s₁.heap.CodeRec cd d.name->mg d.name=Ab (.ref fa) ->
   s₁.heap.get? a=Ab { cls:=.type "list",data:=.seq vs.toArray } -> Ji vs ns->ns.length<=n->s₁.gens=#[] ->
   Go (As l.prog w) Qr (.call (.ref fa) ⟨[.ref a],[]⟩) (λr s'=>r=.ok (.ret (.bool true))/\OldK s₁.heap s'.heap/\s'.os=s₁.os/\Nk s'.gens) s₁) :
  WalkO q loose XP YP l.row.toRowW d [] (λf vs=>v6 f vs):=by
 intro w s₀ s₁ mg mb G Y fa o pm cd doc dV kV ho hd hcd hD hmg hg args vals as hpre hlay hrd hwl hlo;obtain rfl:dV=.none:=Dflts.none hD hdf;obtain rfl:kV=.none:=Dflts.noKw hD;obtain⟨a,vs,ns,rfl,rfl,hobj,hints,hlen⟩:=WS hn hpre hwl;refine enter_call (Iq (call w s₀ s₁ mg mb fa o pm cd doc a vs ns G Y ho (fd_plain hd) hcd hmg hobj hints hlen hg) λr s' hq=>?_);obtain⟨rfl,h2,h3,h4⟩:=hq;exact⟨.inl ⟨.bool true,.bool true,[],rfl,λ_=>rfl,.bool true,XY l _,λ_=>⟨Mv,λ_ hm=>(nomatch hm)⟩⟩,h2,h3,h4⟩
end _A
namespace _L
open PySem PySem.Spec PyProof.Rows
theorem Y3 {vs:Aa Ac}{ns:Aa Am}(h:Ji vs ns):qH (ns.map V.int) vs:=by
 induction h with
 |nil=>exact .nil
 |cons n t h ih=>exact .cons ⟨t,rfl⟩ ih
def SqX (K:Aj)(H:Hp)(a:Af)(xs:Aa V):Prop:=
 Rd H a (.lst xs)\/∃ (its:Aa Ac) (n:Ai),K.lookup a=Ab { cls:=.type "list",data:=.seq its.toArray n } /\ xs.length<=sizeLine/\qH xs its
theorem SqX.l {K:Aj}{H:Hp}{a:Af}{xs:Aa V}(h:SqX K H a xs):SqL K H a xs:=by
 rcases h with h|⟨its,n,e,l,v⟩
 .exact .inl h
 .exact .inr ⟨_,its.toArray,n,e,rfl,rfl,rfl,by rw[Ay,<- v.length];exact l,by simpa using v⟩
end _L
namespace _L
open PySem PySem.Spec PyProof.Rows
variable {ps:Aa Av}{f:Af}{x qual:Av}{H:Hp}
def y7 (s:Fa):Lg:=match s with
 |.FunctionDef _ a _ _ _ _ _ _ _ _=>a
 |_=>{ posonlyargs:=[],args:=[],vararg:=none,kwonlyargs:=[],kw_defaults:=[],kwarg:=none,defaults:=[] }
def zF (s:Fa):Aa Fa:=match s with
 |.FunctionDef _ _ b _ _ _ _ _ _ _=>b
 |_=>[]
def qG (s:Fa):Em:=match s with
 |.FunctionDef _ _ _ _ _ _ sc _ _ _=>sc
 |_=>{ kind:=.function,names:=[],isGenerator:=false,isCoroutine:=false }
abbrev CX0:CXT:=λ_ _ _ _ _ _=>Fh
structure Fun (K:Aj)(x qual:Av)(st:Fa)(f:Af)(fd:Ft):Prop where
 ex:∃ (oc:Ac) (od:Al Af) (kV doc pm:Ac) (an:Al Af) (cdv ct:Ac) (osl:Bn (Al Ac)),
  fd=Gw x qual (y7 st) (zF st) (qG st) .none kV doc pm an cdv ct/\K.lookup f=Ab ⟨oc,od,.func fd,osl⟩/\Kn K cdv qual=true
 kp:Fj K (.ref f)=true
section
variable {P:Bd}{w:Bt}{K:Aj}{mg:Av->Al Ac}{base:Bj}
theorem Fun.ok {st:Fa}{fd:Ft}{N:Aa Av}{k:Ai}{sp:Sp}(F:Fun K x qual st f fd)(S:FnScope N ps (qG st))(len:∀ vs H Q E,sp vs H Q E->vs.length=ps.length)
  (hbody:∀ (cdv:Ac) (A:Bo) (outer:Aa HT) (s:Ah) (H:Hp) (vs:Aa V) (Q:VK) (E:XK),Room k (A.deeper (Gj qual (qG st) s.heap.objs.size f cdv))->sp vs H Q E ->
   ∃ t,PSs (tN CX0 P w K mg base N qual (qG st) f cdv A outer s H E).nox (zF st) t/\t { nx:=λ_ H'=>Q .non H',rt:=Q } (xR N vs) H):FnOk P w K mg base CX0 (k+1) f fd ps sp:=by
 obtain⟨oc,od,kV,doc,pm,an,cdv,ct,osl,rfl,lk,hcd⟩:=F.ex;refine HJ lk hcd S len λA outer s H vs Q E hr hsp=>?_;obtain⟨t,h,q⟩:=hbody cdv A outer s H vs Q E hr hsp;exact⟨t,h.nox,q⟩
theorem Fun.binds {st:Fa}{fd:Ft}(F:Fun K x qual st f fd)
  (h:∀ (kV doc pm:Ac) (an:Al Af) (cdv ct:Ac) (us:Aa Ac),us.length=ps.length->Na (Gw x qual (y7 st) (zF st) (qG st) .none kV doc pm an cdv ct) ⟨us,[]⟩=pure (ps.zip us)):vQ K fd ps []:=by
 obtain⟨oc,od,kV,doc,pm,an,cdv,ct,osl,rfl,lk,hcd⟩:=F.ex;exact .all (h kV doc pm an cdv ct)
theorem L5 {st:Fa}{oc:Ac}{od an:Al Af}{osl:Bn (Al Ac)}{kV doc pm cdv ct:Ac}(l:K.lookup f=Ab ⟨oc,od,.func (Gw x qual (y7 st) (zF st) (qG st) .none kV doc pm an cdv ct),osl⟩)
  (c:Kn K cdv qual=true) (k:Fj K (.ref f)=true):Fun K x qual st f (Gw x qual (y7 st) (zF st) (qG st) .none kV doc pm an cdv ct):=⟨⟨oc,od,kV,doc,pm,an,cdv,ct,osl,rfl,l,c⟩,k⟩
end
def qF (H H':Hp):Prop:=∀ b o,H b=Ab o->H' b=Ab o
theorem qF.refl (H:Hp):qF H H:=λ_ _ h=>h
theorem qF.trans {H1 H2:Hp}(a:qF H H1)(b:qF H1 H2):qF H H2:=λc o h=>b c o (a c o h)
theorem qF.free {H':Hp}(e:qF H H'){l:Af}(h:H' l=AaN):H l=AaN:=by
 cases q:H l with
 |none=>rfl
 |some o =>
  rw[e l o q] at h;cases h
theorem qF.seq {K:Aj}{H':Hp}{a:Af}{xs:Aa V}(e:qF H H')(h:SqL K H a xs):SqL K H' a xs:=by
 rcases h with (h|⟨o,h⟩)|h
 .exact .inl (.inl (e _ _ h))
 .exact .inl (.inr ⟨o,e _ _ h⟩)
 .exact .inr h
end _L
end
section
namespace _D
open PySem PySem.Spec PyProof.Rows _L
inductive D where
 |non|bl (b:Ar)|int (i:Am)|str (x:Av)|ty (n:Ef)|obj (a:Af)|tup (xs:Aa D)|lst (xs:Aa D)|dct0|loc (i:Ai)|exn (c:Ac)|fd (ks:Aa Key) (ds:Aa D)|clo (a:Af) (vs:Aa V) (ds:Aa D)
def rH (a:Af)(c:Ac):HO:=.ext λh=>∃ ob,h.get? a=Ab ob/\ob.cls=c
inductive MO where
 |dead|lst (xs:Aa D)|dct (kvs:Aa (Key × D))|ins (C:Af) (fs:Aa (Av × D))
abbrev Sto:=Aa MO
inductive Res (β : Type) where
 |ok (d:β) (S:Sto)|ex (c:Ac) (x:D) (S:Sto)|bad
@[inline] def Res.bind {β γ:Type}(r:Res β)(f:β->Sto->Res γ) : Res γ:=
 match r with
 |.ok d S=>f d S
 |.ex c x S=>.ex c x S
 |.bad=>.bad
theorem Res.bind_ok {β γ:Type}(d:β)(S:Sto)(f:β->Sto->Res γ) : (Res.ok d S).bind f=f d S:=rfl
section
variable (K:Aj)(P:Hp)(α : Aa Af)
mutual
def Rep:D->V->Prop
 |.non,v=>v=.non
 |.bl b,v=>v=.bl b
 |.int i,v=>v=.int i
 |.str x,v=>v=.str x
 |.ty n,v=>v=.ty n
 |.obj a,v=>v=.ref a/\Fj K (.ref a)=true
 |.tup ds,v=>∃ a vs,v=.ref a/\SqT K P a vs/\qD ds vs
 |.lst ds,v=>∃ a vs,v=.ref a/\SqX K P a vs/\qD ds vs
 |.dct0,v=>∃ a,v=.ref a/\P a=Ab (.dK [])
 |.loc i,v=>∃ a,v=.ref a/\α[i]? = Ab a
 |.exn c,v=>∃ a,v=.ref a/\P a=Ab (rH a c)
 |.fd ks ds,v=>∃ a o vs,v=.ref a/\P a=Ab (.frz o (.dK (ks.zip vs)))/\ks.length=vs.length/\qD ds vs
 |.clo a vs ds,v=>v=.ref a/\qD ds vs
def qD:Aa D->Aa V->Prop
 |[],vs=>vs=[]
 |d::ds,vs=>∃ w ws,vs=w::ws/\Rep d w/\qD ds ws
end
end
section
variable {K:Aj}{P P':Hp}{α α':Aa Af}
theorem yQ (e:qF P P'){a:Af}{xs:Aa V}(h:SqT K P a xs):SqT K P' a xs:=by
 rcases h with (h|⟨o,h⟩)|h
 .exact .inl (.inl (e _ _ h))
 .exact .inl (.inr ⟨o,e _ _ h⟩)
 .exact .inr h
theorem iC (e:qF P P'){a:Af}{u:HO}(h:Rd P a u):Rd P' a u:=by
 rcases h with h|⟨o,h⟩
 .exact .inl (e _ _ h)
 .exact .inr ⟨o,e _ _ h⟩
theorem x9 (e:qF P P'){a:Af}{xs:Aa V}(h:SqX K P a xs):SqX K P' a xs:=by
 rcases h with h|h
 .exact .inl (iC e h)
 .exact .inr h
theorem bH {i:Ai}{a:Af}(h:α<+:α')(e:α[i]? = Ab a):α'[i]? = Ab a:=by
 obtain⟨r,rfl⟩:=h;rw[Cb (Az.mp e).1];exact e
mutual
theorem Rep.mono (e:qF P P')(h:α<+:α'):∀ (d:D) (v:V),Rep K P α d v->Rep K P' α' d v
 |.non,_,r=>by simpa only [Rep] using r
 |.bl _,_,r=>by simpa only [Rep] using r
 |.int _,_,r=>by simpa only [Rep] using r
 |.str _,_,r=>by simpa only [Rep] using r
 |.ty _,_,r=>by simpa only [Rep] using r
 |.obj _,_,r=>by simpa only [Rep] using r
 |.tup ds,v,r=>by
  simp only[Rep] at r ⊢;obtain⟨a,vs,rfl,q,t⟩:=r;exact⟨a,vs,rfl,yQ e q,qD.mono e h ds vs t⟩
 |.lst ds,v,r=>by
  simp only[Rep] at r ⊢;obtain⟨a,vs,rfl,q,t⟩:=r;exact⟨a,vs,rfl,x9 e q,qD.mono e h ds vs t⟩
 |.dct0,v,r=>by
  simp only[Rep] at r ⊢;obtain⟨a,rfl,q⟩:=r;exact⟨a,rfl,e _ _ q⟩
 |.loc i,v,r=>by
  simp only[Rep] at r ⊢;obtain⟨a,rfl,q⟩:=r;exact⟨a,rfl,bH h q⟩
 |.exn c,v,r=>by
  simp only[Rep] at r ⊢;obtain⟨a,rfl,q⟩:=r;exact⟨a,rfl,e _ _ q⟩
 |.fd ks ds,v,r=>by
  simp only[Rep] at r ⊢;obtain⟨a,o,vs,rfl,q,hl,t⟩:=r;exact⟨a,o,vs,rfl,e _ _ q,hl,qD.mono e h ds vs t⟩
 |.clo a vs ds,v,r=>by
  simp only[Rep] at r ⊢;exact⟨r.1,qD.mono e h ds vs r.2⟩
theorem qD.mono (e:qF P P')(h:α<+:α'):∀ (ds:Aa D) (vs:Aa V),qD K P α ds vs->qD K P' α' ds vs
 |[],vs,r=>by simpa only [qD] using r
 |d::ds,vs,r=>by
  simp only[qD] at r ⊢;obtain⟨w,ws,rfl,r1,r2⟩:=r;exact⟨w,ws,rfl,Rep.mono e h d w r1,qD.mono e h ds ws r2⟩
end
theorem qD.nil:qD K P α [] []:=by simp only[qD]
theorem qD.cons {d:D}{v:V}{ds:Aa D}{vs:Aa V}(r:Rep K P α d v)(t:qD K P α ds vs):qD K P α (d::ds) (v::vs):=by
 simp only[qD];exact⟨v,vs,rfl,r,t⟩
theorem qD.nil_inv {vs:Aa V}(r:qD K P α [] vs):vs=[]:=by simpa only [qD] using r
theorem qD.cons_inv {d:D}{ds:Aa D}{vs:Aa V}(r:qD K P α (d::ds) vs):∃ w ws,vs=w::ws/\Rep K P α d w/\qD K P α ds ws:=by simpa only [qD] using r
theorem qD.length:∀ {ds:Aa D} {vs:Aa V},qD K P α ds vs->ds.length=vs.length
 |[],vs,r=>by rw[r.nil_inv];rfl
 |d::ds,vs,r=>by
  obtain⟨w,ws,rfl,_,t⟩:=r.cons_inv;rw[Ch,Ch,t.length]
theorem qD.append:∀ {ds es:Aa D} {vs ws:Aa V},qD K P α ds vs->qD K P α es ws->qD K P α (ds++es) (vs++ws)
 |[],es,vs,ws,r,t=>by rw[r.nil_inv];exact t
 |d::ds,es,vs,ws,r,t=>by
  obtain⟨w,us,rfl,r1,r2⟩:=r.cons_inv;exact .cons r1 (r2.append t)
theorem qD.get:∀ {ds:Aa D} {vs:Aa V} {i:Ai} {d:D},qD K P α ds vs->ds[i]? = Ab d->∃ v,vs[i]? = Ab v/\Rep K P α d v
 |[],_,_,_,_,e=>by simp at e
 |d::ds,vs,i,d',r,e=>by
  obtain⟨w,ws,rfl,r1,r2⟩:=r.cons_inv;cases i with
  |zero=>simp at e;subst e;exact⟨w,rfl,r1⟩
  |succ i =>
   obtain⟨v,h1,h2⟩:=r2.get (i:=i) (d:=d') (by simpa using e)
   exact⟨v,by simpa using h1,h2⟩
theorem qD.drop:∀ {ds:Aa D} {vs:Aa V} (n:Ai),qD K P α ds vs->qD K P α (ds.drop n) (vs.drop n)
 |ds,vs,0,r=>by simpa using r
 |[],vs,n+1,r=>by rw[r.nil_inv];exact .nil
 |d::ds,vs,n+1,r=>by
  obtain⟨w,ws,rfl,_,r2⟩:=r.cons_inv;simpa using r2.drop n
theorem qD.take:∀ {ds:Aa D} {vs:Aa V} (n:Ai),qD K P α ds vs->qD K P α (ds.take n) (vs.take n)
 |ds,vs,0,r=>by simpa using qD.nil
 |[],vs,n+1,r=>by rw[r.nil_inv];exact .nil
 |d::ds,vs,n+1,r=>by
  obtain⟨w,ws,rfl,r1,r2⟩:=r.cons_inv;simpa using qD.cons r1 (r2.take n)
theorem qD.set {d:D}{v:V}(q:Rep K P α d v):∀ {ds:Aa D} {vs:Aa V} (n:Ai),qD K P α ds vs->qD K P α (ds.set n d) (vs.set n v)
 |[],vs,n,r=>by rw[r.nil_inv];exact .nil
 |e::ds,vs,0,r=>by
  obtain⟨w,ws,rfl,r1,r2⟩:=r.cons_inv;exact .cons q r2
 |e::ds,vs,n+1,r=>by
  obtain⟨w,ws,rfl,r1,r2⟩:=r.cons_inv;exact .cons r1 (r2.set q n)
end
abbrev qE:=Aa (Al D)
def qZ (K:Aj)(P:Hp)(α : Aa Af)(σ : _L.St)(env:qE):Prop:=env.length=σ.length/\∀ (i:Ai) (d:D),env[i]? = Ab (Ab d)->∃ v,σ[i]? = Ab (Ab v)/\Rep K P α d v
def KVs (K:Aj)(P:Hp)(α : Aa Af){κ : Type}:Aa (κ × D)->Aa (κ × V)->Prop:=Paired λ(p:κ × D) (q:κ × V)=>p.1=q.1/\Rep K P α p.2 q.2
def MOk (K:Aj)(H P:Hp)(α : Aa Af)(a:Af):MO->Prop
 |.dead=>Kl
 |.lst ds=>∃ vs,H a=Ab (.lst vs)/\qD K P α ds vs
 |.dct kvs=>∃ vs,H a=Ab (.dK vs)/\KVs K P α kvs vs
 |.ins C fs=>∃ dx vs,H a=Ab (.ins C dx vs)/\KVs K P α fs vs
inductive TbAt (x:Av)(H P:Hp)(α : Aa Af)(T:Af):Prop
 |mk (ps:Bn Ac) (e:H T=Ab (.tbl ps)) (pn:P T=none) (an:T ∉ α) (ok:Li ps.toList) (cd:∀ pos cv,Oh pos ps.toList=Ab cv->∃ c oc vs t,cv=.ref c/\H c=Ab (.frz oc (.frz oc (.own 0)))/\oc.data=.fields vs/\vs[1]? = Ab (.str (x ++ ".<locals>." ++ "<lambda>") t)):TbAt x H P α T
def iX (K:Aj)(H P:Hp)(α : Aa Af):Prop:=∀ x∈wF,∀ c T,Dq K x=Ab (c,T)->TbAt x H P α T
def LB (u:HO):Prop:=(∃ ps,u=.tbl ps)\/∃ o,u=.frz o (.frz o (.own 0))
theorem iX.keep {K:Aj}{H H' P P':Hp}{α α':Aa Af}(r:iX K H P α)(e:∀ b u,H b=Ab u->LB u->H' b=Ab u)(hp:∀ b u,H b=Ab u->LB u->P b=none->b ∉ α->P' b=none/\b ∉ α'):iX K H' P' α':=λx hx c T h =>
 let ⟨ps,e1,pn,an,ok,cd⟩:=r x hx c T h
 let z:=hp _ _ e1 (.inl ⟨_,rfl⟩) pn an
 ⟨ps,e _ _ e1 (.inl ⟨_,rfl⟩),z.1,z.2,ok,λpos cv q=>let ⟨c,oc,vs,t,a,b,d⟩:=cd pos cv q;⟨c,oc,vs,t,a,e _ _ b (.inr ⟨_,rfl⟩),d⟩⟩
structure Rel (K:Aj)(H P:Hp)(α : Aa Af)(S:Sto):Prop where
 tb:iX K H P α
 sub:qF P H
 len:α.length=S.length
 nd:α.Nodup
 sep:∀ (i:Ai) (a:Af) (o:MO),α[i]? = Ab a->S[i]? = Ab o->o≠.dead->P a=none
 at':∀ (i:Ai) (a:Af) (o:MO),α[i]? = Ab a->S[i]? = Ab o->MOk K H P α a o
 own:∀ (i:Ai) (a:Af),α[i]? = Ab a->H a≠none
section
variable {K:Aj}{H P P':Hp}{α α':Aa Af}{S:Sto}
theorem qZ.mono {σ : _L.St}{env:qE}(e:qF P P')(h:α<+:α')(r:qZ K P α σ env):qZ K P' α' σ env:=
 ⟨r.1,λi d q=>let ⟨v,h1,h2⟩:=r.2 i d q;⟨v,h1,Rep.mono e h d v h2⟩⟩
theorem KVs.mono {κ : Type}(e:qF P P')(h:α<+:α'){kvs:Aa (κ × D)}{vs:Aa (κ × V)}(r:KVs K P α kvs vs):KVs K P' α' kvs vs:=by
 refine Paired.mapP r λp q z=>⟨z.1,Rep.mono e h _ _ z.2⟩
theorem MOk.mono {a:Af}(e:qF P P')(h:α<+:α'):∀ {o:MO},MOk K H P α a o->MOk K H P' α' a o
 |.dead,_=>trivial
 |.lst _,⟨vs,q,r⟩=>⟨vs,q,qD.mono e h _ _ r⟩
 |.dct _,⟨vs,q,r⟩=>⟨vs,q,r.mono e h⟩
 |.ins _ _,⟨dx,vs,q,r⟩=>⟨dx,vs,q,r.mono e h⟩
theorem Rel.grow {H':Hp}(r:Rel K H P α S)(e:qF H H'):Rel K H' P α S where
 tb:=r.tb.keep (λb u q _=>e _ _ q) λ_ _ _ _ p n=>⟨p,n⟩
 sub:=r.sub.trans e
 len:=r.len
 nd:=r.nd
 sep:=r.sep
 at':=λi a o q1 q2=>by
  have m:=r.at' i a o q1 q2;cases o with
  |dead=>trivial
  |lst ds=>obtain⟨vs,q,t⟩:=m;exact⟨vs,e _ _ q,t⟩
  |dct kvs=>obtain⟨vs,q,t⟩:=m;exact⟨vs,e _ _ q,t⟩
  |ins C fs=>obtain⟨dx,vs,q,t⟩:=m;exact⟨dx,vs,e _ _ q,t⟩
 own:=λi a q=>by
  have m:=r.own i a q;cases z:H a with
  |none=>exact absurd z m
  |some o=>rw[e _ _ z];intro w;cases w
theorem fU {H:Hp}{a:Af}{o:HO}(h:H a=none):qF H (upd H a o):=λb u e=>by rw[qJ (qP e h)];exact e
theorem Rel.pure {a:Af}{o:HO}(r:Rel K H P α S)(h:H a=none):Rel K (upd H a o) (upd P a o) α S/\qF P (upd P a o):=by
 have hP:P a=none:=by
  cases z:P a with
  |none=>rfl
  |some u=>rw[r.sub _ _ z] at h;cases h
 have sP:qF P (upd P a o):=fU hP;have r1:=r.grow (fU (o:=o) h);refine⟨⟨r.tb.keep (λb u q _=>(qJ (qP q h)).trans q) λb u q _ p n=>⟨(qJ (qP q h)).trans p,n⟩,λb u e=>?_,r.len,r.nd,λi b u q1 q2 q3=>?_,λi b u q1 q2=>(r1.at' i b u q1 q2).mono sP (Bh _),r1.own⟩,sP⟩
 .by_cases hb:b=a
  .subst hb;rw[qQ] at e ⊢;exact e
  .rw[qJ hb] at e ⊢;exact r.sub _ _ e
 .have hb:b≠a:=by rintro rfl;exact r.own i b q1 h
  rw[qJ hb];exact r.sep i b u q1 q2 q3
theorem Rel.new {a:Af}{o:HO}{m:MO}(r:Rel K H P α S)(h:H a=none)(hm:MOk K (upd H a o) P (α ++ [a]) a m):Rel K (upd H a o) P (α ++ [a]) (S++[m]):=by
 have hP:P a=none:=by
  cases z:P a with
  |none=>rfl
  |some u=>rw[r.sub _ _ z] at h;cases h
 have r1:=r.grow (fU (o:=o) h);have hp:α<+:α++[a]:=Fq _ _;have split:∀ (i:Ai) (b:Af),(α++[a])[i]? = Ab b->(i<α.length/\α[i]? = Ab b)\/(i=α.length/\b=a):=λi b q=>by
  by_cases hi:i<α.length
  .rw[Cb hi] at q;exact .inl ⟨hi,q⟩
  .rw[Di om] at q
   cases hk:i-α.length with
   |zero=>rw[hk] at q;simp at q;exact .inr ⟨by omega,q.symm⟩
   |succ k=>rw[hk] at q;simp at q
 refine⟨r.tb.keep (λb u q _=>(qJ (qP q h)).trans q) λb u q _ p n=>⟨p,λz=>(Cp.mp z).elim n λw=>qP q h (by simpa using w)⟩,r1.sub,by simp[r.len],?_,λi b u q1 q2 q3=>?_,λi b u q1 q2=>?_,λi b q=>?_⟩
 .rw[Ja]
  refine⟨r.nd,by simp,λb hb c hc e=>?_⟩
  simp at hc;subst hc;subst e;obtain⟨i,hi,e⟩:=Cd.mp hb;exact r.own i b (by rw[An hi,e]) h
 .rcases split i b q1 with⟨hi,z⟩|⟨hi,rfl⟩
  .rw[Cb (by rw[<- r.len];exact hi)] at q2
   exact r.sep i b u z q2 q3
  .exact hP
 .rcases split i b q1 with⟨hi,z⟩|⟨hi,rfl⟩
  .rw[Cb (by rw[<- r.len];exact hi)] at q2
   exact(r1.at' i b u z q2).mono (qF.refl _) hp
  .rw[hi,r.len,Di (AT _)] at q2
   simp at q2;subst q2;exact hm
 .rcases split i b q with⟨_,z⟩|⟨_,rfl⟩
  .exact r1.own i b z
  .rw[qQ];intro z;cases z
theorem XI {N:Aa Af}(hN:N.Nodup){i j:Ai}{x:Af}(a:N[i]? = Ab x)(b:N[j]? = Ab x):i=j:=by
 obtain⟨h1,e1⟩:=Az.mp a;obtain⟨h2,e2⟩:=Az.mp b;exact(Rz hN).mp (e1.trans e2.symm)
theorem Rel.put {a:Af}{i:Ai}{o:HO}{m m':MO}(r:Rel K H P α S)(ha:α[i]? = Ab a)(hs:S[i]? = Ab m)(hd:m≠.dead)(hm:MOk K (upd H a o) P α a m'):Rel K (upd H a o) P α (S.set i m'):=by
 have hP:=r.sep i a m ha hs hd;have hi:i<S.length:=(Az.mp hs).1;refine⟨r.tb.keep (λb u q hu=>?_) λ_ _ _ _ p n=>⟨p,n⟩,λb u e=>?_,by simp[r.len],r.nd,λj b u q1 q2 q3=>?_,λj b u q1 q2=>?_,λj b q=>?_⟩
 .refine(qJ ?_).trans q
  rintro rfl;have z:=r.at' i _ m ha hs;cases m with
  |dead=>exact hd rfl
  |lst ds=>obtain⟨vs,z,_⟩:=z;rw[q] at z;rcases hu with⟨_,rfl⟩|⟨_,rfl⟩ <;> cases z
  |dct kvs=>obtain⟨vs,z,_⟩:=z;rw[q] at z;rcases hu with⟨_,rfl⟩|⟨_,rfl⟩ <;> cases z
  |ins C fs=>obtain⟨dx,vs,z,_⟩:=z;rw[q] at z;rcases hu with⟨_,rfl⟩|⟨_,rfl⟩ <;> cases z
 .have hb:b≠a:=by rintro rfl;rw[hP] at e;cases e
  rw[qJ hb];exact r.sub _ _ e
 .by_cases hj:j=i
  .subst hj;rw[ha] at q1;cases q1;exact hP
  .rw[Dx (El hj)] at q2;exact r.sep j b u q1 q2 q3
 .by_cases hj:j=i
  .subst hj;rw[ha] at q1;cases q1
   rw[Ed hi] at q2;cases q2;exact hm
  .rw[Dx (El hj)] at q2
   have hb:b≠a:=by rintro rfl;exact hj (XI r.nd q1 ha)
   have z:=r.at' j b u q1 q2;cases u with
   |dead=>trivial
   |lst ds=>obtain⟨vs,q,t⟩:=z;exact⟨vs,by rw[qJ hb];exact q,t⟩
   |dct kvs=>obtain⟨vs,q,t⟩:=z;exact⟨vs,by rw[qJ hb];exact q,t⟩
   |ins C fs=>obtain⟨dx,vs,q,t⟩:=z;exact⟨dx,vs,by rw[qJ hb];exact q,t⟩
 .by_cases hb:b=a
  .subst hb;rw[qQ];intro z;cases z
  .rw[qJ hb];exact r.own j b q
end
theorem nn {β : Type}{a:β}{p:Prop}(h:(none:Al β) = Ab a):p:=by cases h
theorem kX {β : Type}{c:Prop}[Mq c]{a b:β}(h:(if c then Ab a else none)=Ab b):c/\a=b:=by
 by_cases z:c
 .rw[Bb z] at h;exact⟨z,Co h⟩
 .rw[Bc z] at h;exact nn h
end _D
end
namespace _D
open PySem PySem.Spec PyProof.Rows _L
variable {more:Aa (Af × Ci)}{us args cs:Aa Ac}{body:Aa Fa}{vs:Aa V}{u vv:Ac}{p C:Af}{od:Al Af}{sl:Bn (Al Ac)}{np:Ex}{R:It->Hp->Prop}{M:Mr}{sp:Sp}{S S1:Sto}{Q:VK}
abbrev DE:=qE->Sto->Res D
abbrev DT:=qE->Sto->Res Ar
abbrev DA:=qE->Sto->Res (Aa D)
inductive Out where
 |nx (env:qE) (S:Sto)|rt (d:D) (S:Sto)|bk (env:qE) (S:Sto)|ct (env:qE) (S:Sto)|ex (c:Ac) (x:D) (env:qE) (S:Sto)|bad
abbrev DS:=qE->Sto->Out
def Old (X:Cx)(pins:Aa (Af × Ci))(H:Hp)(b:Af):Prop:=
 (∃ o,X.s₀.heap.get? b=Ab o)\/H b≠none\/(∃ p∈X.pn++pins,p.1=b)\/∃ x,X.env.cells.lookup x=Ab b
def Cv (X:Cx)(pins:Aa (Af × Ci))(H:Hp)(B h:Bj):Prop:=∀ b o,h.get? b=Ab o->Old X pins H b->b ∉ frs X.stack->B.get? b=Ab o
inductive FlyX (X:Cx)(pins:Aa (Af × Ci))(H:Hp)(c:Ac)(e:Af)(h:Bj):Prop where
 |new (g:Bj) (args:Aa Ac):Uy g h e c args->g.FunFrames X.base X.stack->(∀ b o,h.get? b=Ab o->Old X pins H b->g.get? b=Ab o)->FlyX X pins H c e h
 |fly (B:Bj) (a0:Ac):Ou B X.stack e c a0 h->Cv X pins H B h->FlyX X pins H c e h
inductive XOk (X:Cx)(P:Hp)(α : Aa Af)(c:Ac)(x:D)(S:Sto)(u:Ac)(s:Ah):Prop
 |mk (e:Af) (pins:Aa (Af × Ci)) (σ : _L.St) (H:Hp) (P':Hp) (α' : Aa Af) (e1:u=.ref e) (I:Inv X pins σ H s) (r:Rel X.K H P' α' S) (q1:qF P P') (q2:α<+:α') (q3:X.ex=[]/\X.stack=X.env::X.outer/\X.env.frame=Ab X.env.locals) (q4:FlyX X pins H c e s.heap):XOk X P α c x S u s
theorem XOk.base {X:Cx}{P P1:Hp}{α α1:Aa Af}{c:Ac}{x:D}{s:Ah}(e:qF P P1)(h:α<+:α1)(k:XOk X P1 α1 c x S u s):XOk X P α c x S u s:=by
 obtain⟨a,pins,σ,H,P',α',e1,I,r,q1,q2,q3,q4⟩:=k;exact⟨a,pins,σ,H,P',α',e1,I,r,e.trans q1,h.trans q2,q3,q4⟩
section
variable (X:Cx)
def qK {β:Type}(P:Hp)(α : Aa Af)(r:Res β)(Ok:β->Sto->Prop):Prop:=
 match r with
 |.ok d S'=>Ok d S'
 |.ex c x S'=>∀ u s',XOk X P α c x S' u s'->X.xe u s'
 |.bad=>Fh
def OkV (P:Hp)(α : Aa Af)(Q:VK)(d:D)(S':Sto):Prop:=∀ v H' P' α',Rel X.K H' P' α' S'->qF P P'->α<+:α'->Rep X.K P' α' d v->Q v H'
def OkT (P:Hp)(α : Aa Af)(Q:Ar->Hp->Prop)(b:Ar)(S':Sto):Prop:=∀ H' P' α',Rel X.K H' P' α' S'->qF P P'->α<+:α'->Q b H'
def OkA (P:Hp)(α : Aa Af)(Q:Aa V->Hp->Prop)(ds:Aa D)(S':Sto):Prop:=∀ vs H' P' α',Rel X.K H' P' α' S'->qF P P'->α<+:α'->qD X.K P' α' ds vs->Q vs H'
abbrev qR (P:Hp)(α : Aa Af)(r:Res D)(Q:VK):Prop:=qK X P α r (OkV X P α Q)
abbrev wV (P:Hp)(α : Aa Af)(r:Res Ar)(Q:Ar->Hp->Prop):Prop:=qK X P α r (OkT X P α Q)
abbrev gW (P:Hp)(α : Aa Af)(r:Res (Aa D))(Q:Aa V->Hp->Prop):Prop:=qK X P α r (OkA X P α Q)
def qX (P:Hp)(α : Aa Af)(r:Out)(D:Ends):Prop:=
 match r with
 |.nx env' S'=>∀ σ' H' P' α',Rel X.K H' P' α' S'->qZ X.K P' α' σ' env'->qF P P'->α<+:α'->D.nx σ' H'
 |.bk env' S'=>∀ σ' H' P' α',Rel X.K H' P' α' S'->qZ X.K P' α' σ' env'->qF P P'->α<+:α'->D.bk σ' H'
 |.ct env' S'=>∀ σ' H' P' α',Rel X.K H' P' α' S'->qZ X.K P' α' σ' env'->qF P P'->α<+:α'->D.ct σ' H'
 |.rt d S'=>∀ v H' P' α',Rel X.K H' P' α' S'->qF P P'->α<+:α'->Rep X.K P' α' d v->D.rt v H'
 |.ex c x _ S'=>∀ u s',XOk X P α c x S' u s'->X.xe u s'
 |.bad=>Fh
inductive tD (f:DE)(σ : _L.St)(H:Hp)(Q:VK):Prop
 |mk (P:Hp) (α : Aa Af) (env:qE) (S:Sto) (r:Rel X.K H P α S) (re:qZ X.K P α σ env) (af:qR X P α (f env S) Q):tD f σ H Q
inductive tDT (f:DT)(σ : _L.St)(H:Hp)(Q:Ar->Hp->Prop):Prop
 |mk (P:Hp) (α : Aa Af) (env:qE) (S:Sto) (r:Rel X.K H P α S) (re:qZ X.K P α σ env) (af:wV X P α (f env S) Q):tDT f σ H Q
inductive tDA (f:DA)(σ : _L.St)(H:Hp)(Q:Aa V->Hp->Prop):Prop
 |mk (P:Hp) (α : Aa Af) (env:qE) (S:Sto) (r:Rel X.K H P α S) (re:qZ X.K P α σ env) (af:gW X P α (f env S) Q):tDA f σ H Q
inductive tDS (f:DS)(D:Ends)(σ : _L.St)(H:Hp):Prop
 |mk (P:Hp) (α : Aa Af) (env:qE) (S:Sto) (r:Rel X.K H P α S) (re:qZ X.K P α σ env) (af:qX X P α (f env S) D):tDS f D σ H
end
section
variable {X:Cx}{P P1:Hp}{α α1:Aa Af}
theorem qR.base {r:Res D}(e:qF P P1)(h:α<+:α1)(k:qR X P α r Q):qR X P1 α1 r Q:=by
 cases r with
 |ok d S=>exact λv H' P' α' r q1 q2 q3=>k v H' P' α' r (e.trans q1) (h.trans q2) q3
 |ex c x S=>exact λu s' q=>k u s' (q.base e h)
 |bad=>exact k
theorem wV.base {r:Res Ar}{Q:Ar->Hp->Prop}(e:qF P P1)(h:α<+:α1)(k:wV X P α r Q):wV X P1 α1 r Q:=by
 cases r with
 |ok d S=>exact λH' P' α' r q1 q2=>k H' P' α' r (e.trans q1) (h.trans q2)
 |ex c x S=>exact λu s' q=>k u s' (q.base e h)
 |bad=>exact k
theorem gW.base {r:Res (Aa D)}{Q:Aa V->Hp->Prop}(e:qF P P1)(h:α<+:α1)(k:gW X P α r Q):gW X P1 α1 r Q:=by
 cases r with
 |ok d S=>exact λv H' P' α' r q1 q2 q3=>k v H' P' α' r (e.trans q1) (h.trans q2) q3
 |ex c x S=>exact λu s' q=>k u s' (q.base e h)
 |bad=>exact k
theorem qX.base {r:Out}{D:Ends}(e:qF P P1)(h:α<+:α1)(k:qX X P α r D):qX X P1 α1 r D:=by
 cases r with
 |nx env S=>exact λv H' P' α' r q0 q1 q2=>k v H' P' α' r q0 (e.trans q1) (h.trans q2)
 |bk env S=>exact λv H' P' α' r q0 q1 q2=>k v H' P' α' r q0 (e.trans q1) (h.trans q2)
 |ct env S=>exact λv H' P' α' r q0 q1 q2=>k v H' P' α' r q0 (e.trans q1) (h.trans q2)
 |rt d S=>exact λv H' P' α' r q1 q2 q3=>k v H' P' α' r (e.trans q1) (h.trans q2) q3
 |ex c x env S=>exact λu s' q=>k u s' (q.base e h)
 |bad=>exact k
theorem xr {v:V}{H:Hp}{d:D}(k:OkV X P α Q d S)(r:Rel X.K H P α S)(q:Rep X.K P α d v):Q v H:=k v H P α r (qF.refl _) (Bh _) q
end
section
variable {X:Cx}{a b e:Br}{pos:Ex}
theorem peW {t t':TE}(h:PE X e t)(w:∀ σ H Q,t' σ H Q->t σ H Q):PE X e t':=λpins s σ H Q I q=>h pins s σ H Q I (w σ H Q q)
theorem psW {st:Fa}{t t':TS}(h:PS X st t)(w:∀ D σ H,t' D σ H->t D σ H):PS X st t':=λpins s σ H D I q=>h pins s σ H D I (w D σ H q)
theorem R5 {st:Aa Fa}{t t':TS}(h:PSs X st t)(w:∀ D σ H,t' D σ H->t D σ H):PSs X st t':=λpins s σ H D I q=>h pins s σ H D I (w D σ H q)
theorem paW {es:Aa Br}{t t':TA}(h:PA X es t)(w:∀ σ H Q,t' σ H Q->t σ H Q):PA X es t':=λpos pins s σ H Q I q=>h pos pins s σ H Q I (w σ H Q q)
structure Got (X:Cx)(pins:Aa (Af × Ci))(σ : _L.St)(env:qE)(P:Hp)(α : Aa Af)(u:Ac)(s1:Ah)(v:V)(H1 P1:Hp)(α1:Aa Af)(d:D)(S1:Sto):Prop where
 inv:Inv X pins σ H1 s1
 val:qI v u
 rel:Rel X.K H1 P1 α1 S1
 env:qZ X.K P1 α1 σ env
 rep:Rep X.K P1 α1 d v
 same:qF P P1
 pre:α<+:α1
inductive GotG (X:Cx)(pins:Aa (Af × Ci))(σ : _L.St)(env:qE)(P:Hp)(α : Aa Af)(u:Ac)(s1:Ah){γ : Type}(g:D->Sto->Res γ)(Ok:γ->Sto->Prop):Prop
 |mk (v:V) (H1 P1:Hp) (α1:Aa Af) (d:D) (S1:Sto) (G:Got X pins σ env P α u s1 v H1 P1 α1 d S1) (q:qK X P α (g d S1) Ok):GotG X pins σ env P α u s1 g Ok
inductive GotAG (X:Cx)(pins:Aa (Af × Ci))(σ : _L.St)(env:qE)(P:Hp)(α : Aa Af)(us:Aa Ac)(s1:Ah){γ : Type}(g:Aa D->Sto->Res γ)(Ok:γ->Sto->Prop):Prop
 |mk (vs:Aa V) (H1 P1:Hp) (α1:Aa Af) (ds:Aa D) (S1:Sto) (I:Inv X pins σ H1 s1) (rv:qH vs us) (r:Rel X.K H1 P1 α1 S1) (re:qZ X.K P1 α1 σ env) (rp:qD X.K P1 α1 ds vs) (e1:qF P P1) (e2:α<+:α1) (q:qK X P α (g ds S1) Ok):GotAG X pins σ env P α us s1 g Ok
inductive GotT (X:Cx)(pins:Aa (Af × Ci))(σ : _L.St)(env:qE)(P:Hp)(α : Aa Af)(b:Ar)(s1:Ah){γ : Type}(g:Ar->Sto->Res γ)(Ok:γ->Sto->Prop):Prop
 |mk (H1 P1:Hp) (α1:Aa Af) (S1:Sto) (I:Inv X pins σ H1 s1) (r:Rel X.K H1 P1 α1 S1) (re:qZ X.K P1 α1 σ env) (e1:qF P P1) (e2:α<+:α1) (q:qK X P α (g b S1) Ok):GotT X pins σ env P α b s1 g Ok
theorem zK {γ:Type}{f:DE}{g:D->Sto->Res γ}{Ok:γ->Sto->Prop}{pins:Aa (Af × Ci)}{s:Ah}{σ:_L.St}{H P:Hp}{α:Aa Af}{env:qE}(he:PE X e (tD X f))(I:Inv X pins σ H s)(r:Rel X.K H P α S)
  (re:qZ X.K P α σ env) (af:qK X P α ((f env S).bind g) Ok) :
  Ap (As X.prog X.w) X.A (eval e X.env) (λu s1=>GotG X pins σ env P α u s1 g Ok) X.xe s:=by
 refine thn (he pins s σ H (λv H1=>∃ P1 α1 d S1,Rel X.K H1 P1 α1 S1/\qZ X.K P1 α1 σ env/\Rep X.K P1 α1 d v/\qF P P1/\α<+:α1/\qK X P α (g d S1) Ok) I ⟨P,α,env,S,r,re,?_⟩) λu s1 ⟨v,H1,I1,rv,P1,α1,d,S1,q1,q2,q3,q4,q5,q6⟩=>⟨v,H1,P1,α1,d,S1,⟨I1,rv,q1,q2,q3,q4,q5⟩,q6⟩;cases q:f env S with
 |bad=>rw[q] at af;exact af
 |ex c x S'=>rw[q] at af;exact af
 |ok d S' =>
  rw[q] at af;exact λv H' P' α' r' e1 e2 rp=>⟨P',α',d,S',r',re.mono e1 e2,rp,e1,e2,af⟩
theorem wK {γ:Type}{es:Aa Br}{f:DA}{g:Aa D->Sto->Res γ}{Ok:γ->Sto->Prop}{pins:Aa (Af × Ci)}{s:Ah}{σ:_L.St}{H P:Hp}{α:Aa Af}{env:qE}(he:PA X es (tDA X f))(I:Inv X pins σ H s)(r:Rel X.K H P α S)
  (re:qZ X.K P α σ env) (af:qK X P α ((f env S).bind g) Ok) (pos:Ex) :
  Ap (As X.prog X.w) X.A (spliced (Ge pos (Bl es X.env))) (λus s1=>GotAG X pins σ env P α us s1 g Ok) X.xe s:=by
 refine thn (he pos pins s σ H (λvs H1=>∃ P1 α1 ds S1,Rel X.K H1 P1 α1 S1/\qZ X.K P1 α1 σ env/\qD X.K P1 α1 ds vs/\qF P P1/\α<+:α1/\qK X P α (g ds S1) Ok) I ⟨P,α,env,S,r,re,?_⟩) λu s1 ⟨v,H1,I1,rv,P1,α1,d,S1,q1,q2,q3,q4,q5,q6⟩=>⟨v,H1,P1,α1,d,S1,I1,rv,q1,q2,q3,q4,q5,q6⟩;cases q:f env S with
 |bad=>rw[q] at af;exact af
 |ex c x S'=>rw[q] at af;exact af
 |ok d S' =>
  rw[q] at af;exact λv H' P' α' r' e1 e2 rp=>⟨P',α',d,S',r',re.mono e1 e2,rp,e1,e2,af⟩
theorem p8 {γ:Type}{f:DT}{g:Ar->Sto->Res γ}{Ok:γ->Sto->Prop}{pins:Aa (Af × Ci)}{s:Ah}{σ:_L.St}{H P:Hp}{α:Aa Af}{env:qE}{m:Oa Ar}
  (he:∀ (Q:Ar->Hp->Prop),tDT X f σ H Q->Ap (As X.prog X.w) X.A m (TP X pins σ Q) X.xe s) (r:Rel X.K H P α S) (re:qZ X.K P α σ env) (af:qK X P α ((f env S).bind g) Ok) :
  Ap (As X.prog X.w) X.A m (λb s1=>GotT X pins σ env P α b s1 g Ok) X.xe s:=by
 refine thn (he (λb H1=>∃ P1 α1 S1,Rel X.K H1 P1 α1 S1/\qZ X.K P1 α1 σ env/\qF P P1/\α<+:α1/\qK X P α (g b S1) Ok) ⟨P,α,env,S,r,re,?_⟩) λb s1 ⟨H1,I1,P1,α1,S1,q1,q2,q4,q5,q6⟩=>⟨H1,P1,α1,S1,I1,q1,q2,q4,q5,q6⟩;cases q:f env S with
 |bad=>rw[q] at af;exact af
 |ex c x S'=>rw[q] at af;exact af
 |ok d S' =>
  rw[q] at af;exact λH' P' α' r' e1 e2=>⟨P',α',S',r',re.mono e1 e2,e1,e2,af⟩
def dC (d:D):DE:=λ_ S=>.ok d S
def qC (i:Ai):DE:=λenv S=>match env[i]? with
 |some (Ab d)=>.ok d S
 |_=>.bad
theorem N0:PE X (.Constant (.int i) j pos) (tD X (dC (.int i))):=peW SS λσ H Q ⟨P,α,env,S,r,re,af⟩=>xr af r (by simp only[Rep])
theorem H0:PE X (.Constant (.bool i) j pos) (tD X (dC (.bl i))):=peW A3 λσ H Q ⟨P,α,env,S,r,re,af⟩=>xr af r (by simp only[Rep])
theorem N6:PE X (.Constant (.str i) j pos) (tD X (dC (.str i))):=peW SW λσ H Q ⟨P,α,env,S,r,re,af⟩=>xr af r (by simp only[Rep])
theorem N3:PE X (.Constant .none j pos) (tD X (dC .non)):=peW SU λσ H Q ⟨P,α,env,S,r,re,af⟩=>xr af r (by simp only[Rep])
set_option tactic.hygienic true in
theorem M7 {i:Ai}{σ:_L.St}{H:Hp}(h:tD X (qC i) σ H Q):E4 i σ H Q:=by
 obtain⟨P,α,env,S,r,re,af⟩:=h;unfold qC at af
 split at af
 .rename_i d q
  obtain⟨v,h1,h2⟩:=re.2 i d q;exact⟨v,h1,xr af r h2⟩
 .exact Ao af
theorem dv (i:Ai){x:Av}(hN:X.N[i]? = Ab x:=by rfl)(hv:Vis X.env.scope x:=by first|exact Aa3 rfl|exact Ze (Aa3 rfl)|exact Ze (Ze rfl))(hd:(x == ("__debug__" : Av))=false:=by decide)
  (hcd:(x == ("__classdict__" : Av))=false:=by decide):PE X (.Name x pos) (tD X (qC i)):=peW (XT hN hv hd hcd) λσ H Q h=>M7 h
theorem cS {x:Av}{d:D}{v:V}(hg:Gl X x)(hm:X.mg x=Ab u)(r:qI v u)(q:∀ P α,Rep X.K P α d v)(hd:(x == ("__debug__" : Av))=false:=by decide):PE X (.Name x pos) (tD X (dC d)):=
 peW (F5 hg hm r hd) λσ H Q ⟨P,α,env,S,r,re,af⟩=>xr af r (q _ _)
theorem GW {x:Av}{n:Ef}(hg:Gl X x)(hm:X.mg x=none)(hv:Gb x=Ab (.type n))(hn:x ≠ "__name__":=by decide)(hd:(x == ("__debug__" : Av))=false:=by decide):PE X (.Name x pos) (tD X (dC (.ty n))):=
 peW (F4 (v:=.ty n) hg hm hv rfl hn hd) λσ H Q ⟨P,α,env,S,r,re,af⟩=>xr af r (by simp only[Rep])
abbrev G2:=D->D->Sto->Res D
def OpD (X:Cx)(f:Ac->Ac->Oa Ac)(g:G2):Prop:=
 ∀ (pins:Aa (Af × Ci)) (σ : _L.St) (H:Hp) (s:Ah) (P:Hp) (α : Aa Af) (S:Sto) (v u:V) (vv uu:Ac) (a b:D) (Q:VK),Inv X pins σ H s->Rel X.K H P α S->qI v vv->qI u uu->Rep X.K P α a v->Rep X.K P α b u->qR X P α (g a b S) Q ->
  Ap (As X.prog X.w) X.A (f vv uu) (EP X pins σ Q) X.xe s
theorem OpD.of {f:Ac->Ac->Oa Ac}{r:R2}{g:G2}(h:OpR X f r)(w:∀ H P α S v u a b Q,Rel X.K H P α S->Rep X.K P α a v->Rep X.K P α b u->qR X P α (g a b S) Q->r v u H Q):OpD X f g:=
 λpins σ H s P α S v u vv uu a b Q I rl r1 r2 p1 p2 af=>h pins s σ H v u vv uu Q I r1 r2 (w H P α S v u a b Q rl p1 p2 af)
def UnD (X:Cx)(f:Ac->Oa Ac)(g:D->Sto->Res D):Prop:=
 ∀ (pins:Aa (Af × Ci)) (σ : _L.St) (H:Hp) (s:Ah) (P:Hp) (α : Aa Af) (S:Sto) (v:V) (vv:Ac) (a:D) (Q:VK),Inv X pins σ H s->Rel X.K H P α S->qI v vv->Rep X.K P α a v->qR X P α (g a S) Q ->
  Ap (As X.prog X.w) X.A (f vv) (EP X pins σ Q) X.xe s
def IxD (X:Cx)(g:G2):Prop:=
 ∀ (value slice:Br) (pins:Aa (Af × Ci)) (σ : _L.St) (H:Hp) (s:Ah) (P:Hp) (α : Aa Af) (S:Sto) (v u:V) (vv uu:Ac) (a b:D) (Q:VK),Inv X pins σ H s->Rel X.K H P α S->qI v vv->qI u uu->Rep X.K P α a v->Rep X.K P α b u->qR X P α (g a b S) Q ->
  subscripted slice false vv uu=operate [vv,uu] (Ko vv uu)->Ap (As X.prog X.w) X.A (Qp value slice vv uu) (EP X pins σ Q) X.xe s
def w8 (X:Cx)(f:Ac)(g:Aa D->Sto->Res D):Prop:=
 ∀ (pins:Aa (Af × Ci)) (σ : _L.St) (H:Hp) (s:Ah) (P:Hp) (α : Aa Af) (S:Sto) (vs:Aa V) (us:Aa Ac) (ds:Aa D) (Q:VK),Inv X pins σ H s->Rel X.K H P α S->qH vs us->qD X.K P α ds vs->qR X P α (g ds S) Q ->
  Ap (As X.prog X.w) X.A (call f us) (EP X pins σ Q) X.xe s
def d2 (g:G2)(fa fb:DE):DE:=λenv S=>(fa env S).bind λx S1=>(fb env S1).bind λy S2=>g x y S2
def d1 (g:D->Sto->Res D)(fa:DE):DE:=λenv S=>(fa env S).bind g
variable {fa fb:DE}
theorem r9 {g:G2}{f:Ac->Ac->Oa Ac}{pins:Aa (Af × Ci)}{s:Ah}{σ:_L.St}{H:Hp}(ho:OpD X f g)(ha:PE X a (tD X fa))(hb:PE X b (tD X fb))(I:Inv X pins σ H s)(h:tD X (d2 g fa fb) σ H Q) :
  Ap (As X.prog X.w) X.A (eval a X.env) (λv s₁=>Ap (As X.prog X.w) X.A (eval b X.env) (λu s₂=>Ap (As X.prog X.w) X.A (f v u) (EP X pins σ Q) X.xe s₂) X.xe s₁) X.xe s:=by
 obtain⟨P,α,env,S,r,re,af⟩:=h;refine thn (zK ha I r re af) λvv s1 ⟨v,H1,P1,α1,d,S1,G1,af1⟩=>?_;refine thn (zK hb G1.inv G1.rel G1.env (P:=P1) (α:=α1) (Ok:=OkV X P1 α1 Q) (g:=λy S2=>g d y S2) ?_) λuu s2 ⟨u,H2,P2,α2,d',S2,G2,af2⟩=>?_
 .exact qR.base G1.same G1.pre af1
 .exact ho pins σ H2 s2 P2 α2 S2 v u vv uu d d' Q G2.inv G2.rel G1.val G2.val (Rep.mono G2.same G2.pre _ _ G1.rep) G2.rep (qR.base G2.same G2.pre af2)
theorem HA {op:Operator}{g:G2}(ho:OpD X (Ek op) g)(ha:PE X a (tD X fa))(hb:PE X b (tD X fb)):PE X (.BinOp a op b pos) (tD X (d2 g fa fb)):=
 λpins s σ H Q I h=>wpAny_BinOp (r9 ho ha hb I h)
theorem TY {op:Uf}{g:G2}(ho:OpD X (Cu op) g)(ha:PE X a (tD X fa))(hb:PE X b (tD X fb))(hm:Lf op b=false:=by first|exact k8 _|with_unfolding_all rfl):PE X (.Compare a [op] [b] pos) (tD X (d2 g fa fb)):=
 λpins s σ H Q I h=>wpAny_Compare1 (r9 ho ha hb I h) hm
theorem HB {op:UnaryOp}{g:D->Sto->Res D}(ho:UnD X (Yv op) g)(ha:PE X a (tD X fa)):PE X (.UnaryOp op a pos) (tD X (d1 g fa)):=by
 intro pins s σ H Q I h;obtain⟨P,α,env,S,r,re,af⟩:=h;exact UnaryOp_ (thn (zK ha I r re af) λvv s1 ⟨v,H1,P1,α1,d,S1,G1,af1⟩=>ho pins σ H1 s1 P1 α1 S1 v vv d Q G1.inv G1.rel G1.val G1.rep (qR.base G1.same G1.pre af1))
theorem H9 {g:G2}(ho:IxD X g)(ha:PE X a (tD X fa))(hb:PE X b (tD X fb))(hs:tI b:=by intro _ _;rfl):PE X (.Subscript a b pos) (tD X (d2 g fa fb)):=by
 intro pins s σ H Q I h;obtain⟨P,α,env,S,r,re,af⟩:=h;have IxR':IxR X (λx y H Q=>∃ P α S a b,Rel X.K H P α S/\Rep X.K P α a x/\Rep X.K P α b y/\qR X P α (g a b S) Q):=λvalue slice pins s σ H x y v u Q I rx ry ⟨P,α,S,a,b,r,p1,p2,af⟩ hsl =>
  ho value slice pins σ H s P α S x y v u a b Q I r rx ry p1 p2 af hsl
 refine peW (A4 IxR' ha hb hs) (t':=tD X (d2 g fa fb)) (λσ H Q h=>?_) pins s σ H Q I ⟨P,α,env,S,r,re,af⟩;obtain⟨P,α,env,S,r,re,af⟩:=h;refine⟨P,α,env,S,r,re,?_⟩;unfold d2 at af;cases q:fa env S with
 |bad=>rw[q] at af;exact af
 |ex c x S'=>rw[q] at af;exact af
 |ok d S1 =>
  rw[q] at af;intro v H1 P1 α1 r1 e1 e2 rp;refine⟨P1,α1,env,S1,r1,re.mono e1 e2,?_⟩;have af':qR X P α ((fb env S1).bind λy S2=>g d y S2) Q:=af;cases q2:fb env S1 with
  |bad=>rw[q2] at af';exact af'
  |ex c x S'=>rw[q2] at af';exact λu s' z=>af' u s' (z.base e1 e2)
  |ok d' S2 =>
   rw[q2] at af';intro u H2 P2 α2 r2 e3 e4 rp2;exact⟨P2,α2,S2,d,d',r2,Rep.mono e3 e4 _ _ rp,rp2,qR.base (e1.trans e3) (e2.trans e4) af'⟩
def qB:DA:=λ_ S=>.ok [] S
def qA (f:DE)(g:DA):DA:=λenv S=>(f env S).bind λx S1=>(g env S1).bind λxs S2=>.ok (x::xs) S2
theorem TN:PA X [] (tDA X qB):=paW SR λσ H Q ⟨P,α,env,S,r,re,af⟩=>af [] H P α r (qF.refl _) (Bh _) .nil
theorem GV {es:Aa Br}{g:DA}(ha:PE X e (tD X fa))(hr:PA X es (tDA X g))(hs:Bl (e::es) X.env=(false,eval e X.env)::Bl es X.env:=by rfl):PA X (e::es) (tDA X (qA fa g)):=by
 intro pos pins s σ H Q I h;obtain⟨P,α,env,S,r,re,af⟩:=h;rw[hs];show Ap _ _ (spliced ((false,eval e X.env)::Ge pos (Bl es X.env))) _ _ s;refine Jt (thn (zK ha I r re af) λu s1 ⟨x,H1,P1,α1,d,S1,G1,af1⟩=>?_);refine thn (wK hr G1.inv G1.rel G1.env (P:=P1) (α:=α1) (Ok:=OkA X P1 α1 Q) (gW.base G1.same G1.pre af1) pos) λus s2 ⟨xs,H2,P2,α2,ds,S2,I2,rv,r2,re2,rp2,e1,e2,af2⟩=>?_;exact⟨x::xs,H2,I2,.cons G1.val rv,af2 _ _ _ _ r2 e1 e2 (.cons (Rep.mono e1 e2 _ _ G1.rep) rp2)⟩
def lim:Ai:=16777216
theorem zM:lim=sizeLine:=Ev.symm
def qU (f:DA):DE:=λenv S=>(f env S).bind λxs S1=>if xs.length<=lim then .ok (.tup xs) S1 else .bad
def xD (f:DA):DE:=λenv S=>(f env S).bind λxs S1=>if xs.length<=lim then .ok (.lst xs) S1 else .bad
def kN (f:DA):DE:=λenv S=>(f env S).bind λxs S1=>if xs.length<=lim then .ok (.loc S1.length) (S1++[.lst xs]) else .bad
theorem nV {K:Aj}{P:Hp}{α:Aa Af}{a:Af}{ds:Aa D}(h:SqT K P a vs)(r:qD K P α ds vs):Rep K P α (.tup ds) (.ref a):=by simp only[Rep];exact⟨a,vs,rfl,h,r⟩
theorem nU {K:Aj}{P:Hp}{α:Aa Af}{a:Af}{ds:Aa D}(h:SqX K P a vs)(r:qD K P α ds vs):Rep K P α (.lst ds) (.ref a):=by simp only[Rep];exact⟨a,vs,rfl,h,r⟩
theorem gD {H P:Hp}{α:Aa Af}{ds:Aa D}(r:Rel X.K H P α S)(hp:H p=none)(rp:qD X.K P α ds vs)(af:OkV X P α Q (.tup ds) S):Q (.ref p) (upd H p (.tup vs)):=by
 obtain⟨r1,e1⟩:=r.pure (o:=.tup vs) hp;exact af _ _ _ α r1 e1 (Bh _) (nV (.of qQ) (qD.mono e1 (Bh _) _ _ rp))
theorem wG {H P:Hp}{α:Aa Af}{ds:Aa D}(r:Rel X.K H P α S)(hp:H p=none)(rp:qD X.K P α ds vs)(af:OkV X P α Q (.lst ds) S):Q (.ref p) (upd H p (.lst vs)):=by
 obtain⟨r1,e1⟩:=r.pure (o:=.lst vs) hp;exact af _ _ _ α r1 e1 (Bh _) (nU (.inl (.inl qQ)) (qD.mono e1 (Bh _) _ _ rp))
theorem jY {H P:Hp}{α:Aa Af}{ds:Aa D}(r:Rel X.K H P α S)(hp:H p=none)(rp:qD X.K P α ds vs)(af:OkV X P α Q (.loc S.length) (S++[.lst ds])):Q (.ref p) (upd H p (.lst vs)):=by
 have hpre:α<+:α++[p]:=Fq _ _;have r1:=r.new (o:=.lst vs) (m:=.lst ds) hp ⟨vs,qQ,qD.mono (qF.refl _) hpre _ _ rp⟩;refine af _ _ _ _ r1 (qF.refl _) hpre ?_;simp only[Rep];exact⟨p,rfl,by rw[<- r.len];simp⟩
theorem tP {f:DA}{σ:_L.St}{H:Hp}{G:Aa D->Sto->Res D}{mk:Aa V->HO}(h:tD X (λenv S=>(f env S).bind λxs S1=>if xs.length<=lim then G xs S1 else .bad) σ H Q)
  (k:∀ H1 P1 α1 S1 ds vs p,Rel X.K H1 P1 α1 S1->H1 p=none->qD X.K P1 α1 ds vs->qR X P1 α1 (G ds S1) Q->Q (.ref p) (upd H1 p (mk vs))) :
  tDA X f σ H λvs H1=>vs.length<=sizeLine/\∀ p,H1 p=none->Q (.ref p) (upd H1 p (mk vs)):=by
 obtain⟨P,α,env,S,r,re,af⟩:=h;refine⟨P,α,env,S,r,re,?_⟩;have af':qR X P α ((f env S).bind λxs S1=>if xs.length<=lim then G xs S1 else .bad) Q:=af
 cases q:f env S with
 |bad=>rw[q] at af';exact af'
 |ex c x S'=>rw[q] at af';exact af'
 |ok ds S1 =>
  rw[q] at af';intro vs H1 P1 α1 r1 e1 e2 rp;have af2:qR X P α (if ds.length<=lim then G ds S1 else .bad) Q:=af'
  by_cases hl:ds.length<=lim
  .rw[Bb hl] at af2
   exact⟨by rw[<- rp.length,<- zM];exact hl,λp hp=>k H1 P1 α1 S1 ds vs p r1 hp rp (qR.base e1 e2 af2)⟩
  .rw[Bc hl] at af2;exact Ao af2
theorem N7 {es:Aa Br}{f:DA} {x1} (h:PA X es (tDA X f)):PE X (.Tuple es x1 pos) (tD X (qU f)):=
 peW (SX h) λσ H Q q=>tP (G:=λxs S1=>.ok (.tup xs) S1) (mk:=.tup) q λH1 P1 α1 S1 ds vs p r hp rp af=>gD r hp rp af
theorem N2 {es:Aa Br}{f:DA}(h:PA X es (tDA X f)):PE X (.List es pos) (tD X (xD f)):=
 peW (XS h) λσ H Q q=>tP (G:=λxs S1=>.ok (.lst xs) S1) (mk:=.lst) q λH1 P1 α1 S1 ds vs p r hp rp af=>wG r hp rp af
theorem P7 {es:Aa Br}{f:DA}(h:PA X es (tDA X f)):PE X (.List es pos) (tD X (kN f)):=
 peW (XS h) λσ H Q q=>tP (G:=λxs S1=>.ok (.loc S1.length) (S1++[MO.lst xs])) (mk:=.lst) q λH1 P1 α1 S1 ds vs p r hp rp af=>jY r hp rp af
end
section
variable {X:Cx}{a b c e:Br}{pos:Ex}{fa fb fc:DE}{ta tb:DT}
def xO:D->Sto->Al Ar
 |.non,_=>Ab false
 |.bl b,_=>Ab b
 |.int i,_=>Ab (i != 0)
 |.str x,_=>if x.length<=lim then Ab ((x.length:Am) != 0) else none
 |.tup xs,_=>Ab (!xs.isEmpty)
 |.lst xs,_=>Ab (!xs.isEmpty)
 |.dct0,_=>Ab false
 |.loc i,S=>match S[i]? with
  |some (.lst xs)=>Ab (!xs.isEmpty)
  |some (.dct kvs)=>Ab (!kvs.isEmpty)
  |_=>none
 |_,_=>none
theorem qD.isEmpty {K:Aj}{P:Hp}{α:Aa Af}{ds:Aa D}(r:qD K P α ds vs):(!ds.isEmpty)=!vs.isEmpty:=by
 cases ds with
 |nil=>rw[r.nil_inv];rfl
 |cons d ds=>obtain⟨w,ws,rfl,_,_⟩:=r.cons_inv;rfl
theorem xH {K:Aj}{H P:Hp}(e:qF P H){a:Af}{xs:Aa V}(h:SqT K P a xs):SqT K H a xs:=yQ e h
theorem uD {H P:Hp}{α:Aa Af}{v:V}{d:D}{k:Ar}(r:Rel X.K H P α S)(p:Rep X.K P α d v)(h:xO d S=Ab k):iY X.K v H k:=by
 cases d with
 |non=>simp only[Rep] at p;subst p;cases h;rfl
 |bl b=>simp only[Rep] at p;subst p;cases h;rfl
 |int i=>simp only[Rep] at p;subst p;cases h;rfl
 |str x =>
  simp only[Rep] at p;subst p;obtain⟨hl,rfl⟩:=kX h;exact⟨by rw[<- zM];exact hl,rfl⟩
 |tup xs =>
  simp only[Rep] at p;obtain⟨a,vs,rfl,q,t⟩:=p;cases h;exact .inr (.inl ⟨vs,xH r.sub q,t.isEmpty⟩)
 |lst xs =>
  simp only[Rep] at p;obtain⟨a,vs,rfl,q,t⟩:=p;cases h;exact .inl ⟨vs,(x9 r.sub q).l,t.isEmpty⟩
 |dct0 =>
  simp only[Rep] at p;obtain⟨a,rfl,q⟩:=p;cases h;exact .inr (.inr ⟨[],r.sub _ _ q,rfl⟩)
 |loc i =>
  simp only[Rep] at p;obtain⟨a,rfl,q⟩:=p;have h:(match S[i]? with|some (.lst xs)=>Ab (!xs.isEmpty)|some (.dct kvs)=>Ab (!kvs.isEmpty)|_=>none)=Ab k:=h
  cases hs:S[i]? with
  |none=>rw[hs] at h;exact nn h
  |some m =>
   rw[hs] at h;cases m with
   |lst xs =>
    cases h;obtain⟨vs,z,t⟩:=r.at' i a _ q hs;exact .inl ⟨vs,.of z,t.isEmpty⟩
   |dct kvs =>
    cases h;obtain⟨vs,z,t⟩:=r.at' i a _ q hs;refine .inr (.inr ⟨vs,z,?_⟩);cases t <;> rfl
   |_=>exact nn h
 |ty n=>exact nn h
 |obj a=>exact nn h
 |exn c=>exact nn h
 |fd ks ds=>exact nn h
 |clo a vs ds=>exact nn h
theorem G8 {pins:Aa (Af × Ci)}{s:Ah}{σ:_L.St}{H P:Hp}{α:Aa Af}{v:V}{d:D}{k:Ar}{Q:Ar->Hp->Prop}(I:Inv X pins σ H s)(r:Rel X.K H P α S)(rv:qI v vv)(p:Rep X.K P α d v)(h:xO d S=Ab k)(q:Q k H) :
  Ap (As X.prog X.w) X.A (truthy vv) (TP X pins σ Q) X.xe s:=pT pins s σ H v vv Q I rv ⟨k,uD r p h,q⟩
def jN (o:Al Ar)(S:Sto):Res Ar:=match o with
 |some b=>.ok b S
 |none=>.bad
def dTr (f:DE):DT:=λenv S=>(f env S).bind λd S1=>jN (xO d S1) S1
theorem nX {o:Al Ar}{P:Hp}{α:Aa Af}{Ok:Ar->Sto->Prop}(h:qK X P α (jN o S) Ok):∃ b,o=Ab b/\Ok b S:=by
 cases o with
 |none=>exact Ao h
 |some b=>exact⟨b,rfl,h⟩
theorem NQ (ha:PE X a (tD X fa))(he:∀ whole,isTrue a X.env whole=(do let v <- whole;Tq a.pos;holding [v] (truthy v)):=by intro _;rfl):PT X a (tDT X (dTr fa)):=by
 intro pins s σ H Q I h;obtain⟨P,α,env,S,r,re,af⟩:=h;refine isTrue_plain (thn (zK ha I r re af) λvv s1 ⟨v,H1,P1,α1,d,S1,G1,af1⟩=>?_) (he _);obtain⟨k,e1,q⟩:=nX af1;exact G8 G1.inv G1.rel G1.val G1.rep e1 (q H1 P1 α1 G1.rel G1.same G1.pre)
theorem NO {op:Uf}{g:G2}(ho:OpD X (Cu op) g)(ha:PE X a (tD X fa))(hb:PE X b (tD X fb))(hm:Lf op b=false:=by first|exact k8 _|with_unfolding_all rfl):PT X (.Compare a [op] [b] pos) (tDT X (dTr (d2 g fa fb))):=by
 intro pins s σ H Q I h;obtain⟨P,α,env,S,r,re,af⟩:=h;refine wpAny_isTrue_Compare1 ?_ hm;have key:tD X (d2 g fa fb) σ H (λv H1=>∃ k,iY X.K v H1 k/\Q k H1):=by
  refine⟨P,α,env,S,r,re,?_⟩;have af':qK X P α ((d2 g fa fb env S).bind λd S1=>jN (xO d S1) S1) (OkT X P α Q):=af;cases q:d2 g fa fb env S with
  |bad=>rw[q] at af';exact af'
  |ex c x S'=>rw[q] at af';exact af'
  |ok d S1 =>
   rw[q] at af';obtain⟨k,e1,qk⟩:=nX (X:=X) af';exact λv H1 P1 α1 r1 e3 e4 rp=>⟨k,uD r1 rp e1,qk H1 P1 α1 r1 e3 e4⟩
 exact thn (r9 ho ha hb I key) λv s1 h1=>thn h1 λu s2 h2=>thn h2 λx s3 ⟨y,H3,I3,r3,k,tk,qk⟩=>pT pins s3 σ H3 y x Q I3 r3 ⟨k,tk,qk⟩
def wW (g g':G2)(fa fb fc:DE):DE:=λenv S=>(fa env S).bind λx S1=>(fb env S1).bind λy S2=>(g x y S2).bind λz S3 =>
 match xO z S3 with
 |some true=>(fc env S3).bind λw S4=>g' y w S4
 |some false=>.ok z S3
 |none=>.bad
inductive GotO (X:Cx)(pins:Aa (Af × Ci))(σ : _L.St)(P:Hp)(α : Aa Af)(w:Ac)(s1:Ah){γ : Type}(k:D->Sto->Res γ)(Ok:γ->Sto->Prop):Prop
 |mk (y:V) (H1 P1:Hp) (α1:Aa Af) (d:D) (S1:Sto) (I:Inv X pins σ H1 s1) (rv:qI y w) (r:Rel X.K H1 P1 α1 S1) (rp:Rep X.K P1 α1 d y) (e1:qF P P1) (e2:α<+:α1) (q:qK X P α (k d S1) Ok):GotO X pins σ P α w s1 k Ok
theorem eG {γ:Type}{f:Ac->Ac->Oa Ac}{g:G2}{k:D->Sto->Res γ}{Ok:γ->Sto->Prop}{pins:Aa (Af × Ci)}{σ:_L.St}{H:Hp}{s:Ah}{P:Hp}{α:Aa Af}{v u:V}{uu:Ac}{a b:D}(ho:OpD X f g)(I:Inv X pins σ H s)(r:Rel X.K H P α S)
  (rv:qI v vv) (ru:qI u uu) (pa:Rep X.K P α a v) (pb:Rep X.K P α b u) (af:qK X P α ((g a b S).bind k) Ok) :
  Ap (As X.prog X.w) X.A (f vv uu) (λw s1=>GotO X pins σ P α w s1 k Ok) X.xe s:=by
 refine thn (ho pins σ H s P α S v u vv uu a b (λy H1=>∃ P1 α1 d S1,Rel X.K H1 P1 α1 S1/\Rep X.K P1 α1 d y/\qF P P1/\α<+:α1/\qK X P α (k d S1) Ok) I r rv ru pa pb ?_) λw s1 ⟨y,H1,I1,r1,P1,α1,d,S1,q1,q2,q3,q4,q5⟩=>⟨y,H1,P1,α1,d,S1,I1,r1,q1,q2,q3,q4,q5⟩;cases q:g a b S with
 |bad=>rw[q] at af;exact af
 |ex c x S'=>rw[q] at af;exact af
 |ok d S' =>
  rw[q] at af;exact λv H' P' α' r' e1 e2 rp=>⟨P',α',d,S',r',rp,e1,e2,af⟩
theorem qK.base' {β:Type}{P P1:Hp}{α α1:Aa Af}{r:Res β}{Ok Ok1:β->Sto->Prop}(e:qF P P1)(h:α<+:α1)(ho:∀ d S,Ok d S->Ok1 d S)(k:qK X P α r Ok):qK X P1 α1 r Ok1:=by
 cases r with
 |ok d S=>exact ho d S k
 |ex c x S=>exact λu s' q=>k u s' (q.base e h)
 |bad=>exact k
theorem YU {op op':Uf}{g g':G2}(ho:OpD X (Cu op) g)(ho':OpD X (Cu op') g')(ha:PE X a (tD X fa))(hb:PE X b (tD X fb))(hc:PE X c (tD X fc))
  (hm:Yf [op,op'] [b,c]=false:=by with_unfolding_all rfl):PE X (.Compare a [op,op'] [b,c] pos) (tD X (wW g g' fa fb fc)):=by
 intro pins s σ H Q I h;obtain⟨P,α,env,S,r,re,af⟩:=h;refine Compare_chain (thn (zK ha I r re af) λvv s1 ⟨v,H1,P1,α1,d,S1,G1,af1⟩=>chain_link (thn (zK hb G1.inv G1.rel G1.env (qR.base G1.same G1.pre af1)) λuu s2 ⟨u,H2,P2,α2,d',S2,G2,af2⟩ =>
  thn (eG ho G2.inv G2.rel G1.val G2.val (Rep.mono G2.same G2.pre _ _ G1.rep) G2.rep (qR.base G2.same G2.pre af2)) λw s3 ⟨y,H3,P3,α3,z,S3,I3,r3,rl3,rp3,e3,e4,af3⟩=>?_)) hm
 cases ht:xO z S3 with
 |none=>simp only[ht] at af3;exact Ao af3
 |some k =>
  simp only[ht] at af3;have tv:=uD rl3 rp3 ht;refine thn (pT pins s3 σ H3 y w (λk' H'=>k'=k/\H'=H3) I3 r3 ⟨k,tv,rfl,rfl⟩) λk' s4 ⟨H4,I4,hk,hH⟩=>?_;subst hk;subst hH;cases k' with
  |false=>exact ite_ff ⟨y,H4,I4,r3,af3 y H4 P3 α3 rl3 e3 e4 rp3⟩
  |true =>
   refine ite_tt (chain_last (thn (zK hc I4 rl3 (G2.env.mono e3 e4) (qR.base e3 e4 af3)) λww s5 ⟨w',H5,P5,α5,d5,S5,G5,af5⟩=>?_));exact ho' pins σ H5 s5 P5 α5 S5 u w' uu ww d' d5 Q G5.inv G5.rel G2.val G5.val (Rep.mono (e3.trans G5.same) (e4.trans G5.pre) _ _ G2.rep) G5.rep (qR.base G5.same G5.pre af5)
theorem V4 {op op':Uf}{g g':G2}(ho:OpD X (Cu op) g)(ho':OpD X (Cu op') g')(ha:PE X a (tD X fa))(hb:PE X b (tD X fb))(hc:PE X c (tD X fc))
  (hm:Yf [op,op'] [b,c]=false:=by with_unfolding_all rfl):PT X (.Compare a [op,op'] [b,c] pos) (tDT X (dTr (wW g g' fa fb fc))):=by
 intro pins s σ H Q I h;obtain⟨P,α,env,S,r,re,af⟩:=h;have af':qK X P α ((wW g g' fa fb fc env S).bind λd S1=>jN (xO d S1) S1) (OkT X P α Q):=af;have assoc:(wW g g' fa fb fc env S).bind (λd S1=>jN (xO d S1) S1)=(fa env S).bind λx S1=>(fb env S1).bind λy S2=>(g x y S2).bind λz S3 =>
   match xO z S3 with
   |some true=>((fc env S3).bind λw S4=>g' y w S4).bind λd S1=>jN (xO d S1) S1
   |some false=>.ok false S3
   |none=>.bad:=by
  unfold wW;cases fa env S with
  |bad=>rfl
  |ex _ _ _=>rfl
  |ok x S1 =>
   show Res.bind (Res.bind (fb env S1) _) _=Res.bind (fb env S1) _;cases fb env S1 with
   |bad=>rfl
   |ex _ _ _=>rfl
   |ok y S2 =>
    show Res.bind (Res.bind (g x y S2) _) _=Res.bind (g x y S2) _;cases g x y S2 with
    |bad=>rfl
    |ex _ _ _=>rfl
    |ok z S3 =>
     show Res.bind (match xO z S3 with|some true=>(fc env S3).bind λw S4=>g' y w S4|some false=>.ok z S3|none=>.bad) _=_
     cases ht:xO z S3 with
     |none=>simp only[ht,Res.bind]
     |some k=>cases k <;> simp only[ht,Res.bind,jN]
 rw[assoc] at af';refine isTrue_chain (thn (zK ha I r re af') λvv s1 ⟨v,H1,P1,α1,d,S1,G1,af1⟩=>test_link (thn (zK hb G1.inv G1.rel G1.env (wV.base G1.same G1.pre af1)) λuu s2 ⟨u,H2,P2,α2,d',S2,G2,af2⟩ =>
  thn (eG ho G2.inv G2.rel G1.val G2.val (Rep.mono G2.same G2.pre _ _ G1.rep) G2.rep (wV.base G2.same G2.pre af2)) λw s3 ⟨y,H3,P3,α3,z,S3,I3,r3,rl3,rp3,e3,e4,af3⟩=>?_)) hm
 cases ht:xO z S3 with
 |none=>simp only[ht] at af3;exact Ao af3
 |some k =>
  simp only[ht] at af3;have tv:=uD rl3 rp3 ht;refine thn (pT pins s3 σ H3 y w (λk' H'=>k'=k/\H'=H3) I3 r3 ⟨k,tv,rfl,rfl⟩) λk' s4 ⟨H4,I4,hk,hH⟩=>?_;subst hk;subst hH;cases k' with
  |false=>exact ite_ff ⟨H4,I4,af3 H4 P3 α3 rl3 e3 e4⟩
  |true =>
   have af4:qK X P2 α2 ((fc env S3).bind λw S4=>(g' d' w S4).bind λd S1=>jN (xO d S1) S1) (OkT X P2 α2 Q):=by
    have e:((fc env S3).bind λw S4=>(g' d' w S4).bind λd S1=>jN (xO d S1) S1)=(((fc env S3).bind λw S4=>g' d' w S4).bind λd S1=>jN (xO d S1) S1):=by
     cases fc env S3 <;> rfl
    rw[e];exact af3
   refine ite_tt (test_last (thn (zK hc I4 rl3 (G2.env.mono e3 e4) (wV.base e3 e4 af4)) λww s5 ⟨w',H5,P5,α5,d5,S5,G5,af5⟩ =>
    thn (eG ho' G5.inv G5.rel G2.val G5.val (Rep.mono (e3.trans G5.same) (e4.trans G5.pre) _ _ G2.rep) G5.rep (wV.base G5.same G5.pre af5)) λx6 s6 ⟨y6,H6,P6,α6,d6,S6,I6,r6,rl6,rp6,e5,e6,af6⟩=>?_))
   obtain⟨k6,q6,z6⟩:=nX af6;exact G8 I6 rl6 r6 rp6 q6 (z6 H6 P6 α6 rl6 e5 e6)
def v7 (t:DT):DT:=λenv S=>(t env S).bind λb S1=>.ok (!b) S1
def u7 (t u:DT):DT:=λenv S=>(t env S).bind λb S1=>if b then u env S1 else .ok false S1
def kO (t u:DT):DT:=λenv S=>(t env S).bind λb S1=>if b then .ok true S1 else u env S1
theorem NP (ha:PT X a (tDT X ta)):PT X (.UnaryOp .Not a pos) (tDT X (v7 ta)):=by
 intro pins s σ H Q I h;obtain⟨P,α,env,S,r,re,af⟩:=h;refine isTrue_not (thn (p8 (λQ' q=>ha pins s σ H Q' I q) r re af) λb s1 ⟨H1,P1,α1,S1,I1,r1,re1,e1,e2,af1⟩=>⟨H1,I1,af1 H1 P1 α1 r1 e1 e2⟩)
def PWD (X:Cx)(e:Br)(t:DT):Prop:=PW X e (tDT X t)
theorem PWD.pt {t:DT}(h:PWD X e t):PT X e (tDT X t):=h _
theorem PU (ha:PT X a (tDT X ta)):PWD X (.BoolOp .And [a] pos) ta:=FE ha
theorem NS (ha:PT X a (tDT X ta)):PWD X (.BoolOp .Or [a] pos) ta:=R7 ha
theorem NR {rest:Aa Br}(ha:PT X a (tDT X ta))(hb:PWD X (.BoolOp .And (b::rest) pos) tb):PWD X (.BoolOp .And (a::b::rest) pos) (u7 ta tb):=by
 intro wh pins s σ H Q I h;obtain⟨P,α,env,S,r,re,af⟩:=h;refine isTrue_and (thn (p8 (λQ' q=>ha pins s σ H Q' I q) r re af) λk s1 ⟨H1,P1,α1,S1,I1,r1,re1,e1,e2,af1⟩=>?_);cases k with
 |true=>exact hb wh pins s1 σ H1 Q I1 ⟨P1,α1,env,S1,r1,re1,wV.base e1 e2 af1⟩
 |false=>exact⟨H1,I1,af1 H1 P1 α1 r1 e1 e2⟩
theorem HG {rest:Aa Br}(ha:PT X a (tDT X ta))(hb:PWD X (.BoolOp .Or (b::rest) pos) tb):PWD X (.BoolOp .Or (a::b::rest) pos) (kO ta tb):=by
 intro wh pins s σ H Q I h;obtain⟨P,α,env,S,r,re,af⟩:=h;refine isTrue_or (thn (p8 (λQ' q=>ha pins s σ H Q' I q) r re af) λk s1 ⟨H1,P1,α1,S1,I1,r1,re1,e1,e2,af1⟩=>?_);cases k with
 |true=>exact⟨H1,I1,af1 H1 P1 α1 r1 e1 e2⟩
 |false=>exact hb wh pins s1 σ H1 Q I1 ⟨P1,α1,env,S1,r1,re1,wV.base e1 e2 af1⟩
def p5 (f g:DE):DE:=λenv S=>(f env S).bind λx S1=>match xO x S1 with
 |some true=>g env S1
 |some false=>.ok x S1
 |none=>.bad
def YR (f:DE):DE:=λenv S=>(f env S).bind λx S1=>match xO x S1 with
 |some b=>.ok (.bl (!b)) S1
 |none=>.bad
theorem N5  (h:PE X a (tD X fa)):PE X (.BoolOp op [a] pos) (tD X fa):=SV h
theorem E7 {pins:Aa (Af × Ci)}{s:Ah}{σ:_L.St}{H:Hp}{v:V}{k:Ar}{R:Ar->Ah->Prop}(I:Inv X pins σ H s)(rv:qI v vv)(t:iY X.K v H k)(h:∀ s',Inv X pins σ H s'->R k s') :
  Ap (As X.prog X.w) X.A (truthy vv) R X.xe s:=thn (pT pins s σ H v vv (λk' H'=>k'=k/\H'=H) I rv ⟨k,t,rfl,rfl⟩) λk' s4 ⟨H4,I4,hk,hH⟩=>by subst hk;subst hH;exact h s4 I4
theorem TU {rest:Aa Br}(ha:PE X a (tD X fa))(hb:PE X (.BoolOp .And (b::rest) pos) (tD X fb)):PE X (.BoolOp .And (a::b::rest) pos) (tD X (p5 fa fb)):=by
 intro pins s σ H Q I h;obtain⟨P,α,env,S,r,re,af⟩:=h;refine BoolOp_and (thn (zK ha I r re af) λvv s1 ⟨v,H1,P1,α1,d,S1,G1,af1⟩=>?_);cases ht:xO d S1 with
 |none=>simp only[ht] at af1;exact Ao af1
 |some k =>
  simp only[ht] at af1;refine E7 G1.inv G1.val (uD G1.rel G1.rep ht) λs2 I2=>?_;cases k with
  |true=>exact hb pins s2 σ H1 Q I2 ⟨P1,α1,env,S1,G1.rel,G1.env,qR.base G1.same G1.pre af1⟩
  |false=>exact⟨v,H1,I2,G1.val,af1 v H1 P1 α1 G1.rel G1.same G1.pre G1.rep⟩
theorem N4 (ha:PE X a (tD X fa)):PE X (.UnaryOp .Not a pos) (tD X (YR fa)):=by
 intro pins s σ H Q I h;obtain⟨P,α,env,S,r,re,af⟩:=h;refine UnaryOp_ (thn (zK ha I r re af) λvv s1 ⟨v,H1,P1,α1,d,S1,G1,af1⟩=>?_);cases ht:xO d S1 with
 |none=>simp only[ht] at af1;exact Ao af1
 |some k =>
  simp only[ht] at af1;exact not_of (E7 G1.inv G1.val (uD G1.rel G1.rep ht) λs2 I2=>⟨.bl (!k),H1,I2,rfl,af1 (.bl (!k)) H1 P1 α1 G1.rel G1.same G1.pre (by simp only[Rep])⟩)
end
@[inline] def Res.toS {β:Type}(env:qE)(r:Res β)(k:β->Sto->Out):Out:=
 match r with
 |.ok d S=>k d S
 |.ex c x S=>.ex c x env S
 |.bad=>.bad
section
variable {X:Cx}{a b c e:Br}{pos:Ex}{fa fb fc:DE}{ta tb:DT}{f g:DS}{st:Fa}{rest:Aa Fa}
def zL:DS:=λenv S=>.nx env S
def qM (f g:DS):DS:=λenv S=>match f env S with
 |.nx env1 S1=>g env1 S1
 |o=>o
theorem NI:PSs X [] (tDS X zL):=R5 FB λD σ H ⟨P,α,env,S,r,re,af⟩=>af σ H P α r re (qF.refl _) (Bh _)
theorem PP (h1:PS X st (tDS X f))(h2:PSs X rest (tDS X g)):PSs X (st::rest) (tDS X (qM f g)):=R5 (UP h1 h2) λD σ H ⟨P,α,env,S,r,re,af⟩=>by
 refine⟨P,α,env,S,r,re,?_⟩;unfold qM at af;cases q:f env S with
 |nx env1 S1 =>
  rw[q] at af;exact λσ' H' P' α' r' re' e1 e2=>⟨P',α',env1,S1,r',re',qX.base e1 e2 af⟩
 |rt d S1=>rw[q] at af;exact af
 |bk env1 S1=>rw[q] at af;exact af
 |ct env1 S1=>rw[q] at af;exact af
 |ex c x env1 S1=>rw[q] at af;exact af
 |bad=>rw[q] at af;exact af
theorem NJ (h1:PS X st (tDS X f)):PSs X [st] (tDS X f):=FC h1
theorem w6 {β:Type}{P:Hp}{α:Aa Af}{env:qE}{r:Res β}{k:β->Sto->Out}{D:Ends}(h:qX X P α (r.toS env k) D):qK X P α r λd S=>qX X P α (k d S) D:=by
 cases r with
 |ok d S=>exact h
 |ex c x S=>exact h
 |bad=>exact h
inductive GotS (X:Cx)(pins:Aa (Af × Ci))(σ : _L.St)(env:qE)(P:Hp)(α : Aa Af)(u:Ac)(s1:Ah)(k:D->Sto->Out)(E:Ends):Prop
 |mk (v:V) (H1 P1:Hp) (α1:Aa Af) (d:D) (S1:Sto) (G:Got X pins σ env P α u s1 v H1 P1 α1 d S1) (q:qX X P1 α1 (k d S1) E):GotS X pins σ env P α u s1 k E
theorem m7 {k:D->Sto->Out}{pins:Aa (Af × Ci)}{s:Ah}{σ:_L.St}{H P:Hp}{α:Aa Af}{env:qE}{D:Ends}(he:PE X e (tD X fa))(I:Inv X pins σ H s)(r:Rel X.K H P α S)
  (re:qZ X.K P α σ env) (af:qX X P α ((fa env S).toS env k) D) :
  Ap (As X.prog X.w) X.A (eval e X.env) (λu s1=>GotS X pins σ env P α u s1 k D) X.xe s:=by
 have af1:qK X P α ((fa env S).bind λd S=>.ok d S) λd S=>qX X P α (k d S) D:=by
  have:=w6 af;cases q:fa env S <;> rw[q] at this <;> exact this
 exact thn (zK he I r re af1) λu s1 ⟨v,H1,P1,α1,d,S1,G,q⟩=>⟨v,H1,P1,α1,d,S1,G,qX.base G.same G.pre q⟩
def wU (f:DE):DS:=λenv S=>(f env S).toS env λ_ S1=>.nx env S1
theorem PQ (he:PE X e (tD X fa))(hs:Mw e none pos.line X.env=pure false:=by rfl):PS X (.Expr e pos) (tDS X (wU fa)):=by
 intro pins s σ H D I h;obtain⟨P,α,env,S,r,re,af⟩:=h;exact wpAny_Expr_any (thn (m7 he I r re af) λv s1 ⟨x,H1,P1,α1,d,S1,G,q⟩=>⟨σ,H1,G.inv,q σ H1 P1 α1 G.rel G.env (qF.refl _) (Bh _)⟩) I.quiet hs
def zA (f:DE):DS:=λenv S=>(f env S).toS env λd S1=>.rt d S1
theorem NL (he:PE X e (tD X fa)):PS X (.Return (Ab e) pos) (tDS X (zA fa)):=by
 intro pins s σ H D I h;obtain⟨P,α,env,S,r,re,af⟩:=h;exact wpAny_Return_some (thn (m7 he I r re af) λv s1 ⟨x,H1,P1,α1,d,S1,G,q⟩=>⟨x,σ,H1,G.inv,G.val,q x H1 P1 α1 G.rel (qF.refl _) (Bh _) G.rep⟩)
def sIf (t:DT)(f g:DS):DS:=λenv S=>(t env S).toS env λb S1=>if b then f env S1 else g env S1
theorem HE {as bs:Aa Fa}(hc:PT X c (tDT X ta))(ha:PSs X as (tDS X f))(hb:PSs X bs (tDS X g)):PS X (.If c as bs pos) (tDS X (sIf ta f g)):=by
 intro pins s σ H D I h;obtain⟨P,α,env,S,r,re,af⟩:=h;have af1:qK X P α ((ta env S).bind λd S=>.ok d S) λb S=>qX X P α (if b then f env S else g env S) D:=by
  have:=w6 af;cases q:ta env S <;> rw[q] at this <;> exact this
 refine wpAny_If (thn (p8 (λQ' q=>hc pins s σ H Q' I q) r re af1) λk s1 ⟨H1,P1,α1,S1,I1,r1,re1,e1,e2,af2⟩=>?_);cases k with
 |true=>exact ha pins s1 σ H1 D I1 ⟨P1,α1,env,S1,r1,re1,qX.base e1 e2 af2⟩
 |false=>exact hb pins s1 σ H1 D I1 ⟨P1,α1,env,S1,r1,re1,qX.base e1 e2 af2⟩
abbrev DG:=D->qE->Sto->Res qE
abbrev DGs:=Aa D->qE->Sto->Res qE
def OkE (X:Cx)(P:Hp)(α : Aa Af)(Q:_L.St->Hp->Prop)(env':qE)(S':Sto):Prop:=∀ σ' H' P' α',Rel X.K H' P' α' S'->qZ X.K P' α' σ' env'->qF P P'->α<+:α'->Q σ' H'
def tDG (X:Cx)(g:DG):TG:=λv σ H Q=>∃ P α env S d,Rel X.K H P α S/\qZ X.K P α σ env/\Rep X.K P α d v/\qK X P α (g d env S) (OkE X P α Q)
def hX (X:Cx)(g:DGs):TGs:=λvs σ H Q=>∃ P α env S ds,Rel X.K H P α S/\qZ X.K P α σ env/\qD X.K P α ds vs/\qK X P α (g ds env S) (OkE X P α Q)
theorem qZ.set {K:Aj}{P:Hp}{α:Aa Af}{σ:_L.St}{env:qE}{d:D}{v:V}(re:qZ K P α σ env)(i:Ai)(rp:Rep K P α d v):qZ K P α (σ.set i (Ab v)) (env.set i (Ab d)):=by
 refine⟨by simp[re.1],λj d' e=>?_⟩
 by_cases hj:i=j
 .subst hj
  by_cases hi:i<env.length
  .rw[Ed hi] at e
   cases e;exact⟨v,by rw[Ed (by rw[<- re.1];exact hi)],rp⟩
  .rw[Nq (by simp;omega)] at e;cases e
 .rw[Dx hj] at e ⊢
  exact re.2 j d' e
def gNm (i:Ai):DG:=λd env S=>.ok (env.set i (Ab d)) S
theorem PF {i:Ai}{x:Av}(hN:X.N.Nodup)(hi:X.N[i]? = Ab x:=by rfl)(hx:Loc X.env.scope x:=by first|exact Aa3 rfl|exact Ze rfl)(hf:X.fn x=true\/X.env.scope.names.lookup x=Ab .local:=by first|exact .inl rfl|exact .inr rfl|assumption):PG X (.Name x pos) (tDG X (gNm i)):=by
 intro pins s σ H v u Q I rv h;obtain⟨P,α,env,S,d,r,re,rp,af⟩:=h;exact F6 hN hi hx hf pins s σ H v u Q I rv (af _ H P α r (re.set i rp) (qF.refl _) (Bh _))
def vA:DGs:=λds env S=>match ds with
 |[]=>.ok env S
 |_=>.bad
def zR (g:DG)(gs:DGs):DGs:=λds env S=>match ds with
 |d::r=>(g d env S).bind λenv1 S1=>gs r env1 S1
 |[]=>.bad
theorem PH:PGs X [] (hX X vA):=by
 intro pins s σ H vs us Q I rv h;obtain⟨P,α,env,S,ds,r,re,rp,af⟩:=h;cases ds with
 |nil=>exact F7 pins s σ H vs us Q I rv ⟨rp.nil_inv,af σ H P α r re (qF.refl _) (Bh _)⟩
 |cons d ds=>exact Ao af
theorem YX {es:Aa Br}{g:DG}{gs:DGs}(h1:PG X e (tDG X g))(h2:PGs X es (hX X gs))(hs:(Hf (e::es) X.env).map (·.2)=assign e X.env::(Hf es X.env).map (·.2):=by rfl):PGs X (e::es) (hX X (zR g gs)):=by
 intro pins s σ H vs us Q I rv h;obtain⟨P,α,env,S,ds,r,re,rp,af⟩:=h;cases ds with
 |nil=>exact Ao af
 |cons d ds =>
  obtain⟨w,ws,rfl,p1,p2⟩:=rp.cons_inv;refine UM h1 h2 hs pins s σ H _ us Q I rv ⟨w,ws,rfl,P,α,env,S,d,r,re,p1,?_⟩;have af':qK X P α ((g d env S).bind λenv1 S1=>gs ds env1 S1) (OkE X P α Q):=af;cases q:g d env S with
  |bad=>rw[q] at af';exact af'
  |ex c x S'=>rw[q] at af';exact af'
  |ok env1 S1 =>
   rw[q] at af';intro σ' H' P' α' r' re' e1 e2;refine⟨P',α',env1,S1,ds,r',re',qD.mono e1 e2 _ _ p2,qK.base' e1 e2 (λenv' S' ok σ2 H2 P2 α2 r2 re2 e3 e4=>ok σ2 H2 P2 α2 r2 re2 (e1.trans e3) (e2.trans e4)) af'⟩
def gTp (n:Ai)(gs:DGs):DG:=λd env S=>match d with
 |.tup xs=>if xs.length=n then gs xs env S else .bad
 |_=>.bad
set_option tactic.hygienic true in
theorem NB {es:Aa Br}{k:Ai}{gs:DGs}{n:Ai}(hc:X.calm=true)(h:PGs X es (hX X gs))(hn:(Hf es X.env).length=n:=by rfl)(hst:(Hf es X.env).findIdx? (·.1)=none:=by rfl):PG X (.Tuple es k pos) (tDG X (gTp n gs)):=by
 intro pins s σ H v u Q I rv hw;obtain⟨P,α,env,S,d,r,re,rp,af⟩:=hw;cases d with
 |tup xs =>
  simp only[Rep] at rp;obtain⟨a,vs,rfl,q,t⟩:=rp;simp only[gTp] at af
  split at af
  .rename_i hl
   exact SY hc h hn hst pins s σ H _ u Q I rv ⟨a,vs,rfl,xH r.sub q,by rw[<- t.length];exact hl,P,α,env,S,xs,r,re,t,af⟩
  .exact Ao af
 |_=>exact Ao af
abbrev G3:=D->D->D->Sto->Res Qm
def OkU (X:Cx)(P:Hp)(α : Aa Af)(Q:Hp->Prop)(_:Qm)(S':Sto):Prop:=∀ H' P' α',Rel X.K H' P' α' S'->qF P P'->α<+:α'->Q H'
def sJ (X:Cx)(g:G3):MR:=λo i v H Q=>∃ P α S a b d,Rel X.K H P α S/\Rep X.K P α a o/\Rep X.K P α b i/\Rep X.K P α d v/\qK X P α (g a b d S) (OkU X P α Q)
def gSb (fo fi:DE)(g:G3):DG:=λd env S=>(fo env S).bind λo S1=>(fi env S1).bind λi S2=>(g o i d S2).bind λ_ S3=>.ok env S3
theorem NA {o i:Br}{fo fi:DE}{g:G3}(ho:PE X o (tD X fo))(hi:PE X i (tD X fi))(hs:sO X (sJ X g))
  (ha:∀ v,assign (.Subscript o i pos) X.env v=(do
   let ov <- holding [v] (eval o X.env)
   let iv <- holding [v,ov] (eval i X.env)
   Tq pos
   holding [v,ov,iv] (setItem ov iv v)
   release [v,ov,iv] []):=by intro _;rfl):PG X (.Subscript o i pos) (tDG X (gSb fo fi g)):=by
 intro pins s σ H v u Q I rv h;obtain⟨P,α,env,S,d,r,re,rp,af⟩:=h;rw[ha];refine Ad (Ct (thn (zK ho I r re af) λov s1 ⟨x,H1,P1,α1,d1,S1,G1,af1⟩=>?_));refine Ad (Ct (thn (zK hi G1.inv G1.rel G1.env (P:=P1) (α:=α1) (Ok:=OkE X P1 α1 Q) (qK.base' G1.same G1.pre (λenv' S' ok σ2 H2 P2 α2 r2 re2 e3 e4=>ok σ2 H2 P2 α2 r2 re2 (G1.same.trans e3) (G1.pre.trans e4)) af1)) λiv s2 ⟨y,H2,P2,α2,d2,S2,G2,af2⟩=>?_));refine Ad (Le (Ad (Ct (thn (hs pins s2 σ H2 x y v ov iv u (λH3=>Q σ H3) G2.inv G1.val G2.val rv ⟨P2,α2,S2,d1,d2,d,G2.rel,Rep.mono G2.same G2.pre _ _ G1.rep,G2.rep,Rep.mono (G1.same.trans G2.same) (G1.pre.trans G2.pre) _ _ rp,?_⟩) λ_ s3 ⟨H3,I3,q3⟩=>?_))))
 .cases q:g d1 d2 d S2 with
  |bad=>rw[q] at af2;exact af2
  |ex c x S'=>rw[q] at af2;exact λu s' z=>af2 u s' (z.base G2.same G2.pre)
  |ok w S3 =>
   rw[q] at af2;exact λH' P' α' r' e1 e2=>af2 σ H' P' α' r' (G2.env.mono e1 e2) (G2.same.trans e1) (G2.pre.trans e2)
 .exact wpAny_release ⟨σ,H3,I3,q3⟩
def qV (f:DE)(g:DG):DS:=λenv S=>(f env S).toS env λd S1=>(g d env S1).toS env λenv' S2=>.nx env' S2
theorem QX {g:DG}{d:D}{env:qE}{P:Hp}{α:Aa Af}{D':Ends}(h:qX X P α ((g d env S).toS env λenv' S2=>.nx env' S2) D'):qK X P α (g d env S) (OkE X P α D'.nx):=by
 cases q:g d env S with
 |bad=>rw[q] at h;exact h
 |ex c x S'=>rw[q] at h;exact h
 |ok env1 S1=>rw[q] at h;exact h
theorem NG {tg:Br}{g:DG}(he:PE X e (tD X fa))(hg:PG X tg (tDG X g))(hs:Ld [tg] e pos.line X.env=pure false:=by rfl)(hw:Lc [tg] e X.env=pure none:=by rfl)
  (h1:(Hf [tg] X.env).map (·.2)=[assign tg X.env]:=by rfl):PS X (.Assign [tg] e pos) (tDS X (qV fa g)):=by
 intro pins s σ H D I h;obtain⟨P,α,env,S,r,re,af⟩:=h;refine wpAny_Assign_stores (thn (m7 he I r re af) λv s1 ⟨x,H1,P1,α1,d,S1,G,q⟩=>?_) hs hw;rw[h1];exact thn (hg pins s1 σ H1 x v _ G.inv G.val ⟨P1,α1,env,S1,d,G.rel,G.env,G.rep,QX q⟩) λ_ s2 q=>q
theorem NM {i:Ai}{x:Av}{pos':Ex}(hN:X.N.Nodup)(he:PE X e (tD X fa))(hi:X.N[i]? = Ab x:=by rfl)(hx:Loc X.env.scope x:=by first|exact Aa3 rfl|exact Ze rfl)(hs:Mw e (Ab (.Name x pos')) pos.line X.env=pure false:=by rfl)
  (hf:X.fn x=true\/X.env.scope.names.lookup x=Ab .local:=by first|exact .inl rfl|exact .inr rfl|assumption):PS X (.Assign [.Name x pos'] e pos) (tDS X (qV fa (gNm i))):=by
 intro pins s σ H D I h;obtain⟨P,α,env,S,r,re,af⟩:=h;refine wpAny_Assign_Name (thn (m7 he I r re af) λv s1 ⟨y,H1,P1,α1,d,S1,G,q⟩=>?_) hs;exact j6 G.inv hN hi hx G.val (λs2 I2=>⟨_,H1,I2,q _ H1 P1 α1 G.rel (G.env.set i G.rep) (qF.refl _) (Bh _)⟩) hf
def XR (i j:Ai)(env:qE)(S1:Sto):Aa D->Out
 |[x,y]=>.nx ((env.set i (Ab x)).set j (Ab y)) S1
 |_=>.bad
def pP (i j:Ai)(f:DA):DS:=λenv S=>(f env S).toS env λds S1=>XR i j env S1 ds
theorem NK {i j:Ai}{x y:Av}{f:DA}{px py pt:Ex} {kt k2 pt2} (hc:X.calm=true) (hN:X.N.Nodup) (ha:PA X [a,b] (tDA X f)) (hi:X.N[i]? = Ab x:=by rfl) (hj:X.N[j]? = Ab y:=by rfl) (hij:i≠j:=by decide)
  (hx:X.env.scope.names.lookup x=Ab .local:=by rfl) (hy:X.env.scope.names.lookup y=Ab .local:=by rfl)
  (hw:Lc [.Tuple [.Name x px,.Name y py] kt pt] (.Tuple [a,b] k2 pt2) X.env=pure (Ab [x,y]):=by rfl)
  (hs:Ld [.Tuple [.Name x px,.Name y py] kt pt] (.Tuple [a,b] k2 pt2) pos.line X.env=pure false:=by rfl) :
  PS X (.Assign [.Tuple [.Name x px,.Name y py] kt pt] (.Tuple [a,b] k2 pt2) pos) (tDS X (pP i j f)):=psW (R4 hc hN hi hj hij hx hy ha hw hs) λD σ H ⟨P,α,env,S,r,re,af⟩=>by
 refine⟨P,α,env,S,r,re,?_⟩;have af1:=w6 af;cases q:f env S with
 |bad=>rw[q] at af1;exact af1
 |ex c x S'=>rw[q] at af1;exact af1
 |ok ds S1 =>
  rw[q] at af1;intro vs H' P' α' r' e1 e2 rp;have af2:qX X P α (XR i j env S1 ds) D:=af1;cases ds with
  |nil=>exact Ao af2
  |cons d ds=>cases ds with
   |nil=>exact Ao af2
   |cons d' ds=>cases ds with
    |cons _ _=>exact Ao af2
    |nil =>
     obtain⟨w,ws,rfl,p1,t⟩:=rp.cons_inv;obtain⟨w',ws',rfl,p2,t⟩:=t.cons_inv;rw[t.nil_inv];exact⟨w,w',rfl,af2 _ _ P' α' r' (((re.mono e1 e2).set i p1).set j p2) e1 e2⟩
end
structure ItD (K:Aj)(J:It)(P:Hp)(α : Aa Af)(ds:Aa D):Prop where
 go:∀ i H P1 α1 S,i<ds.length->Rel K H P1 α1 S->qF P P1->α<+:α1->J.go i H
 yld:∀ i H x H' P1 α1 S,i<ds.length->Rel K H P1 α1 S->qF P P1->α<+:α1->J.yld i H x H'->∃ P2 d,ds[i]? = Ab d/\Rel K H' P2 α1 S/\qF P1 P2/\Rep K P2 α1 d x
 stop:∀ i H P1 α1 S,ds.length<=i->Rel K H P1 α1 S->qF P P1->α<+:α1->J.stop i H
abbrev DI:=qE->Sto->Res (Aa D)
def OkI (X:Cx)(P:Hp)(α : Aa Af)(R:It->Hp->Prop)(ds:Aa D)(S':Sto):Prop:=∀ J H' P' α',Rel X.K H' P' α' S'->qF P P'->α<+:α'->ItD X.K J P' α' ds->R J H'
inductive tDI (X:Cx)(f:DI)(σ : _L.St)(H:Hp)(R:It->Hp->Prop):Prop
 |mk (P:Hp) (α : Aa Af) (env:qE) (S:Sto) (r:Rel X.K H P α S) (re:qZ X.K P α σ env) (af:qK X P α (f env S) (OkI X P α R)):tDI X f σ H R
def vM {β:Type}(o:Al β)(S:Sto):Res β:=match o with
 |some b=>.ok b S
 |none=>.bad
theorem vN {X:Cx}{β:Type}{o:Al β}{P:Hp}{α:Aa Af}{Ok:β->Sto->Prop}(h:qK X P α (vM o S) Ok):∃ b,o=Ab b/\Ok b S:=by
 cases o with
 |none=>exact Ao h
 |some b=>exact⟨b,rfl,h⟩
theorem xB {X:Cx}{β:Type}{c:Prop}[Mq c]{r:Res β}{P:Hp}{α : Aa Af}{Ok:β->Sto->Prop}(h:qK X P α (if c then r else .bad) Ok):c/\qK X P α r Ok:=by
 by_cases z:c
 .rw[Bb z] at h;exact⟨z,h⟩
 .rw[Bc z] at h;exact Ao h
theorem eF {X:Cx}{β:Type}{ds:Aa D}{g:D->Res β}{P:Hp}{α:Aa Af}{Ok:β->Sto->Prop}(h:qK X P α (match ds with|[d]=>g d|_=>.bad) Ok):∃ d,ds=[d]/\qK X P α (g d) Ok:=by
 cases ds with
 |nil=>exact Ao h
 |cons d ds =>
  cases ds with
  |nil=>exact⟨d,rfl,h⟩
  |cons _ _=>exact Ao h
theorem nN {β:Type}{i:Ai}{f:Aa D->Al β}{g:Aa (Key × D)->Al β}{b:β}(h:(match S[i]? with|some (.lst xs)=>f xs|some (.dct kvs)=>g kvs|_=>none)=Ab b):(∃ xs,S[i]? = Ab (.lst xs)/\f xs=Ab b)\/∃ kvs,S[i]? = Ab (.dct kvs)/\g kvs=Ab b:=by
 cases e:S[i]? with
 |none=>rw[e] at h;exact nn h
 |some m =>
  rw[e] at h;cases m with
  |lst xs=>exact .inl ⟨xs,rfl,h⟩
  |dct kvs=>exact .inr ⟨kvs,rfl,h⟩
  |_=>exact nn h
theorem D5 {β:Type}{i:Ai}{f:Aa D->Al β}{b:β}(h:(match S[i]? with|some (.lst xs)=>f xs|_=>none)=Ab b):∃ xs,S[i]? = Ab (.lst xs)/\f xs=Ab b:=by
 cases e:S[i]? with
 |none=>rw[e] at h;exact nn h
 |some m =>
  rw[e] at h;cases m with
  |lst xs=>exact⟨xs,rfl,h⟩
  |_=>exact nn h
inductive ItV (d:D)(xs:Aa D):Prop
 |tup (e:d=.tup xs)
 |lst (e:d=.lst xs)
def bG {β:Type}(S:Sto)(n:Ai)(f:Aa D->Res β) : Res β:=match S[n]? with
 |some (.lst xs)=>f xs
 |_=>.bad
theorem uU {X:Cx}{β:Type}{n:Ai}{f:Aa D->Res β}{P:Hp}{α:Aa Af}{Ok:β->Sto->Prop}(h:qK X P α (bG S n f) Ok):∃ xs,S[n]? = Ab (.lst xs)/\qK X P α (f xs) Ok:=by
 unfold bG at h;cases e:S[n]? with
 |none=>rw[e] at h;exact Ao h
 |some m =>
  rw[e] at h;cases m with
  |lst xs=>exact⟨xs,rfl,h⟩
  |_=>exact Ao h
def zV:D->Al (Aa D)
 |.tup xs=>Ab xs
 |.lst xs=>Ab xs
 |_=>none
theorem itV {d:D}{xs:Aa D}(h:zV d=Ab xs):ItV d xs:=by
 cases d with
 |tup ys=>exact .tup (congrArg D.tup (Co h))
 |lst ys=>exact .lst (congrArg D.lst (Co h))
 |_=>exact nn h
def uL (f:DE):DI:=λenv S=>(f env S).bind λd S1=>vM (zV d) S1
section
variable {X:Cx}{K:Aj}{tg e:Br}{fa:DE}{pos:Ex}
theorem VP {P:Hp}{α:Aa Af}{a:Af}{ds:Aa D}(q:SqL K P a vs)(t:qD K P α ds vs):ItD K (Itl K a) P α ds where
 go:=λi H P1 α1 S hi r e _=>⟨vs,vs[i]'(by rw[<- t.length];exact hi),(e.trans r.sub).seq q,by simp⟩
 yld:=λi H x H' P1 α1 S hi r e e2 y=>by
  obtain⟨rfl,y⟩:=y;have hx:=y vs ((e.trans r.sub).seq q);obtain⟨v,h1,h2⟩:=t.get (An hi);rw[hx] at h1;cases h1;exact⟨P1,_,An hi,r,qF.refl _,Rep.mono e e2 _ _ h2⟩
 stop:=λi H P1 α1 S hi r e _=>⟨vs,(e.trans r.sub).seq q,by rw[<- t.length];exact hi⟩
theorem BC {P:Hp}{α:Aa Af}{a:Af}{ds:Aa D}(q:SqT K P a vs)(t:qD K P α ds vs):ItD K (Itt K a) P α ds where
 go:=λi H P1 α1 S hi r e _=>⟨vs,vs[i]'(by rw[<- t.length];exact hi),yQ (e.trans r.sub) q,by simp⟩
 yld:=λi H x H' P1 α1 S hi r e e2 y=>by
  obtain⟨rfl,y⟩:=y;have hx:=y vs (yQ (e.trans r.sub) q);obtain⟨v,h1,h2⟩:=t.get (An hi);rw[hx] at h1;cases h1;exact⟨P1,_,An hi,r,qF.refl _,Rep.mono e e2 _ _ h2⟩
 stop:=λi H P1 α1 S hi r e _=>⟨vs,yQ (e.trans r.sub) q,by rw[<- t.length];exact hi⟩
theorem rQ {pins:Aa (Af × Ci)}{σ:_L.St}{H P:Hp}{α:Aa Af}{s:Ah}{v:V}{d:D}{ds:Aa D}(I:Inv X pins σ H s)(r:Rel X.K H P α S)(rv:qI v vv)(rp:Rep X.K P α d v)(hd:zV d=Ab ds)
  (q:OkI X P α R ds S):Ap (As X.prog X.w) X.A (Nl vv) (PIE X pins σ tg R) X.xe s:=by
 cases d with
 |tup xs =>
  cases hd;simp only[Rep] at rp;obtain⟨a,vs,rfl,sq,t⟩:=rp;cases rv;obtain⟨its,rv,p,hz⟩:=I.tuple (xH r.sub sq);refine Hd (show s.heap.IsTuple a its.toArray from p) ?_
  refine⟨s.heap.objs.size,[s.heap.objs.size],_,_,H,rfl,I.kept (t':=s.toks) λb o e=>Ag _ e,QP a _,⟨_,Ba _ rfl,rfl,rfl⟩,λb hb=>?_,q _ _ P α r (qF.refl _) (Bh _) (BC sq t)⟩;have e:b=s.heap.objs.size:=by simpa using hb
  subst e;exact I.fpOk (AT _) (I.hok.fresh (AT _))
 |lst xs =>
  cases hd;simp only[Rep] at rp;obtain⟨a,vs,rfl,sq,t⟩:=rp;cases rv;obtain⟨its,rv,p,hz⟩:=I.list ((x9 r.sub sq).l);refine Fm p.isList ?_;refine⟨s.heap.objs.size,[s.heap.objs.size],_,_,H,rfl,I.kept (t':=s.toks) λb o e=>Ag _ e,dO a _,⟨_,Ba _ rfl,rfl,rfl⟩,λb hb=>?_,q _ _ P α r (qF.refl _) (Bh _) (VP sq.l t)⟩;have e:b=s.heap.objs.size:=by simpa using hb
  subst e;exact I.fpOk (AT _) (I.hok.fresh (AT _))
 |_=>cases hd
theorem OkI.base {P P1:Hp}{α α1:Aa Af}{ds:Aa D}(e:qF P P1)(h:α<+:α1)(k:OkI X P α R ds S):OkI X P1 α1 R ds S:=λJ H' P' α' r q1 q2 q3=>k J H' P' α' r (e.trans q1) (h.trans q2) q3
theorem NC (ha:PE X e (tD X fa)):PI X tg e (tDI X (uL fa)):=by
 intro pins s σ H R I h;obtain⟨P,α,env,S,r,re,af⟩:=h;refine thn (zK ha I r re af) λvv s1 ⟨v,H1,P1,α1,d,S1,G1,af1⟩=>?_;obtain⟨ds,e1,q⟩:=vN af1;exact rQ G1.inv G1.rel G1.val G1.rep e1 (q.base G1.same G1.pre)
def wZ (lo:Am)(n:Ai):Aa D:=(Cg n).map λ(i:Ai)=>D.int (lo+(i:Am))
theorem gE (lo:Am)(n:Ai):(wZ lo n).length=n:=by simp[wZ]
theorem lS {P:Hp}{α:Aa Af}{lo:Am}{n:Ai}:ItD K (Itr lo n) P α (wZ lo n) where
 go:=λi H P1 α1 S hi r e _=>by rw[gE] at hi;exact hi
 yld:=λi H x H' P1 α1 S hi r e e2 y=>by
  obtain⟨rfl,rfl⟩:=y;rw[gE] at hi;exact⟨P1,.int (lo+i),by simp[wZ,hi],r,qF.refl _,by simp only[Rep]⟩
 stop:=λi H P1 α1 S hi r e _=>by rw[gE] at hi;exact hi
def pO (ds:Aa D):Al (Aa D):=match ds with
 |[.int j]=>if -(2 ^ 62)<=j/\j<2 ^ 62 then Ab (wZ 0 j.toNat) else none
 |[.int i,.int j]=>if -(2 ^ 62)<=i/\i<2 ^ 62 /\ -(2 ^ 62)<=j/\j<2 ^ 62 then Ab (wZ i (j-i).toNat) else none
 |_=>none
def yN (f:DA):DI:=λenv S=>(f env S).bind λds S1=>vM (pO ds) S1
def asI:D->Al Am
 |.int i=>Ab i
 |_=>none
theorem bY {d:D}{i:Am}(h:asI d=Ab i):d=.int i:=by
 cases d with
 |int k=>exact congrArg D.int (Co h)
 |_=>exact nn h
inductive RngV:Aa D->Aa D->Prop
 |one (j:Am) (h : -(2 ^ 62)<=j/\j<2 ^ 62):RngV [.int j] (wZ 0 j.toNat)
 |two (i j:Am) (h : -(2 ^ 62)<=i/\i<2 ^ 62 /\ -(2 ^ 62)<=j/\j<2 ^ 62):RngV [.int i,.int j] (wZ i (j-i).toNat)
theorem AE (d:D):pO [d]=(asI d).bind λj=>if -(2 ^ 62)<=j/\j<2 ^ 62 then Ab (wZ 0 j.toNat) else none:=by cases d <;> rfl
theorem AF (d d':D):pO [d,d']=(asI d).bind λi=>(asI d').bind λj=>if -(2 ^ 62)<=i/\i<2 ^ 62 /\ -(2 ^ 62)<=j/\j<2 ^ 62 then Ab (wZ i (j-i).toNat) else none:=by
 cases d with
 |int i=>cases d' <;> rfl
 |_=>rfl
theorem FT {ds its:Aa D}(h:pO ds=Ab its):RngV ds its:=by
 cases ds with
 |nil=>exact nn h
 |cons d ds =>
  cases ds with
  |nil =>
   obtain⟨j,e,h⟩:=Ey.mp ((AE d).symm.trans h);obtain⟨c,rfl⟩:=kX h;rw[bY e];exact .one j c
  |cons d' ds =>
   cases ds with
   |nil =>
    obtain⟨i,e,h⟩:=Ey.mp ((AF d d').symm.trans h);obtain⟨j,e',h⟩:=Ey.mp h;obtain⟨c,rfl⟩:=kX h;rw[bY e,bY e'];exact .two i j c
   |cons _ _ =>
    have h0:∀ d'' t,pO (d::d'::d''::t)=none:=λd'' t=>by cases d <;> first|rfl|(cases d' <;> rfl)
    exact nn ((h0 _ _).symm.trans h)
theorem nW {P:Hp}{α:Aa Af}{i:Am}{ds:Aa D}(r:qD K P α (.int i::ds) vs):∃ ws,vs=.int i::ws/\qD K P α ds ws:=by
 obtain⟨w,ws,rfl,p,t⟩:=r.cons_inv;exact⟨ws,congrArg (· :: ws) (by simpa only [Rep] using p),t⟩
theorem PI.weak {iter:Br}{t t':TI}(h:PI X tg iter t)(w:∀ σ H R,t' σ H R->t σ H R):PI X tg iter t':=λpins s σ H R I q=>h pins s σ H R I (w σ H R q)
end
section
variable {X:Cx}{tg a b:Br}{f:DA}{p pos:Ex}
theorem YY {e:Br}{es:Aa Br}(hg:Gl X "range")(hm:X.mg "range" = none)(ha:PA X (e::es) (tDA X f))(hs:Bl (e::es) X.env=(false,eval e X.env)::Bl es X.env:=by rfl)(hpl:(Ge pos (Bl es X.env)).any (·.1)=false:=by rfl) :
  PI X tg (.Call (.Name "range" p) (e::es) [] pos) (tDI X (yN f)):=by
 intro pins s σ H R I h;obtain⟨P,α,env,S,r,re,af⟩:=h;refine Call_ (yE I hg hm boot_range (Hi (thn (wK ha I r re af pos) λus s1 ⟨vs,H1,P1,α1,ds,S1,I1,rv,r1,re1,rp,e1,e2,af1⟩=>?_) hs hpl));obtain⟨its,hi,q⟩:=vN af1;cases FT hi with
 |one j c =>
  obtain⟨ws,rfl,t1⟩:=nW rp;cases t1.nil_inv;obtain⟨u,rfl,t,rfl⟩:=jG rv;refine call_range_1 (eQ I1 om om c.1 c.2 ?_);have z:=q (Itr 0 j.toNat) H1 P1 α1 r1 e1 e2 lS;rw[Int.sub_zero];exact z
 |two i j c =>
  obtain⟨ws,rfl,t1⟩:=nW rp;obtain⟨ws2,rfl,t2⟩:=nW t1;cases t2.nil_inv;obtain⟨u,u',rfl,⟨t,rfl⟩,t',rfl⟩:=sM rv;exact call_range_2 (eQ I1 c.1 c.2.1 c.2.2.1 c.2.2.2 (q (Itr i (j-i).toNat) H1 P1 α1 r1 e1 e2 lS))
def yM (g:DG)(f:DS):Aa D->qE->Sto->Out
 |[],env,S=>.nx env S
 |d::ds,env,S=>(g d env S).toS env λenv1 S1=>match f env1 S1 with
  |.nx env2 S2=>yM g f ds env2 S2
  |.ct env2 S2=>yM g f ds env2 S2
  |.bk env2 S2=>.nx env2 S2
  |o=>o
def vP (fi:DI)(g:DG)(f:DS):DS:=λenv S=>(fi env S).toS env λds S1=>yM g f ds env S1
inductive LoopW (X:Cx)(P1:Hp)(α1:Aa Af)(g:DG)(f:DS)(ds:Aa D)(D:Ends)(i m:Ai)(σ : _L.St)(H:Hp):Prop
 |mk (hi:i<=ds.length) (hm:m=ds.length-i) (P2:Hp) (α2:Aa Af) (env2:qE) (S2:Sto) (r:Rel X.K H P2 α2 S2) (re:qZ X.K P2 α2 σ env2) (e1:qF P1 P2) (e2:α1<+:α2) (af:qX X P2 α2 (yM g f (ds.drop i) env2 S2) D):LoopW X P1 α1 g f ds D i m σ H
theorem NH {iter:Br}{fi:DI}{g:DG}{f:DS}(hp:Og (As X.prog X.w) X.A X.env X.xe)(hc:X.calm=true)(hi:PI X tg iter (tDI X fi))(hg:PG X tg (tDG X g))(hb:PSs X body (tDS X f))
  (hs:∀ x,Fb iter X.env x=pure x:=by intro _;rfl):PS X (.For tg iter body [] pos) (tDS X (vP fi g f)):=psW (R3 hp hc hi hg hb hs) λD σ H ⟨P,α,env,S,r,re,af⟩=>by
 refine⟨P,α,env,S,r,re,?_⟩;have af1:=w6 af;cases q:fi env S with
 |bad=>rw[q] at af1;exact af1
 |ex c x S'=>rw[q] at af1;exact af1
 |ok ds S1 =>
  rw[q] at af1;have af2:qX X P α (yM g f ds env S1) D:=af1;intro J H1 P1 α1 r1 e1 e2 it;refine⟨LoopW X P1 α1 g f ds D,
   ⟨ds.length,Gy _,rfl,P1,α1,env,S1,r1,re.mono e1 e2,qF.refl _,Bh _,qX.base e1 e2 af2⟩,?_⟩
  rintro i m σ2 H2 ⟨hi,rfl,P2,α2,env2,S2,r2,re2,e3,e4,af3⟩;by_cases hlt:i<ds.length
  .refine .inr ⟨it.go i H2 P2 α2 S2 hlt r2 e3 e4,LoopW X P1 α1 g f ds D (i+1) (ds.length-(i+1)),λσ' H' w=>⟨_,?_,w⟩,λx H3 y=>?_⟩
   .omega
   .obtain⟨P3,d,hd,r3,e5,rp⟩:=it.yld i H2 x H3 P2 α2 S2 hlt r2 e3 e4 y
    have hdr:ds.drop i=d::ds.drop (i+1):=by
     rw[Qs hlt];rw[An hlt] at hd;rw[Co hd]
    rw[hdr] at af3;have af4:=w6 (qX.base e5 (Bh _) af3);refine⟨P3,α2,env2,S2,d,r3,re2.mono e5 (Bh _),rp,?_⟩;cases q2:g d env2 S2 with
    |bad=>rw[q2] at af4;exact af4
    |ex c x S'=>rw[q2] at af4;exact af4
    |ok env3 S3 =>
     rw[q2] at af4;intro σ4 H4 P4 α4 r4 re4 e6 e7;refine⟨P4,α4,env3,S3,r4,re4,?_⟩;have af5:=qX.base e6 e7 af4;cases q3:f env3 S3 with
     |bad=>simp only[q3] at af5;exact af5
     |ex c x env4 S4=>simp only[q3] at af5;exact af5
     |rt d4 S4=>simp only[q3] at af5;exact af5
     |bk env4 S4=>simp only[q3] at af5;exact af5
     |nx env4 S4 =>
      simp only[q3] at af5;exact λσ5 H5 P5 α5 r5 re5 e8 e9=>⟨hlt,rfl,P5,α5,env4,S4,r5,re5,((e3.trans e5).trans e6).trans e8,(e4.trans e7).trans e9,qX.base e8 e9 af5⟩
     |ct env4 S4 =>
      simp only[q3] at af5;exact λσ5 H5 P5 α5 r5 re5 e8 e9=>⟨hlt,rfl,P5,α5,env4,S4,r5,re5,((e3.trans e5).trans e6).trans e8,(e4.trans e7).trans e9,qX.base e8 e9 af5⟩
  .have hdr:ds.drop i=[]:=Ts om
   rw[hdr] at af3;exact .inl ⟨it.stop i H2 P2 α2 S2 om r2 e3 e4,af3 σ2 H2 P2 α2 r2 re2 (qF.refl _) (Bh _)⟩
end
abbrev DF:=Aa D->Sto->Res D
section
variable {X:Cx}{x:Av}{p pos:Ex}{e:Br}{es:Aa Br}{F:DF}{fa:DA}
def qL (F:DF)(fa:DA):DE:=λenv S=>(fa env S).bind λds S1=>F ds S1
theorem lD {pins:Aa (Af × Ci)}{s1:Ah}{σ:_L.St}{H1 P P1:Hp}{α α1:Aa Af}{ds:Aa D}(hc:w8 X u F)(I1:Inv X pins σ H1 s1)(r1:Rel X.K H1 P1 α1 S1)(rv:qH vs us)
  (rp:qD X.K P1 α1 ds vs) (e1:qF P P1) (e2:α<+:α1) (af:qK X P α (F ds S1) (OkV X P α Q)):Ap (As X.prog X.w) X.A (call u us) (EP X pins σ Q) X.xe s1:=hc pins σ H1 s1 P1 α1 S1 vs us ds Q I1 r1 rv rp (qR.base e1 e2 af)
theorem YS {id:Ef}(hc:w8 X (.builtin id) F)(hg:Gl X x)(hm:X.mg x=none)(hv:Gb x=Ab (.builtin id))(ha:PA X (e::es) (tDA X fa))(hn:x ≠ "__name__":=by decide)(hdb:(x == ("__debug__" : Av))=false:=by decide)
  (he:Bl (e::es) X.env=(false,eval e X.env)::Bl es X.env:=by rfl) (hpl:(Ge pos (Bl es X.env)).any (·.1)=false:=by rfl):PE X (.Call (.Name x p) (e::es) [] pos) (tD X (qL F fa)):=by
 intro pins s σ H Q I h;obtain⟨P,α,env,S,r,re,af⟩:=h;refine Gd (yE I hg hm hv ?_ hn hdb);exact Js (thn (wK ha I r re af pos) λus s1 ⟨vs,H1,P1,α1,ds,S1,I1,rv,r1,re1,rp,e1,e2,af1⟩=>lD hc I1 r1 rv rp e1 e2 af1) he hpl
theorem ZJ {T:Ef}(hc:w8 X (.type T) F)(hg:Gl X x)(hm:X.mg x=none)(hv:Gb x=Ab (.type T))(ha:PA X (e::es) (tDA X fa))(hn:x ≠ "__name__":=by decide)(hdb:(x == ("__debug__" : Av))=false:=by decide)
  (he:Bl (e::es) X.env=(false,eval e X.env)::Bl es X.env:=by rfl) (hpl:(Ge pos (Bl es X.env)).any (·.1)=false:=by rfl):PE X (.Call (.Name x p) (e::es) [] pos) (tD X (qL F fa)):=by
 intro pins s σ H Q I h;obtain⟨P,α,env,S,r,re,af⟩:=h;refine Gd (yE I hg hm hv ?_ hn hdb);exact Hi (thn (wK ha I r re af pos) λus s1 ⟨vs,H1,P1,α1,ds,S1,I1,rv,r1,re1,rp,e1,e2,af1⟩=>lD hc I1 r1 rv rp e1 e2 af1) he hpl
end
theorem z9.there {P:Bd}{w:Bt}{H:Hp}{h:Bj}{a:Af}{o:HO}(x:z9 P w H h a o):∃ ob,h.get? a=Ab ob:=by
 cases o with
 |lst xs=>obtain⟨_,_,_,_,e⟩:=x;exact⟨_,e⟩
 |tup xs=>obtain⟨_,_,_,ob,e,_⟩:=x;exact⟨_,e⟩
 |dK kvs=>obtain⟨_,_,_,_,o,_,_,e,_⟩:=x;exact⟨_,e⟩
 |dT kvs=>obtain⟨_,_,_,_,o,_,_,e,_⟩:=x;exact⟨_,e⟩
 |set S n=>obtain⟨o,_,_,_,e,_⟩:=x;exact⟨_,e⟩
 |ins C dx fs=>obtain⟨_,_,_,e,_⟩:=x;exact⟨_,e⟩
 |own y=>obtain⟨_,e⟩:=x;exact⟨_,e⟩
 |xd fs=>obtain⟨_,⟨_,_,_,e,_⟩,_⟩:=x;exact⟨_,e⟩
 |rng lo hi=>obtain⟨_,_,_,e⟩:=x;exact⟨_,e⟩
 |frz ob u=>obtain⟨e,_⟩:=x;exact⟨_,e⟩
 |tbl ps=>exact⟨_,show h.get? a=Ab _ from x⟩
 |met f y=>exact⟨_,show h.get? a=Ab _ from x⟩
 |ext φ => obtain⟨_,e,_⟩:=x;exact e
section
variable {X:Cx}{pins:Aa (Af × Ci)}{σ : _L.St}{H:Hp}{s:Ah}{B h':Bj}
abbrev Fn1 (X:Cx):Prop:=X.ex=[]/\X.stack=X.env::X.outer/\X.env.frame=Ab X.env.locals
theorem Fn1.mem (F:Fn1 X){b:Af}:b∈frs X.stack↔b=X.env.locals\/b∈X.fs:=by
 rw[F.2.1];unfold frs;rw[Gm,F.2.2];exact Aw
theorem Old.there (I:Inv X pins σ H s)(F:Fn1 X){b:Af}(o:Old X pins H b):∃ ob,s.heap.get? b=Ab ob:=by
 rcases o with⟨o,e⟩|e|⟨p,hp,rfl⟩|⟨x,e⟩
 .exact I.base.there b o e (by rw[F.1];simp)
 .cases q:H b with
  |none=>exact absurd q e
  |some u=>exact z9.there (I.hok b u q)
 .exact⟨_,(I.pin p hp).1⟩
 .obtain⟨v,ob,ho,_⟩:=I.cell x b e
  exact⟨ob,ho⟩
theorem Inv.fly (I:Inv X pins σ H s)(F:Fn1 X)(cv:Cv X pins H B s.heap)(st:B.StaysIn h')(up:s.heap.UpToSlots h'):Inv X pins σ H { s with heap:=h' } /\ Cv X pins H B h':=by
 have kp:∀ b o,s.heap.get? b=Ab o->Old X pins H b->b ∉ frs X.stack->h'.get? b=Ab o:=λb o e q n=>st b o (cv b o e q n);have neL:∀ b o,X.s₀.heap.get? b=Ab o->b≠X.env.locals:=λb o e=>Bv (Bm (Ax e) I.ok.above);have nofr:∀ b o,X.s₀.heap.get? b=Ab o->b ∉ X.fs->b ∉ frs X.stack:=λb o e n z=>(F.mem.mp z).elim (neL b o e) n;have nx:∀ b,b ∉ X.ex:=λb=>by rw[F.1];simp
 have frU:∀ b,b∈frs X.stack->∀ o,s.heap.get? b=Ab o->∃ sl,h'.get? b=Ab { o with slots:=sl }:=λb hb o e=>by
  obtain⟨_,o',e',nf⟩:=I.stack.mem hb;rw[e] at e';cases e';exact up b o e nf
 have cellK:∀ x c,X.env.cells.lookup x=Ab c->∀ v,s.heap.IsCell c v->h'.IsCell c v:=λx c e v ⟨o,ho,hd⟩=>by
  obtain⟨sl,q⟩:=up c o ho λvs z=>by rw[hd] at z;cases z
  exact⟨_,q,hd⟩
 refine⟨⟨I.ok,I.os,I.bare,⟨λb o e n hb hx=>?_,λb o e n hb hx=>?_,I.base.free,λb o e hx=>?_,I.base.tups,I.base.frzs,I.base.tbls⟩,?_,λx c e=>?_,I.free,I.freeC,λp hp=>?_,λa o e=>?_,I.len⟩,λb o e q n=>?_⟩
 .exact kp b o (I.base.keep b o e n hb hx) (.inl ⟨o,e⟩) (nofr b o e hb)
 .obtain⟨sl,e1⟩:=I.base.slot b o e n hb hx
  obtain⟨sl',e2⟩:=frU b (F.mem.mpr (.inr hb)) _ e1;exact⟨sl',e2⟩
 .obtain⟨o',e1⟩:=I.base.there b o e hx
  by_cases hb:b∈frs X.stack
  .obtain⟨sl,e2⟩:=frU b hb _ e1
   exact⟨_,e2⟩
  .exact⟨o',kp b o' e1 (.inl ⟨o,e⟩) hb⟩
 .obtain⟨m,hn,hl⟩:=I.loc
  refine⟨m,up.ns hn,λi x v e1 e2 e3=>?_⟩;obtain⟨u,r,l⟩:=hl i x v e1 e2 e3;refine⟨u,r,?_⟩;rcases l with l|⟨k,c,e,z⟩
  .exact .inl l
  .exact .inr ⟨k,c,e,cellK x c e _ z⟩
 .obtain⟨v,z⟩:=I.cell x c e
  exact⟨v,cellK x c e v z⟩
 .obtain⟨e,n,ne,nf,d⟩:=I.pin p hp
  exact⟨kp p.1 p.2 e (.inr (.inr (.inl ⟨p,hp,rfl⟩))) λz=>(F.mem.mp z).elim ne nf,n,ne,nf,d⟩
 .refine(I.hok a o e).stay (λb u hb q=>?_) (λ_ q=>q) λ_ _ q=>q
  have hn:H b≠none:=by
   rcases hb with rfl|hb
   .rw[e];intro z;cases z
   .rw[hb];intro z;cases z
  exact kp b u q (.inr (.inl hn)) λz=>hn (I.stkFree b z)
 .obtain⟨o1,e1⟩:=Old.there I F q
  have e2:=cv b o1 e1 q n;have e3:=st b o1 e2;rw[e] at e3;cases e3;exact e2
theorem XG {c:Ac}{e:Af}{g:Bj}(I:Inv X pins σ H s)(hm:Uy g s.heap e c args)(hf:g.FunFrames X.base X.stack)(hk:∀ b o,s.heap.get? b=Ab o->Old X pins H b->g.get? b=Ab o) :
  (Of g (frs X.stack)).StaysIn g/\g.FunFrames (Of g (frs X.stack)) X.stack/\Cv X pins H (Of g (frs X.stack)) s.heap:=
 ⟨λb o q=>Wv _ q,PySem.W.funFrames_hide hf λenv he a ha=>Hc.mpr ⟨env,he,ha⟩,λb o e q n=>Vv _ (hk b o e q) n⟩
theorem X3 {M:Mr}{A:Bo}{E:Ac->Ah->Prop}{c:Ac}{e:Af}{Q:Qm->Ah->Prop}(I:Inv X pins σ H s)(F:Fn1 X)(hA:A.frames=Ab X.stack)(f:FlyX X pins H c e s.heap)
  (hQ:∀ h' B a0,Ou B X.outer e c a0 h'->Inv X pins σ H { s with heap:=h' } -> Cv X pins H B h'->Q () { s with heap:=h' }) : Ap M A (leaving X.env (.ref e)) Q E s:=by
 cases f with
 |new g args hm hf hk =>
  obtain⟨k1,k2,k3⟩:=XG I hm hf hk;rw[F.2.1] at hA;refine wpAny_leaves_madeW hA F.2.2 k1 (by rw[<- F.2.1];exact k2) hm λh' t x1 x2 x3 x4=>?_
  obtain⟨I1,cv1⟩:=Inv.fly I F k3 x1.1 x4;exact hQ h' _ _ x1 I1 cv1
 |fly B a0 fl cv =>
  rw[F.2.1] at hA;refine wpAny_leaves_onW hA F.2.2 (by rw[<- F.2.1];exact fl) λh' x1 x2=>?_
  obtain⟨I1,cv1⟩:=Inv.fly I F cv x1.1 x2;exact hQ h' _ _ x1 I1 cv1
end
def CXd (P:Bd)(w:Bt):CXT:=λouter H s E u s' =>
 ∃ e c H' B a0,u=.ref e/\s'.os=s.os/\Nk s'.gens/\Un (frs outer) [] H H' s.heap s'.heap/\HOk P w H' s'.heap/\Ou B outer e c a0 s'.heap /\
  (∀ b o,s'.heap.get? b=Ab o->((∃ o,s.heap.get? b=Ab o)\/H' b≠none)->b ∉ frs outer->B.get? b=Ab o)/\E c none H'
section
variable {X:Cx}{pins:Aa (Af × Ci)}{σ : _L.St}{H:Hp}{s s':Ah}
theorem L0 {E:XK}(I:Inv X pins σ H s)(F:Fn1 X)(h:CXd X.prog X.w X.stack H s E u s'):∃ e c H',u=.ref e/\Inv X pins σ H' s'/\FlyX X pins H' c e s'.heap/\E c none H':=by
 obtain⟨e,c,H',B,a0,rfl,os,bare,un,hok,fl,cov,q⟩:=h;have I':Inv X pins σ H' s':=Inv.call' I os un hok bare (ch:=[]) λb z=>absurd z (by simp)
 refine⟨e,c,H',rfl,I',.fly B a0 fl λb o eb old n=>cov b o eb ?_ n,q⟩;rcases old with⟨o,z⟩|z|⟨p,hp,rfl⟩|⟨x,z⟩
 .exact .inl (I.base.there b o z (by rw[F.1];simp))
 .exact .inr z
 .exact .inl ⟨_,(I.pin p hp).1⟩
 .obtain⟨v,ob,ho,_⟩:=I.cell x b z
  exact .inl ⟨ob,ho⟩
end
structure RoomC (cm:Ar)(k:Ai)(A:Bo):Prop where
 hd:cm=true->A.handled=none
 dp:A.depth+3*k+5<Mm
 un:A.units+16*k+200<Dw
 gd:A.guards=Ab []
theorem RoomC.mono {cm:Ar}{j k:Ai}{A:Bo}(r:RoomC cm k A)(h:j<=k:=by decide):RoomC cm j A:=⟨r.hd,by have:=r.dp;omega,by have:=r.un;omega,r.gd⟩
theorem RoomC.deeper {cm:Ar}{k:Ai}{A:Bo}(r:RoomC cm (k+1) A)(env:HT):RoomC cm k (A.deeper env):=
 ⟨r.hd,by have:=r.dp;show A.depth+1+3*k+5<_;omega,by have:=r.un;show A.units+3+16*k+200<_;omega,r.gd⟩
theorem RoomC.depth {cm:Ar}{k:Ai}{A:Bo}(r:RoomC cm k A):A.depth<Mm:=by have:=r.dp;omega
theorem RoomC.units {cm:Ar}{k:Ai}{A:Bo}(r:RoomC cm k A):A.units+64<Dw:=by have:=r.un;omega
theorem RoomC.of {k:Ai}{A:Bo}(r:Room k A):RoomC true k A:=⟨λ_=>r.hd,r.dp,r.un,r.gd⟩
theorem RoomC.any {cm:Ar}{k:Ai}{A:Bo}(r:RoomC cm k A):RoomC false k A:=⟨(λz=>nomatch z),r.dp,r.un,r.gd⟩
theorem RoomC.mark {cm:Ar}{k:Ai}{A:Bo}(r:RoomC cm k A)(h:Al Ac):RoomC false k (A.mark h):=⟨(λz=>nomatch z),r.dp,r.un,r.gd⟩
abbrev Cx.re (X:Cx)(A:Bo)(cm:Ar)(E:Ac->Ah->Prop):Cx:={ X with A:=A,calm:=cm,xe:=E }
theorem Inv.re {X:Cx}{pins:Aa (Af × Ci)}{σ:_L.St}{H:Hp}{s:Ah}(I:Inv X pins σ H s)(A:Bo)(cm:Ar)(E:Ac->Ah->Prop)(hf:A.frames=Ab X.stack)(hh:cm=true->A.handled=none):Inv (Cx.re X A cm E) pins σ H s:=
 ⟨⟨I.ok.mod,I.ok.kind,I.ok.glob,I.ok.blt,I.ok.above,I.ok.inj,I.ok.has,I.ok.cab,hh,hf,I.ok.stk,I.ok.exf,I.ok.bs,I.ok.bsz,I.ok.noex,I.ok.exfs,I.ok.funs,I.ok.frf⟩,I.os,I.bare,I.base,I.loc,I.cell,I.free,I.freeC,I.pin,I.hok,I.len⟩
theorem Inv.unre {X:Cx}{pins:Aa (Af × Ci)}{σ:_L.St}{H:Hp}{s:Ah}{A:Bo}{cm:Ar}{E:Ac->Ah->Prop}(I:Inv (Cx.re X A cm E) pins σ H s)(hf:X.A.frames=Ab X.stack)(hh:X.calm=true->X.A.handled=none):Inv X pins σ H s:=
 ⟨⟨I.ok.mod,I.ok.kind,I.ok.glob,I.ok.blt,I.ok.above,I.ok.inj,I.ok.has,I.ok.cab,hh,hf,I.ok.stk,I.ok.exf,I.ok.bs,I.ok.bsz,I.ok.noex,I.ok.exfs,I.ok.funs,I.ok.frf⟩,I.os,I.bare,I.base,I.loc,I.cell,I.free,I.freeC,I.pin,I.hok,I.len⟩
structure FnX (P:Bd)(w:Bt)(K:Aj)(mg:Av->Al Ac)(base:Bj)(cm:Ar)(k:Ai)(f:Af)(fd:Ft)(ps:Aa Av)(sp:Sp):Prop where
 len:∀ vs H Q E,sp vs H Q E->vs.length=ps.length
 run:∀ (A:Bo) (outer:Aa HT) (s:Ah) (H:Hp) (args:Args) (us:Aa Ac) (vs:Aa V) (Q:VK) (E:XK),RoomC cm k A->Env0 P w K mg base A outer s H->Nm s fd args (ps.zip us)->qH vs us->sp vs H Q E ->
  Go (As P w) A (.call (.ref f) args) (CR (CXd P w) outer P w H s Q E) s
theorem FnX.ok {P:Bd}{w:Bt}{K:Aj}{mg:Av->Al Ac}{base:Bj}{k:Ai}{f:Af}{fd:Ft}{ps:Aa Av}(F:FnX P w K mg base true k f fd ps sp):FnOk P w K mg base (CXd P w) k f fd ps sp:=
 ⟨F.len,λA outer s H args us vs Q E hr=>F.run A outer s H args us vs Q E (.of hr)⟩
theorem FnX.any {P:Bd}{w:Bt}{K:Aj}{mg:Av->Al Ac}{base:Bj}{cm:Ar}{k:Ai}{f:Af}{fd:Ft}{ps:Aa Av}(F:FnX P w K mg base false k f fd ps sp):FnX P w K mg base cm k f fd ps sp:=
 ⟨F.len,λA outer s H args us vs Q E hr=>F.run A outer s H args us vs Q E hr.any⟩
theorem FnX.imp {P:Bd}{w:Bt}{K:Aj}{mg:Av->Al Ac}{base:Bj}{cm:Ar}{k:Ai}{f:Af}{fd:Ft}{ps:Aa Av}{sp':Sp}(F:FnX P w K mg base cm k f fd ps sp)
  (h:∀ vs H Q E,sp' vs H Q E->sp vs H Q E):FnX P w K mg base cm k f fd ps sp':=
 ⟨λvs H Q E q=>F.len vs H Q E (h _ _ _ _ q),λA outer s H args us vs Q E hr he hb hv hs=>F.run A outer s H args us vs Q E hr he hb hv (h _ _ _ _ hs)⟩
def cxC (cm:Ar)(P:Bd)(w:Bt)(K:Aj)(mg:Av->Al Ac)(base:Bj)(N:Aa Av)(qual:Av)(scope:Em)(f:Af)(cd:Ac)(A:Bo)(outer:Aa HT)(s:Ah)(H:Hp)(E:XK):Cx where
 prog:=P
 w:=w
 K:=K
 mg:=mg
 base:=base
 A:=A.deeper (Gj qual scope s.heap.objs.size f cd)
 N:=N
 s₀:=s
 H₀:=H
 env:=Gj qual scope s.heap.objs.size f cd
 outer:=outer
 stack:=Gj qual scope s.heap.objs.size f cd::outer
 ex:=[]
 calm:=cm
 fn:=λ_=>true
 pn:=[]
 xe:=λe s'=>Ap (As P w) (A.deeper (Gj qual scope s.heap.objs.size f cd)) (leaving (Gj qual scope s.heap.objs.size f cd) e) (λ_ s''=>CXd P w outer H s E e s'') (λe' s''=>CXd P w outer H s E e' s'') s'
section
variable {P:Bd}{w:Bt}{K:Aj}{mg:Av->Al Ac}{base:Bj}{cm:Ar}{N:Aa Av}{qual:Av}{scope:Em}{f:Af}{cd:Ac}{A:Bo}{outer:Aa HT}{s:Ah}{H:Hp}{E:XK}
theorem YO:Og (As P w) (A.deeper (Gj qual scope s.heap.objs.size f cd)) (Gj qual scope s.heap.objs.size f cd) (cxC cm P w K mg base N qual scope f cd A outer s H E).xe:=PassesOwn.leaving (Q₁:=λe s''=>CXd P w outer H s E e s'')
abbrev xeL (P:Bd)(w:Bt)(A:Bo)(env:HT)(outer:Aa HT)(H:Hp)(s:Ah)(E:XK):Ac->Ah->Prop:=λe s'=>Ap (As P w) (A.deeper env) (leaving env e) (λ_ s''=>CXd P w outer H s E e s'') (λe' s''=>CXd P w outer H s E e' s'') s'
theorem r8 {X:Cx}{P0:Hp}{α:Aa Af}{c:Ac}{x:D}{s':Ah}(hA:X.A=A.deeper X.env)(k:XOk X P0 α c x S u s')
  (q:∀ H' P' α',Rel X.K H' P' α' S->qF P0 P'->α<+:α'->E c none H'):xeL X.prog X.w A X.env X.outer X.H₀ X.s₀ E u s':=by
 obtain⟨e,pins,σ,H1,P1,α1,rfl,I,r,e1,e2,F,fl⟩:=k;unfold xeL;rw[<- hA];refine X3 I F I.ok.frames fl λh' B a0 x1 I1 cv=>?_;refine⟨e,c,H1,B,a0,rfl,I1.os,I1.bare,by have z:=I1.base;rw[F.1] at z;exact z,I1.hok,x1,λb o eb hb n=>cv b o eb ?_ λz=>?_,q H1 P1 α1 r e1 e2⟩
 .rcases hb with z|z
  .exact .inl z
  .exact .inr (.inl z)
 .rcases (Fn1.mem F).mp z with z|z
  .subst z
   rcases hb with⟨o',e'⟩|z
   .exact absurd (Ax e') (Ir.mpr I1.ok.above)
   .exact z I1.free
  .exact n z
theorem oJ {ps:Aa Av}{s1:Ah}(S:FnScope N ps scope)(hd:cm=true->A.handled=none)(e0:Env0 P w K mg base A outer s H)(hl:vs.length=ps.length)(r:qH vs us)
  (x:InCallC s s.heap.objs.size (Vz (Gj qual scope s.heap.objs.size f cd).kindOf (ps.zip us) λ_=>none) (Hq (s.heap.objs.size+1) scope.names []) (Wa (Gj qual scope s.heap.objs.size f cd).kindOf (ps.zip us) λ_=>none) s1) :
  Inv (cxC cm P w K mg base N qual scope f cd A outer s H E) [] (_L.xR N vs) H s1:=by
 have I:=lR (CX:=CXd P w) (E:=E) (A:={ A with handled:=none }) S rfl ⟨e0.frames,e0.mod,e0.bs,e0.bsz,e0.funs,e0.frf,e0.hok,e0.bare⟩ hl r x
 have J:=Inv.re I (A.deeper (Gj qual scope s.heap.objs.size f cd)) cm (cxC cm P w K mg base N qual scope f cd A outer s H E).xe (Oc e0.frames) hd;exact J
end
theorem ZR {P:Bd}{w:Bt}{K:Aj}{mg:Av->Al Ac}{base:Bj}{cm:Ar}{k:Ai}{f:Af}{qual:Av}{params:Lg}{scope:Em}{oc:Ac}{an:Al Af}{osl:Bn (Al Ac)}{x:Av}{kV doc pm cdv ct:Ac}{N ps:Aa Av}
  {A:Bo} {outer:Aa HT} {s:Ah} {H:Hp} {args:Args} {us:Aa Ac} {vs:Aa V} {Q:VK} {E:XK} (lk:K.lookup f=Ab ⟨oc,od,.func (Gw x qual params body scope .none kV doc pm an cdv ct),osl⟩) (hcd:Kn K cdv qual=true) (S:FnScope N ps scope) (hl:vs.length=ps.length) (hr:RoomC cm (k+1) A)
  (e0:Env0 P w K mg base A outer s H) (hb:Nm s (Gw x qual params body scope .none kV doc pm an cdv ct) args (ps.zip us)) (r:qH vs us)
  (hbody:∃ t,PSs (cxC cm P w K mg base N qual scope f cdv A outer s H E) body t/\t { nx:=λ_ H'=>Q .non H',rt:=Q } (_L.xR N vs) H) :
  Go (As P w) A (.call (.ref f) args) (CR (CXd P w) outer P w H s Q E) s:=by
 have KX:K.In s.heap:=e0.mod.kin.keeps λb o e=>(e0.bs b o e).1;have lim:s.heap.NoLimit:=e0.mod.nolimit.keeps λb o e=>(e0.bs b o e).1;have hkind:∀ y∈ps.zip us,scope.names.lookup y.1=Ab .local \/ (scope.names.lookup y.1=Ab .cell/\((Hq (s.heap.objs.size+1) scope.names []).lookup y.1).isSome=true):=λ⟨n,v⟩ hy=>by
  rcases S.par n (Lp hy).1 with q|q
  .exact .inl q
  .exact .inr ⟨q,Jx _ _ _ (.inl q)⟩
 refine Ug hr.depth (KX _ _ lk) rfl S.co S.gen rfl (Wx KX hcd) (hb _ _ _ _ ?_);refine Qc S.kind hkind λenv he s1 x=>?_;subst he;refine⟨lim.keeps x.toInCall.keep,codeAny_func ?_⟩;obtain⟨t,ht,hq⟩:=hbody;have I:Inv (cxC cm P w K mg base N qual scope f cdv A outer s H E) [] (_L.xR N vs) H s1:=oJ S hr.hd e0 hl r x;refine Gn (ht [] s1 (_L.xR N vs) H _ I hq) (λfl s' hs=>?_) λe s' hs=>hs;have fin:∀ {σ' : _L.St} {H':Hp} {v:V} {u:Ac},Inv (cxC cm P w K mg base N qual scope f cdv A outer s H E) [] σ' H' s'->qI v u->Q v H'->CE outer P w H s Q u s':=
  λ{σ' H' v u} J rv q=>⟨v,H',J.os,J.bare,J.base,J.hok,rv,q⟩
 cases fl with
 |ret u =>
  obtain⟨v,σ',H',J,rv,q⟩:=hs;exact fin J rv q
 |next =>
  obtain⟨σ',H',J,q⟩:=hs;exact fin (v:=V.non) (u:=Er) J rfl q
 |brk =>
  obtain⟨_,_,_,q⟩:=hs;exact Ao q
 |cont =>
  obtain⟨_,_,_,q⟩:=hs;exact Ao q
def kH (K:Aj)(x:Av)(cdv:Ac):Prop:=∀ c T,Dq K x=Ab (c,T)->cdv=.ref c
theorem L3 {P:Bd}{w:Bt}{K:Aj}{mg:Av->Al Ac}{base:Bj}{cm:Ar}{k:Ai}{f:Af}{x qual:Av}{st:Fa}{fd:Ft}{N ps:Aa Av}(F:Fun K x qual st f fd)(S:FnScope N ps (qG st))
  (len:∀ vs H Q E,sp vs H Q E->vs.length=ps.length)
  (hbody:∀ (cdv:Ac) (A:Bo) (outer:Aa HT) (s:Ah) (H:Hp) (vs:Aa V) (Q:VK) (E:XK),fd.code=cdv/\Mod K mg base->RoomC cm k (A.deeper (Gj qual (qG st) s.heap.objs.size f cdv))->sp vs H Q E ->
   ∃ t,PSs (cxC cm P w K mg base N qual (qG st) f cdv A outer s H E) (zF st) t/\t { nx:=λ_ H'=>Q .non H',rt:=Q } (_L.xR N vs) H) :
  FnX P w K mg base cm (k+1) f fd ps sp:=by
 obtain⟨oc,od,kV,doc,pm,an,cdv,ct,osl,rfl,lk,hcd⟩:=F.ex;exact⟨len,λA outer s H args us vs Q E hr e0 hb r hsp=>ZR lk hcd S (len _ _ _ _ hsp) hr e0 hb r (hbody cdv A outer s H vs Q E ⟨rfl,e0.mod⟩ (hr.deeper _) hsp)⟩
def yG (n:Ai)(ds:Aa D):qE:=ds.map Ab++Cw (n-ds.length) none
def OP:Out->Res D
 |.rt d S=>.ok d S
 |.nx _ S=>.ok .non S
 |.ex c x _ S=>.ex c x S
 |_=>.bad
def qT (n:Ai)(g:DS):DF:=λds S=>OP (g (yG n ds) S)
def spR (K:Aj)(P:Hp)(α : Aa Af)(R:Res D)(Q:VK)(E:XK):Prop:=match R with
 |.ok d S'=>∀ v H' P' α',Rel K H' P' α' S'->qF P P'->α<+:α'->Rep K P' α' d v->Q v H'
 |.ex c _ S'=>∀ H' P' α',Rel K H' P' α' S'->qF P P'->α<+:α'->E c none H'
 |.bad=>Fh
def spD (K:Aj)(n:Ai)(F:DF):Sp:=λvs H Q E=>vs.length=n/\∃ P α ds S,Rel K H P α S/\qD K P α ds vs/\spR K P α (F ds S) Q E
theorem Q8 {K:Aj}{P:Hp}{α:Aa Af}{N:Aa Av}{ds:Aa D}(r:qD K P α ds vs):qZ K P α (_L.xR N vs) (yG N.length ds):=by
 refine⟨by simp[yG,_L.xR,r.length],λi d e=>?_⟩
 unfold yG at e;unfold _L.xR;by_cases hi:i<ds.length
 .rw[Cb (by simpa using hi),Dc] at e
  rw[Cb (by rw[Aq,<- r.length];exact hi),Dc]
  cases q:ds[i]? with
  |none=>rw[q] at e;cases e
  |some d' =>
   rw[q] at e;cases e;obtain⟨v,h1,h2⟩:=r.get q;exact⟨v,by rw[h1];rfl,h2⟩
 .rw[Di (by simpa using hi),Md] at e
  split at e <;> cases e
section
variable {P:Bd}{w:Bt}{K:Aj}{mg:Av->Al Ac}{base:Bj}{cm:Ar}
theorem sS {qual:Av}{scope:Em}{f:Af}{cdv:Ac}{A:Bo}{outer:Aa HT}{s:Ah}{H P':Hp}{E:XK}{N:Aa Av}{g:DS}{α:Aa Af}{ds:Aa D}{S':Sto}(hb:PSs (cxC cm P w K mg base N qual scope f cdv A outer s H E) body (tDS (cxC cm P w K mg base N qual scope f cdv A outer s H E) g))
  (r:Rel K H P' α S') (rp:qD K P' α ds vs) (af:spR K P' α (qT N.length g ds S') Q E):∃ t,PSs (cxC cm P w K mg base N qual scope f cdv A outer s H E) body t/\t { nx:=λ_ H'=>Q .non H',rt:=Q } (_L.xR N vs) H:=by
 refine⟨_,hb,P',α,yG N.length ds,S',r,Q8 rp,?_⟩;unfold qT at af;cases q:g (yG N.length ds) S' with
 |rt d S1=>rw[q] at af;exact λv H' P1 α1 r1 e1 e2 p1=>af v H' P1 α1 r1 e1 e2 p1
 |nx env S1=>rw[q] at af;exact λσ' H' P1 α1 r1 re1 e1 e2=>af .non H' P1 α1 r1 e1 e2 (by simp only[Rep])
 |bk env S1=>rw[q] at af;exact Ao af
 |ct env S1=>rw[q] at af;exact Ao af
 |ex c x env S1=>rw[q] at af;exact λu s' z=>r8 (A:=A) rfl z λH' P1 α1 r1 e1 e2=>af H' P1 α1 r1 e1 e2
 |bad=>rw[q] at af;exact Ao af
theorem fnX {x qual:Av}{st:Fa}{f:Af}{fd:Ft}{N ps:Aa Av}{k:Ai}{g:DS}(F:Fun K x qual st f fd)(S:FnScope N ps (qG st))
  (hbody:∀ (cdv:Ac) (A:Bo) (outer:Aa HT) (s:Ah) (H:Hp) (E:XK),fd.code=cdv/\Mod K mg base->RoomC cm k (A.deeper (Gj qual (qG st) s.heap.objs.size f cdv)) ->
   PSs (cxC cm P w K mg base N qual (qG st) f cdv A outer s H E) (zF st) (tDS (cxC cm P w K mg base N qual (qG st) f cdv A outer s H E) g)) :
  FnX P w K mg base cm (k+1) f fd ps (spD K ps.length (qT N.length g)):=by
 refine L3 F S (λvs H Q E h=>h.1) λcdv A outer s H vs Q E hc hr h=>?_;obtain⟨hl,P',α,ds,S',r,rp,af⟩:=h;exact sS (hbody cdv A outer s H E hc hr) r rp af
end
section
variable {X:Cx}{cm:Ar}{k:Ai}{f:Af}{fd:Ft}{ps:Aa Av}{F:DF}{x:Av}{p pos:Ex}{e:Br}{es:Aa Br}{fa:DA}{n:Ai}
def qN (n:Ai)(F:DF)(fa:DA):DE:=λenv S=>(fa env S).bind λds S1=>if ds.length=n then F ds S1 else .bad
def EX (X:Cx)(P:Hp)(α : Aa Af)(R:Res D):XK:=λc _ H'=>match R with
 |.ex c' _ S'=>c=c'/\∃ P' α',Rel X.K H' P' α' S'/\qF P P'/\α<+:α'
 |_=>Fh
theorem h9 {P:Hp}{α:Aa Af}{R:Res D}(af:qR X P α R Q):spR X.K P α R Q (EX X P α R):=by
 cases R with
 |ok d S'=>exact af
 |ex c x S'=>exact λH' P' α' r' e1 e2=>⟨rfl,P',α',r',e1,e2⟩
 |bad=>exact af
theorem fB {pins:Aa (Af × Ci)}{σ:_L.St}{H:Hp}{s:Ah}{P:Hp}{α:Aa Af}{R:Res D}(hF:(∃ c x S',R=.ex c x S')->Fn1 X)(I:Inv X pins σ H s)(af:qR X P α R Q)
  (h:Go (As X.prog X.w) X.A (.call u ⟨us,[]⟩) (CR (CXd X.prog X.w) X.stack X.prog X.w H s Q (EX X P α R)) s):Ap (As X.prog X.w) X.A (call u us) (EP X pins σ Q) X.xe s:=by
 refine Nd (Iq h λr s' hq=>?_);cases r with
 |error u =>
  have hq:CXd X.prog X.w X.stack H s (EX X P α R) u s':=hq;cases R with
  |ok d S'=>obtain⟨_,_,_,_,_,_,_,_,_,_,_,_,q⟩:=hq;exact Ao q
  |bad=>exact Ao af
  |ex c' x' S' =>
   have hG:=hF ⟨_,_,_,rfl⟩;obtain⟨a,c,H',rfl,I',fl,rfl,P',α',r',e1,e2⟩:=L0 I hG hq;exact af _ _ ⟨a,pins,σ,H',P',α',rfl,I',r',e1,e2,hG,fl⟩
 |ok fl =>
  cases fl with
  |ret u=>exact I.after hq
  |next=>exact Ao hq
  |brk=>exact Ao hq
  |cont=>exact Ao hq
theorem FV {pins:Aa (Af × Ci)}{σ:_L.St}{H:Hp}{s:Ah}{P:Hp}{α:Aa Af}{ds:Aa D}(G:FnX X.prog X.w X.K X.mg X.base cm k f fd ps (spD X.K n F))(hr:RoomC cm k X.A)(hb:vQ X.K fd ps [])(hF:Fn1 X)
  (I:Inv X pins σ H s) (r:Rel X.K H P α S) (rv:qH vs us) (rp:qD X.K P α ds vs) (hn:ds.length=n) (af:qR X P α (F ds S) Q):Ap (As X.prog X.w) X.A (call (.ref f) us) (EP X pins σ Q) X.xe s:=by
 have hsp:spD X.K n F vs H Q (EX X P α (F ds S)):=⟨by rw[<- rp.length];exact hn,P,α,ds,S,r,rp,h9 af⟩
 have hl:us.length=ps.length:=by rw[<- rv.length];exact G.len _ _ _ _ hsp
 have hb':=hb s us I.kIn (by rw[Gx];exact hl)
 rw[Gx] at hb';exact fB (λ_=>hF) I af (G.run X.A X.stack s H ⟨us,[]⟩ us vs Q _ hr I.env0 hb' rv hsp)
theorem lH {env:qE}{S:Sto}{P:Hp}{α:Aa Af}{ds:Aa D}{Ok:D->Sto->Prop}(h:qK X P α (if ds.length=n then F ds S1 else .bad) Ok):ds.length=n/\qK X P α (F ds S1) Ok:=by
 by_cases hn:ds.length=n
 .rw[Bb hn] at h;exact⟨hn,h⟩
 .rw[Bc hn] at h;exact Ao h
theorem GX (G:FnX X.prog X.w X.K X.mg X.base cm k f fd ps (spD X.K n F))(hr:RoomC cm k X.A)(hF:Fn1 X)(hg:Gl X x)(hm:X.mg x=Ab (.ref f))(hk:Fj X.K (.ref f)=true)(hb:vQ X.K fd ps [])
  (ha:PA X (e::es) (tDA X fa)) (hdb:(x == ("__debug__" : Av))=false:=by decide) (he:Bl (e::es) X.env=(false,eval e X.env)::Bl es X.env:=by rfl) (hpl:(Ge pos (Bl es X.env)).any (·.1)=false:=by rfl) :
  PE X (.Call (.Name x p) (e::es) [] pos) (tD X (qN n F fa)):=by
 intro pins s σ H Q I h;obtain⟨P,α,env,S,r,re,af⟩:=h;refine Gd (uC I hg hm ?_ hdb);refine Pw (h₀:=X.base) I.ok.mod.kin hk (thn (wK ha I r re af pos) λus s1 ⟨vs,H1,P1,α1,ds,S1,I1,rv,r1,re1,rp,e1,e2,af1⟩=>⟨I1.kIn,?_⟩) he hpl;obtain⟨hn,af2⟩:=lH (env:=env) (S:=S) af1;exact FV G hr hb hF I1 r1 rv rp hn (qR.base e1 e2 af2)
end
abbrev sR:Aa Ac:=[.type "ValueError",.type "Exception",.type "BaseException",.type "object"]
def HQ:Ac->Ar
 |.str _ _=>true
 |_=>false
def kE (K:Aj)(N:Af):Ar:=(match Ls N K with
 |some o=>match o.data with
  |.dict es _=>es.toList.all λe=>HQ e.key
  |_=>false
 |none=>false)&&decide (Ds K N "__init__" = Ab none)
theorem yA {K:Aj}{N:Af}(h:kE K N=true):x0 K N=true/\Ds K N "__init__" = Ab none:=by
 unfold kE at h;rw[Au,Ce] at h;refine⟨?_,h.2⟩;have h1:=h.1;unfold x0;cases e:Ls N K with
 |none=>rw[e] at h1;cases h1
 |some o =>
  rw[e] at h1;obtain⟨oc,od,dt,sl⟩:=o;cases dt with
  |dict es ep =>
   simp only at h1 ⊢;rw[Array.all_toList] at h1;refine Eq.trans (congrArg (λf=>Array.all es f) (funext λe=>?_)) h1;cases e.key <;> rfl
  |_=>cases h1
def sG (K:Aj)(C:Af)(f:Ac->Yg->Bn (Al Ac)->Ar):Ar:=match Ls C K with
 |some o=>(match o.data with|.cls cd=>f o.cls cd o.slots|_=>false)
 |none=>false
theorem eE {K:Aj}{f:Ac->Yg->Bn (Al Ac)->Ar}(h:sG K C f=true):∃ oc od cd sl,Ls C K=Ab ⟨oc,od,.cls cd,sl⟩/\f oc cd sl=true:=by
 unfold sG at h;cases e:Ls C K with
 |none=>rw[e] at h;exact Cr h
 |some o =>
  rw[e] at h;obtain⟨oc,od,dt,sl⟩:=o;cases dt with
  |cls cd=>exact⟨oc,od,cd,sl,rfl,h⟩
  |_=>exact Cr h
def fE (K:Aj)(C A:Af):Ar:=sG K C λoc cd sl=>sG K A λ_ ca _=>decide (oc=.type "type")&&(decide (cd.mro=.ref C::.ref A::sR)&&(!cd.hasDel&&(kE K cd.ns&&(kE K ca.ns&&(decide (sl.toList.length=6)&&decide (sl.toList[4]? = Ab (Ab (.builtin "ValueError.__new__"))))))))
inductive ExcO (h:Bj)(C:Af):Prop
 |mk (nm q:Av) (N:Af) (bs bm:Aa Ac) (hdct:Ar) (sn:Aa Av) (sub:Aa Ac) (ab:Ar) (col:Al Ar) (dd:Al Af) (k0 k1 k2 k3 k5:Al Ac) (mN:Av->Al Ac) (hC:h.get? C=Ab (excClassObj nm q C N bs bm hdct sn sub ab col dd k0 k1 k2 k3 k5 "ValueError.__new__")) (hN:h.Ns N mN) (hni:mN "__init__" = none) (T:OwnTail h sR bm):ExcO h C
theorem nP {β:Type}{l:Aa β}{n:Ai}(h:l.length=n+1):∃ a t,l=a::t/\t.length=n:=by
 cases l with
 |nil=>exact Zv h
 |cons a t=>exact⟨a,t,rfl,AaI h⟩
theorem six {β:Type}{l:Aa β}(h:l.length=6):∃ a b c d e f,l=[a,b,c,d,e,f]:=by
 obtain⟨a,t,e1,h⟩:=nP h;obtain⟨b,t2,e2,h⟩:=nP h;obtain⟨c,t3,e3,h⟩:=nP h;obtain⟨d,t4,e4,h⟩:=nP h;obtain⟨e,t5,e5,h⟩:=nP h;obtain⟨f,t6,e6,h⟩:=nP h;exact⟨a,b,c,d,e,f,by rw[e1,e2,e3,e4,e5,e6,Jq.mp h]⟩
theorem DZ {cd:Yg}{tl:Aa Ac}{k0 k1 k2 k3 k4 k5:Al Ac}{n:Ef}(hm:cd.mro=.ref C::tl)(hd:cd.hasDel=false)(hs:sl.toList=[k0,k1,k2,k3,k4,k5])(hn:sl.toList[4]? = Ab (Ab (.builtin n))) :
  (⟨.type "type",od,.cls cd,sl⟩:Ci)=excClassObj cd.name cd.qualname C cd.ns cd.bases tl cd.hasDict cd.slotNames cd.subclasses cd.abstract cd.collection od k0 k1 k2 k3 k5 n:=by
 rw[hs] at hn;cases hn;cases cd;cases sl;cases hm;cases hd;cases hs;rfl
theorem PZ {K:Aj}{h:Bj}{A:Af}{cd:Yg}(KI:K.In h)(e:Ls C K=Ab ⟨.type "type",od,.cls cd,sl⟩)(h2:cd.mro=.ref C::.ref A::sR)(h3:cd.hasDel=false)(h4:kE K cd.ns=true)(h6:sl.toList.length=6)(h7:sl.toList[4]? = Ab (Ab (.builtin "ValueError.__new__")))(T:OwnTail h sR (.ref A::sR)):ExcO h C:=by
 obtain⟨k0,k1,k2,k3,x,k5,es⟩:=six h6;exact⟨_,_,_,_,_,_,_,_,_,_,_,k0,k1,k2,k3,k5,_,(KI _ _ e).trans (congrArg Ab (DZ h2 h3 es h7)),.of_isNs (Xa KI (yA h4).1),Rl KI (yA h4).1 (yA h4).2,T⟩
theorem B0 {K:Aj}{h:Bj}{A:Af}(KI:K.In h)(z:fE K C A=true):ExcO h C:=by
 obtain⟨oc,od,cd,sl,e,z⟩:=eE z;obtain⟨qc,qd,ca,ql,e2,z⟩:=eE z;have a1:=Fc.mp z;have a2:=Fc.mp a1.2;have a3:=Fc.mp a2.2;have a4:=Fc.mp a3.2;have a5:=Fc.mp a4.2;have a6:=Fc.mp a5.2;rw[Bx a1.1] at e;exact PZ KI e (Bx a2.1) (Qt _▸a3.1) a4.1 (Bx a6.1) (Bx a6.2) (.own (KI _ _ e2) (.of_isNs (Xa KI (yA a5.1).1)) (Rl KI (yA a5.1).1 (yA a5.1).2) .base)
section
variable {X:Cx}{pos:Ex}{fa:DA}
def vX (c:Ac)(fa:DA):DS:=λenv S=>(fa env S).toS env λds S1=>if ds.length<=lim then .ex c .non env S1 else .bad
inductive GotAS (X:Cx)(pins:Aa (Af × Ci))(σ : _L.St)(env:qE)(P:Hp)(α : Aa Af)(us:Aa Ac)(s1:Ah)(k:Aa D->Sto->Out)(E:Ends):Prop
 |mk (vs:Aa V) (H1 P1:Hp) (α1:Aa Af) (ds:Aa D) (S1:Sto) (I:Inv X pins σ H1 s1) (rv:qH vs us) (r:Rel X.K H1 P1 α1 S1) (re:qZ X.K P1 α1 σ env) (rp:qD X.K P1 α1 ds vs) (e1:qF P P1) (e2:α<+:α1) (q:qX X P1 α1 (k ds S1) E):GotAS X pins σ env P α us s1 k E
theorem GU {es:Aa Br}{k:Aa D->Sto->Out}{pins:Aa (Af × Ci)}{s:Ah}{σ:_L.St}{H P:Hp}{α:Aa Af}{env:qE}{D:Ends}(he:PA X es (tDA X fa))(I:Inv X pins σ H s)(r:Rel X.K H P α S)
  (re:qZ X.K P α σ env) (af:qX X P α ((fa env S).toS env k) D) (pos:Ex) :
  Ap (As X.prog X.w) X.A (spliced (Ge pos (Bl es X.env))) (λus s1=>GotAS X pins σ env P α us s1 k D) X.xe s:=by
 have af1:qK X P α ((fa env S).bind λd S=>.ok d S) λd S=>qX X P α (k d S) D:=by
  have:=w6 af;cases q:fa env S <;> rw[q] at this <;> exact this
 exact thn (wK he I r re af1 pos) λu s1 ⟨vs,H1,P1,α1,ds,S1,I1,rv,r1,re1,rp,e1,e2,q⟩=>⟨vs,H1,P1,α1,ds,S1,I1,rv,r1,re1,rp,e1,e2,qX.base e1 e2 q⟩
theorem V2 {x:Av}{Ae:Af}{e₀:Br}{rest:Aa Br}{np cpos:Ex}(hc:X.calm=true)(hF:Fn1 X)(hg:Gl X x)(hm:X.mg x=Ab (.ref C))(hx:fE X.K C Ae=true)(ha:PA X (e₀::rest) (tDA X fa))
  (hdb:(x == ("__debug__" : Av))=false:=by decide) (he:Bl (e₀::rest) X.env=(false,eval e₀ X.env)::Bl rest X.env:=by rfl) (hpl:(Ge cpos (Bl rest X.env)).any (·.1)=false:=by rfl) :
  PS X (.Raise (Ab (.Call (.Name x np) (e₀::rest) [] cpos)) none pos) (tDS X (vX (.ref C) fa)):=by
 intro pins s σ H D I h;obtain⟨P,α,env,S,r,re,af⟩:=h;obtain⟨nm,qn,N,bs,tl,hdct,sn,sub,ab,col,dd,k0,k1,k2,k3,k5,mN,hC,hN,hni,T⟩:=B0 I.mod.kin hx;refine wpAny_Raise_call_subT (C:=C) (nm:=nm) (q:=qn) (N:=N) (bs:=bs) (bm:=tl) (hdct:=hdct) (sn:=sn) (sub:=sub) (ab:=ab) (col:=col) (dd:=dd) (k0:=k0) (k1:=k1) (k2:=k2) (k3:=k3) (k5:=k5)
  Qf (mN:=mN) (T.hasType Qf.hasBase) (I.ok.hd hc) (by rw[he];show (false||(Ge cpos (Bl rest X.env)).any (·.1))=false;rw[hpl];rfl) hni (uC I hg hm ⟨rfl,?_⟩ hdb)
 have run:=GU ha I r re af cpos;rw[he] at run ⊢;refine Vn (thn run λus s2 ⟨vs,H1,P1,α1,ds,S1,I1,rv,r1,re1,rp,e1,e2,q⟩=>?_);have hl:us.length=ds.length:=by rw[rp.length,rv.length]
 by_cases hz:ds.length<=lim
 .rw[Bb hz] at q
  refine⟨rfl,by rw[hl,<- zM];exact hz,I1.bk _ _ hC,hN.keeps I1.bk,T.keeps I1.bk,λh' e hm=>q _ _ ⟨e,pins,σ,H1,P1,α1,rfl,I1.kept (t':=s2.toks) hm.keeps,r1,qF.refl _,Bh _,hF,.new s2.heap us hm I1.stack λb o eb old=>?_⟩⟩
  obtain⟨o1,q1⟩:=Old.there I1 hF old;have q2:=hm.keeps b o1 q1;rw[eb] at q2;cases q2;exact q1
 .rw[Bc hz] at q;exact Ao q
end
section
variable {X:Cx}{pins:Aa (Af × Ci)}{σ : _L.St}{H:Hp}{s:Ah}
theorem oT {M:Mr}{A:Bo}{E:Ac->Ah->Prop}{base h:Bj}{env:HT}{outer:Aa HT}{L e:Af}{cls:Ac}{Q:Qm->Ah->Prop}
  (hfr:A.frames=Ab (env::outer)) (hf:env.frame=Ab L) (hkb:base.StaysIn h) (hl:h.FunFrames base (env::outer)) (hx:Uy h s.heap e cls args)
  (hQ:∀ h' a0,Heap.HeldW base (env::outer) e cls a0 L h'->s.heap.UpToSlots h'->Q () { s with heap:=h' }) : Ap M A (Uj (.ref e) env) Q E s:=by
 obtain⟨t,he,htn,ht⟩:=hx.there;have fresh:∀ b,h.get? b=none->base.get? b=none:=λb hb=>by
  cases hq:base.get? b with
  |none=>rfl
  |some o'=>have z:=hkb b o' hq;rw[hb] at z;cases z
 unfold Uj;simp only[hf];refine Ad (Du he rfl (x:=.none) rfl ?_);rw[Bc (by decide)]
 refine wpAny_entryW hfr (hl.of_keeps λb o hb _=>⟨o,hx.keeps b o hb,rfl⟩) hf he (λb o hb=>hx.keeps b o (hkb b o hb)) (fresh e hx.new) rfl (by simp) (a0:=.ref t) rfl λh' hN=>?_
 obtain⟨n1,n2,n3,n4⟩:=hN;exact hQ h' (.ref t) ⟨n1,fresh e hx.new,n2,n3⟩ n4
theorem VY {M:Mr}{A:Bo}{E:Ac->Ah->Prop}{c:Ac}{e:Af}{Q:Qm->Ah->Prop}(I:Inv X pins σ H s)(F:Fn1 X)(hA:A.frames=Ab X.stack)(f:FlyX X pins H c e s.heap)
  (hQ:∀ h' B a0,Ou B X.stack e c a0 h'->Inv X pins σ H { s with heap:=h' } -> Cv X pins H B h'->Q () { s with heap:=h' }) :
  Ap M A (Uj (.ref e) X.env) (λ_ s₂=>Ap M A (Yh (.ref e) none) Q E s₂) E s:=by
 have land:∀ (B:Bj) (a0:Ac) (h1:Bj),Cv X pins H B s.heap->Heap.HeldW B X.stack e c a0 X.env.locals h1->s.heap.UpToSlots h1->Ap M A (Yh (.ref e) none) Q E { s with heap:=h1 }:=λB a0 h1 cv hh up=>by
  refine wpAny_landsW (s:={ s with heap:=h1 }) hh λh2 f2 u2=>?_
  obtain⟨I2,cv2⟩:=Inv.fly I F cv f2.1 (up.trans u2);exact hQ h2 B a0 f2 I2 cv2
 cases f with
 |new g args hm hf hk =>
  obtain⟨k1,k2,k3⟩:=XG I hm hf hk;rw[F.2.1] at hA;exact oT hA F.2.2 k1 (by rw[<- F.2.1];exact k2) hm λh' a0 x1 x2=>land _ a0 h' k3 (F.2.1▸x1) x2
 |fly B a0 fl cv =>
  rw[F.2.1] at hA;exact wpAny_looks_onW hA F.2.2 (by rw[<- F.2.1];exact fl) λh' x1 x2=>land B a0 h' cv (by rw[F.2.1];exact x1) x2
theorem cZ {B:Bj}{c a0:Ac}{e:Af}(I:Inv X pins σ H s)(F:Fn1 X)(fl:Ou B X.stack e c a0 s.heap)(cv:Cv X pins H B s.heap):¬ Old X pins H e/\e ∉ frs X.stack/\∃ ob,s.heap.get? e=Ab ob/\ob.cls=c:=by
 obtain⟨oe,vs,he,hc,hd,_⟩:=fl.first
 have nf:e ∉ frs X.stack:=λz=>by
  obtain⟨_,o,ho,hn⟩:=I.stack.mem z;rw[he] at ho;cases ho;exact hn vs hd
 refine⟨λz=>?_,nf,oe,he,hc⟩;have q:=cv e oe he z nf;rw[fl.2.1] at q;cases q
theorem Inv.track {e:Af}{c:Ac}{ob:Ci}(I:Inv X pins σ H s)(F:Fn1 X)(no:¬ Old X pins H e)(nf:e ∉ frs X.stack)(he:s.heap.get? e=Ab ob)(hc:ob.cls=c):Inv X pins σ (upd H e (rH e c)) s:=by
 have hn:H e=none:=by
  cases q:H e with
  |none=>rfl
  |some u=>exact absurd (.inr (.inl (by rw[q];intro z;cases z))) no
 have nL:e≠X.env.locals:=λz=>nf (F.mem.mpr (.inl z));have n0:∀ b o,X.s₀.heap.get? b=Ab o->b≠e:=λb o q z=>no (.inl ⟨o,z▸q⟩);refine⟨I.ok,I.os,I.bare,⟨I.base.keep,I.base.slot,λb o q n hx=>?_,I.base.there,λb xs q=>?_,λb o xs q=>?_,λb ps q=>?_⟩,I.loc,I.cell,?_,λx k q=>?_,λp hp=>?_,λb u q=>?_,I.len⟩
 .rw[qJ (n0 b o q)];exact I.base.free b o q n hx
 .have z:=I.base.tups b xs q
  rw[qJ (qP z hn)];exact z
 .have z:=I.base.frzs b o xs q
  rw[qJ (qP z hn)];exact z
 .obtain⟨m,z⟩:=I.base.tbls b ps q
  exact⟨m,by rw[qJ (qP z hn)];exact z⟩
 .rw[qJ (El nL)];exact I.free
 .have z:k≠e:=λz=>no (.inr (.inr (.inr ⟨x,z▸q⟩)))
  rw[qJ z];exact I.freeC x k q
 .obtain⟨a1,a2,a3,a4,a5⟩:=I.pin p hp
  have z:p.1≠e:=λz=>no (.inr (.inr (.inl ⟨p,hp,z⟩)));exact⟨a1,by rw[qJ z];exact a2,a3,a4,a5⟩
 .by_cases hb:b=e
  .subst hb
   rw[qQ] at q;cases q;refine⟨⟨ob,he,hc⟩,⟨ob,he⟩,λh1 h2 ⟨o,q1,q2⟩ k=>⟨o,k o q1,q2⟩⟩
  .rw[qJ hb] at q
   exact(I.hok b u q).stay (λ_ _ _ z=>z) (λk z=>by rw[qJ (qP z hn)];exact z) λk xs z=>by rw[qJ (qP z hn)];exact z
theorem Inv.gone {i t':Ai}{n:Av}{h':Bj}(I:Inv X pins σ H s)(hN:X.N.Nodup)(hi:X.N[i]? = Ab n){m:Av->Al Ac}{v:Al Ac}(hl:∀ (j:Ai) (y:Av) (w:V),X.N[j]? = Ab y->σ[j]? = Ab (Ab w)->Vis X.env.scope y->∃ u,qI w u/\MQ X.env s.heap m y u)(hv:h'.Ns X.env.locals λy=>if y=n then v else m y)(sb:Fd X.env.locals s.heap h') :
  Inv X pins (σ.set i none) H { s with heap:=h',toks:=t' }:=by
 have neL:∀ b o,X.s₀.heap.get? b=Ab o->b≠X.env.locals:=λb o e=>Bv (Bm (Ax e) I.ok.above);have kp:∀ b o,b≠X.env.locals->s.heap.get? b=Ab o->h'.get? b=Ab o:=λb o n e=>(sb.2 b n).trans e;refine⟨I.ok,I.os,I.bare,⟨λb o e n hb hx=>kp b o (neL b o e) (I.base.keep b o e n hb hx),λb o e n hb hx=>?_,I.base.free,λb o e hx=>?_,I.base.tups,I.base.frzs,I.base.tbls⟩,⟨_,hv,λj y w e1 e2 e3=>?_⟩,λx c e=>?_,I.free,I.freeC,λp hp=>?_,λb u q=>?_,by simpa using I.len⟩
 .obtain⟨sl,q⟩:=I.base.slot b o e n hb hx
  exact⟨sl,kp b _ (neL b o e) q⟩
 .obtain⟨o',q⟩:=I.base.there b o e hx
  exact⟨o',kp b o' (neL b o e) q⟩
 .have hj:i≠j:=λz=>by
   subst z;by_cases hs:i<σ.length
   .rw[Ed hs] at e2;cases e2
   .rw[Nq (by simp;omega)] at e2;cases e2
  rw[Dx hj] at e2;obtain⟨u,r,l⟩:=hl j y w e1 e2 e3;refine⟨u,r,?_⟩;rcases l with⟨k,z⟩|⟨k,c,z,zc⟩
  .refine .inl ⟨k,?_⟩
   have:y≠n:=λz=>hj (fQ hN hi (z▸e1));simp[this,z]
  .exact .inr ⟨k,c,z,zc.sameBut sb (I.cne y c z)⟩
 .obtain⟨w,z⟩:=I.cell x c e
  exact⟨w,z.sameBut sb (I.cne x c e)⟩
 .obtain⟨e,n,ne,nf,d⟩:=I.pin p hp
  exact⟨kp p.1 p.2 ne e,n,ne,nf,d⟩
 .refine(I.hok b u q).stay (λc w hc z=>kp c w ?_ z) (λ_ z=>z) λ_ _ z=>z
  rintro rfl;rcases hc with rfl|hc
  .rw[I.free] at q;cases q
  .rw[I.free] at hc;cases hc
theorem a8 {A:Bo}{E:Ac->Ah->Prop}{i:Ai}{n:Av}{pos:Ex}{Q:Qm->Ah->Prop}(I:Inv X pins σ H s)(hN:X.N.Nodup)(hi:X.N[i]? = Ab n)(hlo:X.env.scope.names.lookup n=Ab .local)
  (h:∀ s',Inv X pins (σ.set i none) H s'->Q () s'):Ap M A (do Wt X.env n .none;unbindBehindTheSuite X.env n pos) Q E s:=by
 obtain⟨m,hm,hl⟩:=id I.loc;exact wpAny_nameGoes_keeps hlo hm (by rw[I.ok.kind];rfl) λh' v hv sb=>h _ (Inv.gone I hN hi hl hv sb)
end
abbrev Cx.tryIn (X:Cx)(E:Ac->Ah->Prop)(pn:Aa (Af × Ci)):Cx:={ X with xe:=E,pn:=pn }
abbrev Cx.suite (X:Cx)(e:Af):Cx:=Cx.re X (X.A.mark (Ab (.ref e))) false λ_ _=>Fh
def fT (N i:Ai)(cs:Aa Ac)(f g:DS):DS:=λenv S=>match f env S with
 |.ex c x env1 S1=>if cs.contains c then (match g ((Cw N none).set i (Ab (.exn c))) S1 with
   |.rt d S2=>.rt d S2
   |.nx env2 S2=>.nx (env2.set i none) S2
   |_=>.bad) else .bad
 |o=>o
section
variable {X:Cx}{pins:Aa (Af × Ci)}{σ : _L.St}{H:Hp}{s:Ah}
theorem Inv.inTry (I:Inv X pins σ H s)(E:Ac->Ah->Prop):Inv (Cx.tryIn X E (X.pn++pins)) [] σ H s:=
 ⟨⟨I.ok.mod,I.ok.kind,I.ok.glob,I.ok.blt,I.ok.above,I.ok.inj,I.ok.has,I.ok.cab,I.ok.hd,I.ok.frames,I.ok.stk,I.ok.exf,I.ok.bs,I.ok.bsz,I.ok.noex,I.ok.exfs,I.ok.funs,I.ok.frf⟩,I.os,I.bare,I.base,I.loc,I.cell,I.free,I.freeC,λp hp=>I.pin p (by simpa using hp),I.hok,I.len⟩
theorem Inv.outTry {E:Ac->Ah->Prop}(I:Inv (Cx.tryIn X E (X.pn++pins)) more σ H s):Inv X pins σ H s:=
 ⟨⟨I.ok.mod,I.ok.kind,I.ok.glob,I.ok.blt,I.ok.above,I.ok.inj,I.ok.has,I.ok.cab,I.ok.hd,I.ok.frames,I.ok.stk,I.ok.exf,I.ok.bs,I.ok.bsz,I.ok.noex,I.ok.exfs,I.ok.funs,I.ok.frf⟩,I.os,I.bare,I.base,I.loc,I.cell,I.free,I.freeC,λp hp=>I.pin p (Dh _ hp),I.hok,I.len⟩
theorem SP.outTry {E:Ac->Ah->Prop}{D:Ends}{f:Flow}{s':Ah}(h:SP (Cx.tryIn X E (X.pn++pins)) [] D f s'):SP X pins D f s':=by
 cases f with
 |next=>obtain⟨σ',H',I,q⟩:=h;exact⟨σ',H',Inv.outTry I,q⟩
 |brk=>obtain⟨σ',H',I,q⟩:=h;exact⟨σ',H',Inv.outTry I,q⟩
 |cont=>obtain⟨σ',H',I,q⟩:=h;exact⟨σ',H',Inv.outTry I,q⟩
 |ret u=>obtain⟨v,σ',H',I,r,q⟩:=h;exact⟨v,σ',H',Inv.outTry I,r,q⟩
theorem FlyX.outTry {E:Ac->Ah->Prop}{c:Ac}{e:Af}{h:Bj}(f:FlyX (Cx.tryIn X E (X.pn++pins)) more H c e h):FlyX X pins H c e h:=by
 have old:∀ b,Old X pins H b->Old (Cx.tryIn X E (X.pn++pins)) more H b:=λb o=>by
  rcases o with o|o|⟨p,hp,z⟩|o
  .exact .inl o
  .exact .inr (.inl o)
  .exact .inr (.inr (.inl ⟨p,Dh _ hp,z⟩))
  .exact .inr (.inr (.inr o))
 cases f with
 |new g args hm hf hk=>exact .new g args hm hf λb o e q=>hk b o e (old b q)
 |fly B a0 fl cv=>exact .fly B a0 fl λb o e q n=>cv b o e (old b q) n
theorem WL {K:Aj}{P:Hp}{α:Aa Af}{n:Ai}(h:σ.length=n):qZ K P α σ (Cw n none):=by
 refine⟨by simp[h],λi d e=>?_⟩
 rw[Md] at e
 split at e <;> cases e
theorem qZ.unset {K:Aj}{P:Hp}{α:Aa Af}{env:qE}(re:qZ K P α σ env)(i:Ai):qZ K P α (σ.set i none) (env.set i none):=by
 refine⟨by simp[re.1],λj d e=>?_⟩
 by_cases hj:i=j
 .subst hj
  by_cases hi:i<env.length
  .rw[Ed hi] at e;cases e
  .rw[Nq (by simp;omega)] at e;cases e
 .rw[Dx hj] at e ⊢
  exact re.2 j d e
end
section
variable {X:Cx}{pos:Ex}{f g:DS}
theorem L7 {pins:Aa (Af × Ci)}{D:Ends}{c:Ac}{e C0:Af}{s':Ah}{σ:_L.St}{H P:Hp}{α:Aa Af}{x n:Av}{i:Ai}{b₀:Fa}{suite:Aa Fa}{hpos:Ex}
  (F:Fn1 X) (hg:Gl X x) (hm:X.mg x=Ab (.ref C0)) (hcs:∀ c∈cs,Jf X.K c (.ref C0)=Ab true) (hN:X.N.Nodup) (hi:X.N[i]? = Ab n) (hlo:X.env.scope.names.lookup n=Ab .local)
  (hs:∀ e,PSs (Cx.suite X e) (b₀::suite) (tDS (Cx.suite X e) g)) (hc:cs.contains c=true) (I:Inv X pins σ H s') (r:Rel X.K H P α S1) (fl:FlyX X pins H c e s'.heap)
  (af:qX X P α (match g ((Cw X.N.length none).set i (Ab (.exn c))) S1 with|.rt d S2=>.rt d S2|.nx env2 S2=>.nx (env2.set i none) S2|_=>.bad) D) (hdb:(x == ("__debug__" : Av))=false) :
  Ap (As X.prog X.w) X.A (Uj (.ref e) X.env) (λ_ s₂=>Ap (As X.prog X.w) X.A (Yh (.ref e) none) (λ_ s₃ =>
   Ap (As X.prog X.w) X.A (handleBy (.ref e) X.env [.ExceptHandler (Ab (.Name x np)) (Ab n) (b₀::suite) hpos]) (SP X pins D) X.xe s₃) X.xe s₂) X.xe s':=by
 have hcs':Jf X.K c (.ref C0)=Ab true:=hcs c (by simpa using hc)
 have Z:∀ {σ : _L.St} {H:Hp} {s:Ah},Inv X pins σ H s->Inv (Cx.suite X e) pins σ H s:=λI=>Inv.re I _ false _ I.ok.frames λz=>nomatch z;refine VY I F I.ok.frames fl λh5 B a0 f5 I5 cv5=>?_;refine wpAny_handleBy_cons (codeAny_handlers_test (A:=X.A.mark (Ab (.ref e))) (uC (X:=Cx.suite X e) (Z I5) hg hm ?_ hdb)) (by intro q;cases q)
 obtain⟨no5,nf5,ob5,he5,hc5⟩:=cZ I5 F f5 cv5;refine(PySem.W.exm_one I5.kIn (by subst hc5;exact(PySem.W.Looks.ld he5).andThen .now) hcs').at ?_
 refine codeAny_handlers_suite_as ?_;refine lands_againW (s:={ s' with heap:=h5 }) f5 λh6 f6 u6=>?_
 obtain⟨I6,cv6⟩:=Inv.fly I5 F cv5 f6.1 u6;obtain⟨no6,nf6,ob6,he6,hc6⟩:=cZ I6 F f6 cv6;have J6:Inv X pins σ (upd H e (rH e c)) { s' with heap:=h6 }:=Inv.track I6 F no6 nf6 he6 hc6
 have hn:H e=none:=by
  cases q:H e with
  |none=>rfl
  |some u=>exact absurd (.inr (.inl (by rw[q];intro z;cases z))) no6
 obtain⟨r1,sP⟩:=r.pure (o:=rH e c) hn;refine j6 (X:=Cx.suite X e) (v:=.ref e) (Z J6) hN hi (.inl hlo) rfl (λs7 I7=>?_) (.inr hlo);have re7:qZ X.K (upd P e (rH e c)) α (σ.set i (Ab (.ref e))) ((Cw X.N.length none).set i (Ab (.exn c))):=(WL I.len).set i (by simp only[Rep];exact⟨e,rfl,qQ⟩)
 refine Gn (hs e pins s7 _ _ { nx:=λσ' H'=>D.nx (σ'.set i none) H',rt:=D.rt } I7 ⟨_,α,_,S1,r1,re7,?_⟩) (λfl s8 q=>?_) λ_ _ z=>Ao z
 .cases q:g ((Cw X.N.length none).set i (Ab (.exn c))) S1 with
  |rt d S2=>rw[q] at af;exact λv H' P' α' r' e1 e2 rp=>af v H' P' α' r' (sP.trans e1) e2 rp
  |nx env2 S2=>rw[q] at af;exact λσ' H' P' α' r' re' e1 e2=>af _ H' P' α' r' (qZ.unset re' i) (sP.trans e1) e2
  |bk env2 S2=>rw[q] at af;exact Ao af
  |ct env2 S2=>rw[q] at af;exact Ao af
  |ex c' x' env2 S2=>rw[q] at af;exact Ao af
  |bad=>rw[q] at af;exact Ao af
 .cases fl with
  |next =>
   obtain⟨σ',H',I8,q⟩:=q;exact a8 (Inv.unre I8 I.ok.frames I.ok.hd) hN hi hlo λs9 I9=>⟨_,H',I9,q⟩
  |brk =>
   obtain⟨_,_,_,q⟩:=q;exact Ao q
  |cont =>
   obtain⟨_,_,_,q⟩:=q;exact Ao q
  |ret u =>
   obtain⟨v,σ',H',I8,rv,q⟩:=q;exact a8 (Inv.unre I8 I.ok.frames I.ok.hd) hN hi hlo λs9 I9=>⟨v,_,H',I9,rv,q⟩
set_option tactic.hygienic true in
theorem NN {x n:Av}{C0:Af}{i:Ai}{b₀:Fa}{suite:Aa Fa}{np hpos:Ex}(F:Fn1 X)(hb:∀ E pn,Og (As X.prog X.w) X.A X.env E->PSs (Cx.tryIn X E pn) body (tDS (Cx.tryIn X E pn) f))
  (hs:∀ e,PSs (Cx.suite X e) (b₀::suite) (tDS (Cx.suite X e) g)) (hg:Gl X x) (hm:X.mg x=Ab (.ref C0)) (hcs:∀ c∈cs,Jf X.K c (.ref C0)=Ab true) (hN:X.N.Nodup) (hi:X.N[i]? = Ab n:=by rfl) (hlo:X.env.scope.names.lookup n=Ab .local:=by rfl)
  (hdb:(x == ("__debug__" : Av))=false:=by decide):PS X (.Try body [.ExceptHandler (Ab (.Name x np)) (Ab n) (b₀::suite) hpos] [] [] pos) (tDS X (fT X.N.length i cs f g)):=by
 intro pins s σ H D I h;obtain⟨P,α,env,S,r,re,af⟩:=h;refine wpAny_Try_except ?_;refine Gn (hb _ (X.pn++pins) (PassesOwn.looking (K:=λe s₂=>Ap (As X.prog X.w) X.A (Yh e none) (λ_ s₃=>Ap (As X.prog X.w) X.A (handleBy e X.env [.ExceptHandler (Ab (.Name x np)) (Ab n) (b₀::suite) hpos]) (SP X pins D) X.xe s₃) X.xe s₂) (E₁:=X.xe))
  [] s σ H D (Inv.inTry I _) ⟨P,α,env,S,r,re,?_⟩) (λfl s1 q=>?_) λ_ _ z=>z
 .unfold fT at af
  cases q:f env S with
  |rt d S2=>rw[q] at af;exact af
  |nx env2 S2=>rw[q] at af;exact af
  |bk env2 S2=>rw[q] at af;exact af
  |ct env2 S2=>rw[q] at af;exact af
  |bad=>rw[q] at af;exact af
  |ex c x' env2 S2 =>
   rw[q] at af;dsimp only at af;intro u s' k;obtain⟨e,pins',σ',H',P',α',rfl,I',r',e1,e2,F',fl⟩:=k
   split at af
   .rename_i hc
    exact L7 F hg hm hcs hN hi hlo hs hc (Inv.outTry I') r' (FlyX.outTry fl) (qX.base e1 e2 af) hdb
   .exact Ao af
 .have q':=SP.outTry q
  cases fl with
  |next=>exact Lo q'
  |brk=>exact q'
  |cont=>exact q'
  |ret u=>exact q'
end
end _D
namespace _D
open PySem PySem.Spec PyProof.Rows _L PySem.W
variable {R:Sa->Ah->Prop}
structure ExnK (K:Aj)(C:Af):Prop where
 ga:findIn K (.ref C) "__getattribute__" = Ab (Ab (.builtin "BaseException.__getattribute__"))
 hk:findIn K (.ref C) "__getattr__" = Ab none
 cl:findIn K (.ref C) "__class__" = Ab (Ab (.builtin "object.__class__"))
 sp:specialIn K (.builtin "object.__class__") "__get__" = Ab (Ab (.builtin "getset_descriptor.__get__"))
 tk:takesIn K (.builtin "object.__class__")=Ab true
 mo:mroIn K C (.type "object")=Ab true
 mb:mroIn K C (.type "BaseException")=Ab true
 isC:(clsIn K C).isSome=true
section
variable {prog:Bd}{w:Bt}{A:Bo}{E:Ac->Ah->Prop}{s:Ah}{K:Aj}{x C:Af}
abbrev vR (x C:Af)(h:Bj):Prop:=∃ ob,h.get? x=Ab ob/\ob.cls=.ref C
theorem vR.type {M:Mr}{h:Bj}(I:vR x C h):Looks M h (typeOf (.ref x)) (.ref C):=by
 obtain⟨ob,e,c⟩:=I;rw[<- c];exact(Looks.ld e).andThen .now
theorem VC {M:Mr}{h:Bj}(X:K.In h)(Z:ExnK K C):Looks M h (AaJ (.ref x) (.ref C) "__class__") (.bind (.builtin "getset_descriptor.__get__") (.builtin "object.__class__")):=by
 have l1:=Xn (M:=M) X Z.cl;have l2:Looks M h (AaG (Ab (.builtin "object.__class__"))) (Ab (.builtin "getset_descriptor.__get__")):=looks_specialIn X Z.sp;have l3:=looks_takesIn (M:=M) X Z.tk;have l4:Looks M h (Xo (Ab (.builtin "object.__class__")) (Ab (.builtin "getset_descriptor.__get__"))) (Ab (.builtin "getset_descriptor.__get__",.builtin "object.__class__")):=l3.andThen .now;exact l1.andThen (l2.andThen (l4.andThen (Looks.tag .now)))
theorem B1 {tp:Ac}(X:K.In s.heap)(Z:ExnK K C)(I:vR x C s.heap)(h:R (.ok (.ret (.ref C))) s) :
  Go (As prog w) A (.call (.builtin "getset_descriptor.__get__") ⟨[.builtin "object.__class__",.ref x,tp],[]⟩) R s:=by
 have LT:=vR.type (M:=As prog w) I;have LM:=looks_mroIn (M:=As prog w) X Z.mo;cases s;refine Ku KF.slot_gs.plain KF.entry_gs (KF.slot_gs.check _ _ _ _ _ _ _ _ KF.type_class (KF.args_gs _ _ _) ?_);unfold Hl.«getset_descriptor.__get__» Xp;rw[dga_obj];refine Ad (Ak ?_);unfold Wg Tf Tt isInstance;simp only[KF.owner_class]
 repeat lk
 refine⟨Px _ (by decide +kernel),EQ KF.entry_class ?_⟩
 unfold Hl.«object.__class__» shownTypeOf
 repeat lk
 exact h
theorem NY {tk:Pi}(X:K.In s.heap)(Z:ExnK K C)(I:vR x C s.heap)(h:R (.ok (.ret (.ref C))) s) :
  Go (As prog w) A (.call (.builtin "BaseException.__getattribute__") ⟨[.ref x,.str "__class__" tk],[]⟩) R s:=by
 have LT:=vR.type (M:=As prog w) I;have LM:=looks_mroIn (M:=As prog w) X Z.mb;have LF:=VC (M:=As prog w) (x:=x) X Z;have hk:builtinKind "BaseException.__getattribute__" = Ab .slot:=by decide +kernel
 have hsp:splitId "BaseException.__getattribute__" = Ab ("BaseException","__getattribute__"):=by decide +kernel
 have chk:∀ (A:Bo) (Q:Qm->Ah->Prop) (E:Ac->Ah->Prop),Q () s->Ap (As prog w) A (Se "BaseException.__getattribute__" ⟨[.ref x,.str "__class__" tk],[]⟩) Q E s:=by
  intro A Q E hq;have ha:=PySem.F.args_bexc_ga (.ref x) (.str "__class__" tk);simp only[Se,hk,hsp];unfold isInstance;refine Ad (Ad (LT.here (LM.here ?_)))
  repeat (any_goals (first|assumption|wp_step))
 refine Ku Sn.ga.plain PySem.F.entry_bexc_ga (chk _ _ _ ?_);cases s;unfold Hl.«object.__getattribute__»;refine Ad (Lu (show slotArgs "__getattribute__" 1 ⟨[.ref x,.str "__class__" tk],[]⟩=pure (.ref x,[.str "__class__" tk]) from by kernel_rfl) ?_)
 refine Ad (Ak (Ad (LT.at (Ad (LF.at ?_)))));show Ap _ _ (Qu _ _ _ _) _ _ _;unfold Qu;dsimp only;exact Ad (Ct (Nd (B1 X Z I (Ak h))))
theorem ZQ {Q:Al Ac->Ah->Prop}(X:K.In s.heap)(Z:ExnK K C)(I:vR x C s.heap)(h:Q (Ab (.ref C)) { s with toks:=s.toks+1 }) : Ap (As prog w) A (getAttr? (.ref x) "__class__") Q E s:=by
 have LT:=vR.type (M:=As prog w) I;have L1:=Xn (M:=As prog w) X Z.ga;have lk2:=Xn (M:=As prog w) X Z.hk;unfold getAttr? getAttrBy? getAttrBy;cases s;refine Ad (wpAny_mkText (Ad (Jb (Ct (Ad (LT.at (Ad (L1.at ?_))))))));dsimp only;have hx2:(Aa7 "BaseException.__getattribute__" == Aa7 "object.__getattribute__")=false:=by decide +kernel
 rw[hx2,Kq,Bc Gc];unfold getAttrByItsOwn hookBefore;rw[Bb (show onTheHeap (.ref C)=true from rfl)]
 refine Ad (lk2.at (Ad (Jb (Ct ?_))));unfold callGetattribute;rw[Hg,Bc Gc];unfold boundAndCalled;refine Ad (Lu (Sn.ga.bind (.ref x)) ?_);refine Nd (NY X Z I ?_);show Ap _ _ (handedOut (.ref C)) _ _ _;exact Ak (Ak h)
set_option tactic.hygienic true in
theorem rS (Z:ExnK K C):KitX K (.ref x) (.ref C) (vR x C) where
 ty:=λ_ _ _ I=>I.type
 it:=λM h X _=>by
  have z:=Z.isC;unfold clsIn at z
  split at z
  .rename_i ho
   intro A' Q' E' s' k q;unfold isType loadHead;exact Ad (wpAny_loadPart (k _ _ (X _ _ ho)) (Ak q))
  .cases z
 ne:=λh tp dd its n sl X htp=>by
  have z:=Z.isC;unfold clsIn at z
  split at z
  .rename_i ho
   cases hq:(Bs C == Bs tp) with
   |false=>rfl
   |true =>
    obtain rfl:C=tp:=Value.ref.inj (Pa.mp hq);have y:=(X _ _ ho).symm.trans htp;cases y
  .cases z
 ca:=λX I k=>ZQ X Z I k
end
end _D
namespace _D
open PySem PySem.Spec PyProof.Rows _L
variable {cells:Aa (Av × Af)}{α α1:Aa Af}{ds:Aa D}{E:Ac->Ah->Prop}{a C:Af}{s:Ah}{K:Aj}{w:Bt}{o:Ci}{H P P1:Hp}{S S1:Sto}
theorem gJ {α:Type}{t:Oa α}{Q Q':α->Ah->Prop}{M:Mr}{A:Bo}(h:Ap M A t Q (λ_ _=>Fh) s)(hQ:∀ a s,Q a s->Q' a s):Ap M A t Q' E s:=Gn h hQ λ_ _ x=>x.elim
def j7 (ifs:Aa Br)(env:HT):Oa Ar:=forIn ifs true λc r=>if r=true then do let ok <- AaK c env (eval c env);pure (Jz ok) else pure (Jz r)
def PTs (X:Cx)(ifs:Aa Br)(t:DT):Prop:=
 ∀ (pins:Aa (Af × Ci)) (s:Ah) (σ : _L.St) (H:Hp) (Q:Ar->Hp->Prop),Inv X pins σ H s->tDT X t σ H Q->Ap (As X.prog X.w) X.A (j7 ifs X.env) (TP X pins σ Q) X.xe s
def xM:DT:=λ_ S=>.ok true S
section
variable {X:Cx}
theorem bX {prog:Bd}{A:Bo}{env:HT}{Q:Ar->Ah->Prop}:∀ (ifs:Aa Br) {s:Ah},Q false s ->
  Ap (As prog w) A (forIn ifs false λc r=>if r=true then do let ok <- AaK c env (eval c env);pure (Jz ok) else pure (Jz r)) Q E s
 |[],s,h=>by rw[Mn];exact Ak h
 |c::cs,s,h=>by
  rw[Lv];rw[Bc (by simp)]
  refine Ad (Ak ?_);exact bX cs h
theorem PR:PTs X [] xM:=λpins s σ H Q I ⟨P,α,env,S,r,re,af⟩=>by
 unfold j7;rw[Mn];exact Ak ⟨H,I,af H P α r (qF.refl _) (Bh _)⟩
theorem V5 {c:Br}{cs:Aa Br}{t u:DT}(h1:PT X c (tDT X t))(h2:PTs X cs u):PTs X (c::cs) (u7 t u):=λpins s σ H Q I ⟨P,α,env,S,r,re,af⟩=>by
 unfold j7;rw[Lv,Bb rfl];refine Ad (Ad (thn (p8 (λQ' q=>h1 pins s σ H Q' I q) r re af) λb s1 ⟨H1,P1,α1,S1,I1,r1,re1,e1,e2,af1⟩=>Ak ?_));cases b with
 |true=>exact h2 pins s1 σ H1 Q I1 ⟨P1,α1,env,S1,r1,re1,wV.base e1 e2 af1⟩
 |false=>exact bX cs ⟨H1,I1,af1 H1 P1 α1 r1 e1 e2⟩
theorem OQ {e:Br}{f:DE}{pins:Aa (Af × Ci)}{σ:_L.St}{env:qE}{d:D}(he:PE X e (tD X f))(I:Inv X pins σ H s)(r:Rel X.K H P α S)(re:qZ X.K P α σ env)(q:f env S=.ok d S1) :
  Ap (As X.prog X.w) X.A (eval e X.env) (λu s1=>∃ v H1 P1 α1,Got X pins σ env P α u s1 v H1 P1 α1 d S1) X.xe s:=by
 refine thn (zK (g:=λd S=>Res.ok d S) (Ok:=λd' S'=>d'=d/\S'=S1) he I r re (by rw[q];exact⟨rfl,rfl⟩)) λu s1 ⟨v,H1,P1,α1,d',S',G,h1,h2⟩=>?_
 have e1:d'=d:=h1;have e2:S'=S1:=h2;subst e1;subst e2;exact⟨v,H1,P1,α1,G⟩
theorem A6 {ifs:Aa Br}{t:DT}{pins:Aa (Af × Ci)}{σ:_L.St}{env:qE}{b:Ar}(he:PTs X ifs t)(I:Inv X pins σ H s)(r:Rel X.K H P α S)(re:qZ X.K P α σ env)(q:t env S=.ok b S1) :
  Ap (As X.prog X.w) X.A (j7 ifs X.env) (λb' s1=>b'=b/\∃ H1 P1 α1,Inv X pins σ H1 s1/\Rel X.K H1 P1 α1 S1/\qZ X.K P1 α1 σ env/\qF P P1/\α<+:α1) X.xe s:=by
 refine thn (he pins s σ H (λb' H1=>b'=b/\∃ P1 α1,Rel X.K H1 P1 α1 S1/\qZ X.K P1 α1 σ env/\qF P P1/\α<+:α1) I ⟨P,α,env,S,r,re,?_⟩) λb' s1 ⟨H1,I1,e,P1,α1,q1,q2,q3,q4⟩=>⟨e,H1,P1,α1,I1,q1,q2,q3,q4⟩;rw[q];exact λH' P' α' r' e1 e2=>⟨rfl,P',α',r',re.mono e1 e2,e1,e2⟩
theorem OR {tg:Br}{g:DG}{pins:Aa (Af × Ci)}{σ:_L.St}{env env1:qE}{d:D}{v:V}{u:Ac}(hg:PG X tg (tDG X g))(I:Inv X pins σ H s)(r:Rel X.K H P α S)(re:qZ X.K P α σ env)(rv:qI v u)
  (rp:Rep X.K P α d v) (q:g d env S=.ok env1 S1) :
  Ap (As X.prog X.w) X.A (assign tg X.env u) (λ_ s1=>∃ σ1 H1 P1 α1,Inv X pins σ1 H1 s1/\Rel X.K H1 P1 α1 S1/\qZ X.K P1 α1 σ1 env1/\qF P P1/\α<+:α1) X.xe s:=by
 refine thn (hg pins s σ H v u (λσ1 H1=>∃ P1 α1,Rel X.K H1 P1 α1 S1/\qZ X.K P1 α1 σ1 env1/\qF P P1/\α<+:α1) I rv ⟨P,α,env,S,d,r,re,rp,?_⟩) λ_ s1 ⟨σ1,H1,I1,P1,α1,q1,q2,q3,q4⟩=>⟨σ1,H1,P1,α1,I1,q1,q2,q3,q4⟩;rw[q];exact λσ' H' P' α' r' re' e1 e2=>⟨P',α',r',re',e1,e2⟩
def tF (K:Aj)(P:Hp)(α : Aa Af)(ds:Aa D)(o:Ci):Prop:=∃ (its:Aa Ac) (n:Ai) (vs:Aa V),o={ cls:=.type "list",data:=.seq its.toArray n } /\ qH vs its/\qD K P α ds vs/\ds.length<=lim
theorem tF.mono (e:qF P P1)(h:α<+:α1)(a:tF K P α ds o):tF K P1 α1 ds o:=by
 obtain⟨its,n,vs,q1,q2,q3,q4⟩:=a;exact⟨its,n,vs,q1,q2,qD.mono e h _ _ q3,q4⟩
theorem tF.cell (a:tF K P α ds o):∀ v,o.data≠.cell v:=by
 obtain⟨its,n,vs,rfl,_⟩:=a;intro v z;cases z
theorem Inv.pin1 {pins:Aa (Af × Ci)}{σ:_L.St}(I:Inv X pins σ H s)(f:x5 X pins H a)(e:s.heap.get? a=Ab o)(d:∀ v,o.data≠.cell v):Inv X (pins++[(a,o)]) σ H s:=
 I.pins_of λp hp=>(Cp.mp hp).elim (λz=>I.pin p (Bp _ z)) λz=>by
  have e':p=(a,o):=by simpa using z
  subst e';exact⟨e,f.1,f.2.1,f.2.2.1,d⟩
theorem Inv.pinned1 {pins:Aa (Af × Ci)}{σ:_L.St}(I:Inv X (pins++[(a,o)]) σ H s):s.heap.get? a=Ab o/\H a=none:=by
 have:=I.pin (a,o) (Bp _ (Bp _ (by simp)))
 exact⟨this.1,this.2.1⟩
end
structure TurnSt (Y:Cx)(pins:Aa (Af × Ci))(P1:Hp)(α1:Aa Af)(fp:Aa Af)(acc:Af)(env:qE)(S:Sto)(ds:Aa D)(s:Ah)(σ : _L.St)(H P:Hp)(α : Aa Af)(o:Ci):Prop where
 inv:Inv Y pins σ H s
 rel:Rel Y.K H P α S
 env:qZ Y.K P α σ env
 same:qF P1 P
 pre:α1<+:α
 fpn:∀ b∈fp,H b=none
 acn:H acc=none
 at':s.heap.get? acc=Ab o
 acc:tF Y.K P α ds o
def wN (cells:Aa (Av × Af)):Aa (Av × Ht)->Aa (Av × Af)->Aa (Av × Af)
 |[],cs=>cs
 |(n,k)::r,cs=>wN cells r (if k == .free then (n,(cells.lookup n).getD 0)::cs else cs)
theorem gS {env:HT}{scope:Em}(h:∀ y∈scope.names,y.2=.free->∃ c,env.cells.lookup y.1=Ab c):Sf scope env=pure (wN env.cells scope.names []):=by
 have go:∀ (l:Aa (Av × Ht)) (cs:Aa (Av × Af)),(∀ y∈l,y.2=.free->∃ c,env.cells.lookup y.1=Ab c) ->
   (forIn l cs λx cs=>match x with|(name,kind)=>if (kind == Gr)=true then do let a <- cellOf env name;pure (Jz ((name,a)::cs)) else pure (Jz cs):Oa (Aa (Av × Af)))=pure (wN env.cells l cs):=by
  intro l
  induction l with
  |nil=>intro cs _;rfl
  |cons y r ih =>
   intro cs hl;obtain⟨n,k⟩:=y;rw[Lv];by_cases hk:k=.free
   .subst hk
    obtain⟨c,hc⟩:=hl (n,.free) Cz rfl;have hc':env.cells.lookup n=Ab c:=hc;have e:cellOf env n=pure c:=by unfold cellOf;rw[hc']
    simp only[Gg,Dt,e,pure_bind];rw[ih _ λz hz=>hl z (Cc _ hz)];simp only[wN,Gg,Dt,hc',Nr]
   .have hb:(k == Gr)=false:=by simpa using hk
    simp only[hb,Bu,Eh,pure_bind];rw[ih _ λz hz=>hl z (Cc _ hz)];simp only[wN,hb,Bu,Eh]
 unfold Sf;have:=go scope.names [] h;simp only[bind_pure];exact this
theorem jI {x:Av}{c:Af}:∀ (l:Aa (Av × Ht)) (cs:Aa (Av × Af)),(wN cells l cs).lookup x=Ab c->cs.lookup x=Ab c\/((x,Gr)∈l/\c=(cells.lookup x).getD 0)
 |[],cs,h=>.inl h
 |(n,k)::r,cs,h=>by
  rcases jI r _ h with h|⟨h1,h2⟩
  .by_cases hk:k=.free
   .subst hk
    simp only[Gg,Dt,Jl] at h;cases hb:x == n with
    |true =>
     rw[hb] at h;have e:x=n:=by simpa using hb
     subst e;exact .inr ⟨Cz,(Co h).symm⟩
    |false=>rw[hb] at h;exact .inl h
   .have hb:(k == Gr)=false:=by simpa using hk
    simp only[hb,Bu,Eh] at h;exact .inl h
  .exact .inr ⟨Cc _ h1,h2⟩
theorem jA {x:Av}:∀ (l:Aa (Av × Ht)) (cs:Aa (Av × Af)),((x,Gr)∈l\/∃ c,cs.lookup x=Ab c)->∃ c,(wN cells l cs).lookup x=Ab c
 |[],cs,h=>by
  rcases h with h|h
  .cases h
  .exact h
 |(n,k)::r,cs,h=>by
  refine jA r _ ?_;rcases h with h|⟨c,h⟩
  .rcases Aw.mp h with e|h
   .cases e
    exact .inr ⟨(cells.lookup x).getD 0,by simp only[Gg,Dt,Jl]⟩
   .exact .inl h
  .by_cases hk:k=.free
   .subst hk
    simp only[Gg,Dt,Jl];cases hb:x == n with
    |true=>exact .inr ⟨_,rfl⟩
    |false=>exact .inr ⟨c,h⟩
   .have hb:(k == Gr)=false:=by simpa using hk
    simp only[hb,Bu,Eh];exact .inr ⟨c,h⟩
structure CompSc (scX:Em)(NX:Aa Av)(scope:Em)(N':Aa Av)(cap:Aa (Al Ai)):Prop where
 kind:scope.kind=.function
 names:∀ y∈scope.names,y.2=.local -> scope.names.lookup y.1=Ab .local
 cel:∀ y∈scope.names,y.2=.cell->scope.names.lookup y.1=Ab .cell
 free:∀ y∈scope.names,y.2=.free->scX.names.lookup y.1=Ab .cell\/scX.names.lookup y.1=Ab .free
 fr2:∀ y∈scope.names,y.2=.free->scope.names.lookup y.1=Ab .free
 len:cap.length=N'.length
 caps:((cap.zip N').all λp=>match p.1 with|none=>true|some i=>NX[i]? == Ab p.2&&scope.names.lookup p.2 == Ab .free)=true
 nd:N'.Nodup
def vG (cap:Aa (Al Ai))(σ : _L.St):_L.St:=cap.map λo=>match o with
 |none=>none
 |some i=>(σ[i]?).join
def xJ (cap:Aa (Al Ai))(env:qE):qE:=cap.map λo=>match o with
 |none=>none
 |some i=>(env[i]?).join
theorem WK {σ:_L.St}{env:qE}(re:qZ K P α σ env)(cap:Aa (Al Ai)):qZ K P α (vG cap σ) (xJ cap env):=by
 refine⟨by simp[vG,xJ],λj d e=>?_⟩
 unfold xJ at e;unfold vG;rw[Dc] at e ⊢;cases q:cap[j]? with
 |none=>rw[q] at e;cases e
 |some o =>
  rw[q] at e;cases o with
  |none=>cases e
  |some i =>
   have e':(env[i]?).join=Ab d:=by simpa using e
   cases z:env[i]? with
   |none=>rw[z] at e';cases e'
   |some w =>
    rw[z] at e';have e'':w=Ab d:=e';subst e'';obtain⟨v,h1,h2⟩:=re.2 i d z;exact⟨v,by simp[h1],h2⟩
def qY (X:Cx)(N':Aa Av)(scope:Em)(cl:Aa (Av × Af))(C:Af)(ex:Aa Af)(s₀:Ah)(H₀:Hp):Cx:=
 { X with N:=N',s₀:=s₀,H₀:=H₀,env:=compEnvC scope cl C X.env,outer:=X.stack,stack:=X.stack,ex:=ex,fn:=λx=>decide (scope.names.lookup x=Ab .cell),pn:=[],xe:=λ_ _=>Fh }
theorem uV {scope:Em}{env:HT}:∀ {names:Aa (Av × Ht)} {x:Av} {k:Ht},
  (names.map λ(n,k)=>if (k == Gr&&env.scope.kind == .function&&env.kindOf n == Ab .cell) then (n,Nt) else (n,k)).lookup x=Ab k ->
  names.lookup x=Ab k\/(k=.cell/\names.lookup x=Ab .free)
 |[],_,_,h=>by simp at h
 |(n,k0)::r,x,k,h=>by
  rw[Ee,Jl] at h;rw[Jl];dsimp only at h;cases hb:(k0 == Gr&&env.scope.kind == .function&&env.kindOf n == Ab .cell) with
  |true =>
   rw[hb] at h;simp only[Dt] at h;cases hx:x == n with
   |true =>
    rw[hx] at h;have e:Nt=k:=Co h;have hk:k0=.free:=by
     have:=(Au _ _).mp hb;have:=(Au _ _).mp this.1;simpa using this.1
    subst hk;exact .inr ⟨e.symm,rfl⟩
   |false=>rw[hx] at h;exact uV (scope:=scope) h
  |false =>
   rw[hb] at h;simp only[Bu,Eh] at h;cases hx:x == n with
   |true=>rw[hx] at h;exact .inl h
   |false=>rw[hx] at h;exact uV (scope:=scope) h
section
variable {X:Cx}{scope:Em}{N':Aa Av}{cap:Aa (Al Ai)}{pins:Aa (Af × Ci)}{σ : _L.St}{H2:Hp}{s2:Ah}{fp:Aa Af}
theorem kL (S:CompSc X.env.scope X.N scope N' cap){x:Av}{k:Ht}(h:(relabel scope X.env).names.lookup x=Ab k):scope.names.lookup x=Ab k\/(k=.cell/\scope.names.lookup x=Ab .free):=uV (scope:=scope) h
theorem Z8 (S:CompSc X.env.scope X.N scope N' cap)(ok:X.Ok){x:Av}{c:Af}(h:(wN X.env.cells scope.names []).lookup x=Ab c):X.env.cells.lookup x=Ab c/\(x,Gr)∈scope.names:=by
 rcases jI _ _ h with h|⟨hm,hc⟩
 .cases h
 .have:=S.free _ hm rfl
  obtain⟨c',hc'⟩:=ok.has x this;rw[hc',Nr] at hc;rw[hc',hc];exact⟨rfl,hm⟩
def UJ (scope:Em)(C:Af):Aa (Av × Af):=Hq (C+1) scope.names []
def kJ (X:Cx)(scope:Em)(C:Af):Aa (Av × Af):=Hq (C+1) scope.names (wN X.env.cells scope.names [])
theorem yT:∀ (names:Aa (Av × Ht)) (lo:Ai) (acc:Aa (Av × Af)),Hq lo names acc=Hq lo names [] ++ acc
 |[],_,_=>rfl
 |(n,k)::r,lo,acc=>by
  unfold Hq
  split
  .rw[yT r _ ((n,lo)::acc),yT r _ [(n,lo)],Fl];rfl
  .exact yT r lo acc
set_option tactic.hygienic true in
theorem gY:∀ (names:Aa (Av × Ht)) (lo:Ai) {n:Av} {c:Af},(n,c)∈Hq lo names [] -> (n,Nt)∈names
 |[],_,_,_,h=>by cases h
 |(n0,k)::r,lo,n,c,h=>by
  unfold Hq at h
  split at h
  .rename_i hk
   rw[yT] at h;rcases Cp.mp h with h|h
   .exact Cc _ (gY r _ h)
   .have e:(n,c)=(n0,lo):=by simpa using h
    cases e;have:k=Nt:=by simpa using hk
    rw[this];exact Cz
  .exact Cc _ (gY r _ h)
theorem xC (S:CompSc X.env.scope X.N scope N' cap)(ok:X.Ok){C:Af}{x:Av}{c:Af}(h:(kJ X scope C).lookup x=Ab c):((x,c)∈UJ scope C/\scope.names.lookup x=Ab .cell)\/(X.env.cells.lookup x=Ab c/\(x,Gr)∈scope.names):=by
 unfold kJ at h;rw[yT,Xb] at h;cases q:(Hq (C+1) scope.names []).lookup x with
 |some c' =>
  rw[q] at h;cases h;have m:=Fk q;exact .inl ⟨m,S.cel _ (gY _ _ m) rfl⟩
 |none =>
  rw[q] at h;exact .inr (Z8 S ok h)
theorem r0 (S:CompSc X.env.scope X.N scope N' cap)(ok:X.Ok){C:Af}{x:Av}(h:scope.names.lookup x=Ab .cell\/scope.names.lookup x=Ab .free):∃ c,(kJ X scope C).lookup x=Ab c:=by
 unfold kJ;rw[yT,Xb];rcases h with h|h
 .have:=Jx scope.names (C+1) [] (x:=x) (.inl h)
  obtain⟨c,hc⟩:=Je.mp this;exact⟨c,by rw[hc];rfl⟩
 .obtain⟨c',hc'⟩:=jA (cells:=X.env.cells) scope.names [] (.inl (Fk h))
  rw[hc'];cases (Hq (C+1) scope.names []).lookup x with
  |none=>exact⟨c',rfl⟩
  |some c=>exact⟨c,rfl⟩
theorem GS (S:CompSc X.env.scope X.N scope N' cap)(I2:Inv X pins σ H2 s2)(hf:∀ b∈fp,x5 X pins H2 b)(hlt:∀ b∈fp,b<s2.heap.objs.size)(hC:s2.heap.objs.size<=C){h1:Bj}(co:CellsOk h1 (C+1) (UJ scope C)) :
  (qY X N' scope (kJ X scope C) C fp s2 H2).Ok where
 mod:=I2.ok.mod
 kind:=S.kind
 glob:=I2.ok.glob
 blt:=I2.ok.blt
 above:=hC
 inj:=λx y c h1 h2=>by
  rcases xC S I2.ok h1 with⟨m1,_⟩|⟨m1,_⟩ <;> rcases xC S I2.ok h2 with⟨m2,_⟩|⟨m2,_⟩
  .exact PySem.name_of_addr co.apart m1 m2
  .obtain⟨v,ob,hob,_⟩:=I2.cell y c m2
   exact absurd (Bm (Ax hob) hC) (Ir.mpr (Fy (co.empty x c m1).2))
  .obtain⟨v,ob,hob,_⟩:=I2.cell x c m1
   exact absurd (Bm (Ax hob) hC) (Ir.mpr (Fy (co.empty y c m2).2))
  .exact I2.ok.inj x y c m1 m2
 has:=λx hx=>by
  have hx':(relabel scope X.env).names.lookup x=Ab .cell\/(relabel scope X.env).names.lookup x=Ab .free:=hx;refine r0 S I2.ok ?_;rcases hx' with h|h
  .rcases kL S h with h|⟨_,h⟩
   .exact .inl h
   .exact .inr h
  .rcases kL S h with h|⟨z,_⟩
   .exact .inr h
   .cases z
 cab:=λx c h h2=>by
  have hx:scope.names.lookup x=Ab .cell:=Bx h;rcases xC S I2.ok h2 with⟨m,_⟩|⟨_,m⟩
  .exact Cq hC (Fy (co.empty x c m).2)
  .have:=S.fr2 _ m rfl
   have this':scope.names.lookup x=Ab .free:=this;rw[hx] at this';cases this'
 hd:=I2.ok.hd
 frames:=I2.ok.frames
 stk:=.inl rfl
 exf:=λb hb=>⟨Bv (Bm (hlt b hb) hC),λx c h=>by
  rcases xC S I2.ok h with⟨m,_⟩|⟨m,_⟩
  .exact El (Bv (Mf (Bm (hlt b hb) hC) (co.empty x c m).2))
  .exact(hf b hb).2.2.2.2.1 x c m⟩
 bs:=I2.bs
 bsz:=Cq I2.ok.bsz I2.sz
 noex:=λb o e hb=>by
  obtain⟨_,_,_,h,_⟩:=hf b hb;rcases h with h|h
  .exact I2.ok.noex b o e h
  .exact absurd (Bm (Ax e) (Cq I2.ok.bsz h)) (Dp _)
 exfs:=λb hb hb2=>by
  obtain⟨_,h1,h2,_⟩:=hf b hb;rcases Aw.mp (I2.stkSub b hb2) with z|z
  .exact h1 z
  .exact h2 z
 funs:=I2.stack
 frf:=I2.stkFree
theorem YM {s4:Ah}{m:Av->Al Ac}(S:CompSc X.env.scope X.N scope N' cap)(I2:Inv X pins σ H2 s2)(hf:∀ b∈fp,x5 X pins H2 b)(hlt:∀ b∈fp,b<s2.heap.objs.size)(hC:s2.heap.objs.size<=C)
  (hn:s4.heap.Ns C m) (os:s4.os=s2.os) (gens:s4.gens=s2.gens) (keep:∀ b o,s2.heap.get? b=Ab o->s4.heap.get? b=Ab o) (co:CellsOk s4.heap (C+1) (UJ scope C)) :
  Inv (qY X N' scope (kJ X scope C) C fp s2 H2) [] (vG cap σ) H2 s4 where
 ok:=GS S I2 hf hlt hC co
 os:=os
 bare:=gens▸I2.bare
 base:=Un.kept keep
 loc:=by
  refine⟨m,hn,λj x v h1 h2 h3=>?_⟩;have h1':N'[j]? = Ab x:=h1;unfold vG at h2;rw[Dc] at h2;cases q:cap[j]? with
  |none=>rw[q] at h2;cases h2
  |some o =>
   rw[q] at h2;cases o with
   |none=>cases h2
   |some i =>
    have e':(σ[i]?).join=Ab v:=by simpa using h2
    have hσ:σ[i]? = Ab (Ab v):=by
     cases z:σ[i]? with
     |none=>rw[z] at e';cases e'
     |some w=>rw[z] at e';have:w=Ab v:=e';rw[this]
    have hz:(Ab i,x)∈cap.zip N':=by
     refine Kc.mpr ⟨j,?_⟩;rw[Qv];exact⟨q,h1'⟩
    have hc:=Be.mp S.caps _ hz;simp only[Au,Pa] at hc;obtain⟨hN,hfr⟩:=hc;have hk:=S.free _ (Fk hfr) rfl;obtain⟨mo,hmo,hl⟩:=I2.loc;have vis:Vis X.env.scope x:=by
     rcases hk with k|k
     .exact .inr (.inl k)
     .exact .inr (.inr k)
    obtain⟨u,ru,lk⟩:=hl i x v hN hσ vis;refine⟨u,ru,?_⟩;rcases lk with⟨kl,_⟩|⟨_,c,hcl,hcell⟩
    .have kl':X.env.scope.names.lookup x=Ab .local:=kl
     rcases hk with k|k
     .have k':X.env.scope.names.lookup x=Ab .cell:=k
      rw[kl'] at k';cases k'
     .have k':X.env.scope.names.lookup x=Ab .free:=k
      rw[kl'] at k';cases k'
    .obtain⟨c',hc'⟩:=r0 S I2.ok (C:=C) (.inr hfr)
     have e2:X.env.cells.lookup x=Ab c':=by
      rcases xC S I2.ok hc' with⟨_,z⟩|⟨z,_⟩
      .rw[hfr] at z;cases z
      .exact z
     rw[hcl] at e2;cases e2;refine .inr ⟨?_,c,hc',?_⟩
     .have h3':Vis (relabel scope X.env) x:=h3
      rcases h3' with h|h|h
      .rcases kL S h with h|⟨z,_⟩
       .rw[hfr] at h;cases h
       .cases z
      .exact .inl h
      .exact .inr h
     .obtain⟨ob,hob,hd⟩:=hcell
      exact⟨ob,keep c ob hob,hd⟩
 cell:=λx c h=>by
  rcases xC S I2.ok h with⟨m,_⟩|⟨m,_⟩
  .exact⟨none,(co.empty x c m).1⟩
  .obtain⟨v,ob,hob,hd⟩:=I2.cell x c m
   exact⟨v,ob,keep c ob hob,hd⟩
 free:=I2.hok.fresh hC
 freeC:=λx c h=>by
  rcases xC S I2.ok h with⟨m,_⟩|⟨m,_⟩
  .exact I2.hok.fresh (Cq hC (Fy (co.empty x c m).2))
  .exact I2.freeC x c m
 pin:=λp hp=>absurd (show p∈([]:Aa (Af × Ci)) from hp) (by simp)
 hok:=I2.hok.kept keep
 len:=by
  show (vG cap σ).length=N'.length;simp[vG,S.len]
end
theorem ZW {P:Bd}{h:Bj}{o:HO}(x:HOk P w H h)(hn:H a=none)(new:z9 P w (upd H a o) h a o):HOk P w (upd H a o) h:=λb u e=>by
 by_cases hb:b=a
 .subst hb;rw[qQ] at e;cases e;exact new
 .rw[qJ hb] at e
  exact(x b u e).stay (λc v _ q=>q) (λc q=>by rw[qJ (qP q hn)];exact q) λc xs q=>by rw[qJ (qP q hn)];exact q
theorem ZV {P:Bd}{h h':Bj}(x:HOk P w H h)(hn:H C=none)(k:∀ b o,b≠C->h.get? b=Ab o->h'.get? b=Ab o):HOk P w H h':=λb u e =>
 (x b u e).stay (λc v hc q=>k c v (by
  rintro rfl;rcases hc with z|z
  .subst z;rw[hn] at e;cases e
  .rw[hn] at z;cases z) q) (λ_ q=>q) λ_ _ q=>q
section
variable {X:Cx}{elt tg iter:Br}{ifs:Aa Br}{scope:Em}{pos:Ex}{N':Aa Av}{cap:Aa (Al Ai)}{fi:DI}{g:DG}{t:DT}{fe:DE}
def pV (X:Cx)(pins:Aa (Af × Ci))(σ : _L.St)(P1:Hp)(α1:Aa Af)(ds:Aa D)(SF:Sto)(acc C:Af)(s:Ah):Prop:=
 ∃ (H' P':Hp) (α' : Aa Af) (vs:Aa V),Inv X pins σ (upd H' acc (.lst vs)) s/\Rel X.K H' P' α' SF/\H' acc=none/\qF P1 P'/\α1<+:α'/\qD X.K P' α' ds vs/\H' C=none
theorem YL {Y:Cx}{pins:Aa (Af × Ci)}{σ σ':_L.St}{H2:Hp}{s2 s':Ah}{fp:Aa Af}{acc:Af}{H' P':Hp}{α':Aa Af}{envF:qE}{SF:Sto}{cl:Aa (Av × Af)}(I2:Inv X pins σ H2 s2)
  (hf:∀ b∈fp,x5 X pins H2 b) (hY:Y=qY X N' scope cl C fp s2 H2) (hC:s2.heap.objs.size<=C) (hA:s2.heap.objs.size<=acc) (hne:acc≠C) (st:TurnSt Y [] P1 α1 fp acc envF SF ds s' σ' H' P' α' o)
  {h':Bj} (sb:Fd C s'.heap h'):pV X pins σ P1 α1 ds SF acc C { s' with heap:=h' }:=by
 subst hY;obtain⟨its,n,vs,rfl,rv,rp,hz⟩:=st.acc;have kC:∀ b o,b≠C->s'.heap.get? b=Ab o->h'.get? b=Ab o:=λb o hb e=>(sb.2 b hb).trans e;have nC:∀ b o,s2.heap.get? b=Ab o->b≠C:=λb o e=>Bv (Bm (Ax e) hC);have nA:∀ b o,s2.heap.get? b=Ab o->b≠acc:=λb o e=>Bv (Bm (Ax e) hA);have base:Un (frs X.stack) fp H2 H' s2.heap s'.heap:=st.inv.base;have nt:∀ b u,H' b=Ab u->b≠acc:=λb u e=>qP e st.acn;have un:Un (frs X.stack) fp H2 (upd H' acc (.lst vs)) s2.heap h':=by
  refine⟨λb ob q hn hb hx=>kC b ob (nC b ob q) (base.keep b ob q hn hb hx),λb ob q hn hb hx=>?_,λb ob q hn hx=>?_,λb ob q hx=>?_,λb xs q=>?_,λb ob u q=>?_,λb ps q=>?_⟩
  .obtain⟨sl,e⟩:=base.slot b ob q hn hb hx
   exact⟨sl,kC b _ (nC b ob q) e⟩
  .rw[qJ (nA b ob q)];exact base.free b ob q hn hx
  .obtain⟨o',e⟩:=base.there b ob q hx
   exact⟨o',kC b o' (nC b ob q) e⟩
  .have:=base.tups b xs q;rw[qJ (nt _ _ this)];exact this
  .have:=base.frzs b ob u q;rw[qJ (nt _ _ this)];exact this
  .obtain⟨more,e⟩:=base.tbls b ps q
   exact⟨more,by rw[qJ (nt _ _ e)];exact e⟩
 have hok':HOk X.prog X.w H' h':=ZV st.inv.hok st.inv.free kC;have hat:h'.get? acc=Ab { cls:=.type "list",data:=.seq its.toArray n }:=kC acc _ hne st.at';have hok:HOk X.prog X.w (upd H' acc (.lst vs)) h':=ZW hok' st.acn ⟨by rw[<- rp.length,<- zM];exact hz,its,n,rv,hat⟩
 refine⟨H',P',α',vs,?_,st.rel,st.acn,st.same,st.pre,rp,st.inv.free⟩;exact I2.call' (s':={ s' with heap:=h' }) (ch:=fp) (st.inv.os) un hok st.inv.bare λb hb=>by
  obtain⟨_,h1,h2,h3,h4,h5⟩:=hf b hb;exact⟨h3,h1,h4,h5⟩
theorem cO (S:CompSc X.env.scope X.N scope N' cap)(ok:X.Ok):Sf scope X.env=pure (wN X.env.cells scope.names []):=gS λy hy hk=>ok.has y.1 (S.free y hy hk)
theorem PX {pins:Aa (Af × Ci)}{σ:_L.St}{SF:Sto}{acc:Af}{Q:VK}(c:pV X pins σ P1 α1 ds SF acc C s)(ok:OkV X P1 α1 Q (.lst ds) SF):EP X pins σ Q (.ref acc) s:=by
 obtain⟨H',P',α',vs,I,r,hn,e1,e2,rp,_⟩:=c;exact⟨.ref acc,_,I,rfl,wG r hn rp λv H2 P2 α2 r2 q1 q2 q3=>ok v H2 P2 α2 r2 (e1.trans q1) (e2.trans q2) q3⟩
end
end _D
section
namespace _D
open PySem PySem.Spec PyProof.Rows _L PySem.SeqAt
def b01 (b:Ar):Am:=if b then 1 else 0
mutual
def eqD:D->D->Ar
 |.non,.non=>true
 |.bl a,.bl b=>a == b
 |.bl a,.int b=>b01 a == b
 |.int a,.bl b=>a == b01 b
 |.int a,.int b=>a == b
 |.str a,.str b=>a == b
 |.tup xs,.tup ys=>xE xs ys
 |.lst xs,.lst ys=>xE xs ys
 |_,_=>false
def xE:Aa D->Aa D->Ar
 |[],[]=>true
 |x::xs,y::ys=>eqD x y&&xE xs ys
 |_,_=>false
end
def pl:Ai->D->Ar
 |_,.non=>true
 |_,.bl _=>true
 |_,.int _=>true
 |_,.str _=>true
 |n+1,.tup xs=>xs.all (pl n)
 |n+1,.lst xs=>xs.all (pl n)
 |_,_=>false
theorem lJ (x y:D)(xs ys:Aa D):xE (x::xs) (y::ys)=(eqD x y&&xE xs ys):=rfl
theorem wX:∀ (xs ys:Aa D),xE xs ys=((Cg (min xs.length ys.length)).all (λj=>eqD (xs.getD j .non) (ys.getD j .non))&&xs.length == ys.length)
 |[],[]=>rfl
 |[],y::ys=>rfl
 |x::xs,[]=>rfl
 |x::xs,y::ys=>by
  have ih:=wX xs ys;rw[lJ,ih,Ch,Ch,Nat.succ_min_succ,Ng,Qw,Jr,Bool.and_assoc];have e:(xs.length+1 == ys.length+1)=(xs.length == ys.length):=by simp
  rw[e];rfl
theorem VB {xs ys:Aa D}(h:xs.length≠ys.length):xE xs ys=false:=by
 rw[wX];simp[h]
theorem tS (xs ys:Aa D):eqD (.tup xs) (.tup ys)=xE xs ys:=rfl
theorem tR (xs ys:Aa D):eqD (.lst xs) (.lst ys)=xE xs ys:=rfl
section
variable {X:Cx}{pins:Aa (Af × Ci)}{σ : _L.St}{H P:Hp}{α : Aa Af}{S:Sto}{s:Ah}
inductive Kd (X:Cx)(P:Hp)(α : Aa Af)(s:Ah):D->Ac->Prop where
 |non:Kd X P α s .non .none
 |bl (b:Ar):Kd X P α s (.bl b) (.bool b)
 |int (i:Am) (t:Pi):Kd X P α s (.int i) (.int i t)
 |str (x:Av) (t:Pi):Kd X P α s (.str x) (.str x t)
 |tup (a:Af) (xs:Aa D) (its:Aa Ac) (vs:Aa V) (rp:qD X.K P α xs vs) (rv:qH vs its) (h:s.heap.IsTuple a its.toArray) (q:SqT X.K P a vs):Kd X P α s (.tup xs) (.ref a)
 |lst (a:Af) (xs:Aa D) (its:Aa Ac) (vs:Aa V) (rp:qD X.K P α xs vs) (rv:qH vs its) (h:s.heap.IsList a its.toArray) (q:SqX X.K P a vs):Kd X P α s (.lst xs) (.ref a)
theorem yJ (I:Inv X pins σ H s)(r:Rel X.K H P α S){n:Ai}{d:D}{v:V}{u:Ac}(h:pl n d=true)(p:Rep X.K P α d v)(rv:qI v u):Kd X P α s d u:=by
 cases d with
 |non=>simp only[Rep] at p;subst p;cases rv;exact .non
 |bl b=>simp only[Rep] at p;subst p;cases rv;exact .bl b
 |int i=>simp only[Rep] at p;subst p;obtain⟨t,rfl⟩:=rv;exact .int i t
 |str x=>simp only[Rep] at p;subst p;obtain⟨t,rfl⟩:=rv;exact .str x t
 |tup xs =>
  simp only[Rep] at p;obtain⟨a,vs,rfl,q,t⟩:=p;cases rv;obtain⟨its,r1,p1,_⟩:=I.tuple (xH r.sub q);exact .tup a xs its vs t r1 p1 q
 |lst xs =>
  simp only[Rep] at p;obtain⟨a,vs,rfl,q,t⟩:=p;cases rv;obtain⟨its,r1,p1,_⟩:=I.list ((x9 r.sub q).l);exact .lst a xs its vs t r1 p1.isList q
 |_=>cases n <;> exact Cr h
theorem wC {ds:Aa D}{vs:Aa V}{its:Aa Ac}(rp:qD X.K P α ds vs)(rv:qH vs its){j:Ai}(h:j<its.toArray.size):∃ v,Rep X.K P α (ds.getD j .non) v/\qI v its.toArray[j]/\ds.getD j .non∈ds:=by
 have l1:=rp.length;have l2:=rv.length;have hj:j<its.length:=by simpa using h
 have hd:j<ds.length:=by omega
 obtain⟨v,e1,p⟩:=rp.get (An hd);obtain⟨u,e2,q⟩:=rv.get e1;have e3:its.toArray[j]=u:=by
  have:its[j]? = Ab its[j]:=An hj;rw[this] at e2;simpa using Co e2
 have e4:ds.getD j .non=ds[j]:=by simp[Gs,hd]
 rw[e3,e4];exact⟨v,p,q,Hr hd⟩
theorem xW {n:Ai}{ds:Aa D}(h:ds.all (pl n)=true){d:D}(hd:d∈ds):pl n d=true:=Be.mp h d hd
theorem n6 {h:Bj}{a:Af}{xs ys:Bn Ac}(h1:h.IsTuple a xs)(h2:h.IsTuple a ys):xs=ys:=by
 obtain⟨o,e,_,n,d⟩:=h1;obtain⟨o',e',_,n',d'⟩:=h2;cases e.symm.trans e';cases d.symm.trans d';rfl
theorem aG {h:Bj}{a:Af}{xs ys:Bn Ac}(h1:h.IsList a xs)(h2:h.IsList a ys):xs=ys:=by
 obtain⟨o,e,_,n,d⟩:=h1;obtain⟨o',e',_,n',d'⟩:=h2;cases e.symm.trans e';cases d.symm.trans d';rfl
theorem oM {h:Bj}{a:Af}{xs ys:Bn Ac}(h1:h.IsTuple a xs)(h2:h.IsList a ys):Fh:=by
 obtain⟨o,e,c,_⟩:=h1;obtain⟨o',e',c',_⟩:=h2;cases e.symm.trans e';exact absurd (c.symm.trans c') (by decide)
inductive Seqs (X:Cx)(P:Hp)(α : Aa Af)(xs ys:Aa D)(its its2:Aa Ac):Prop
 |mk (vs ws:Aa V) (rp:qD X.K P α xs vs) (rv:qH vs its) (rp2:qD X.K P α ys ws) (rv2:qH ws its2):Seqs X P α xs ys its its2
theorem Seqs.len1 {xs ys:Aa D}{its its2:Aa Ac}(q:Seqs X P α xs ys its its2):xs.length=its.length:=by
 obtain⟨vs,ws,rp,rv,_,_⟩:=q;exact rp.length.trans rv.length
theorem Seqs.len2 {xs ys:Aa D}{its its2:Aa Ac}(q:Seqs X P α xs ys its its2):ys.length=its2.length:=by
 obtain⟨vs,ws,_,_,rp,rv⟩:=q;exact rp.length.trans rv.length
inductive SameR (X:Cx)(P:Hp)(α : Aa Af):D->D->Prop
 |eq {d d':D} (h:eqD d d'=true):SameR X P α d d'
 |tt (xs ys:Aa D) (its:Aa Ac) (q:Seqs X P α xs ys its its):SameR X P α (.tup xs) (.tup ys)
 |ll (xs ys:Aa D) (its:Aa Ac) (q:Seqs X P α xs ys its its):SameR X P α (.lst xs) (.lst ys)
theorem iI {d d':D}{u:Ac}(k1:Kd X P α s d u)(k2:Kd X P α s d' u):SameR X P α d d':=by
 cases k1 with
 |non=>cases k2;exact .eq rfl
 |bl b=>cases k2;exact .eq (Gg _)
 |int i t=>cases k2;exact .eq (Gg _)
 |str x t=>cases k2;exact .eq (Gg _)
 |tup a xs its vs rp rv h q =>
  cases k2 with
  |tup _ ys its2 ws rp2 rv2 h2 q2 =>
   cases n6 h h2;exact .tt xs ys its ⟨vs,ws,rp,rv,rp2,rv2⟩
  |lst _ ys its2 ws rp2 rv2 h2 q2=>exact(oM h h2).elim
 |lst a xs its vs rp rv h q =>
  cases k2 with
  |lst _ ys its2 ws rp2 rv2 h2 q2 =>
   cases aG h h2;exact .ll xs ys its ⟨vs,ws,rp,rv,rp2,rv2⟩
  |tup _ ys its2 ws rp2 rv2 h2 q2=>exact(oM h2 h).elim
theorem lK (I:Inv X pins σ H s)(r:Rel X.K H P α S){m:Ai}(ih:∀ (d d':D) (u:Ac),pl m d=true->pl m d'=true->Kd X P α s d u->Kd X P α s d' u->eqD d d'=true){xs ys:Aa D}{its:Aa Ac}(h1:xs.all (pl m)=true)(h2:ys.all (pl m)=true)(q:Seqs X P α xs ys its its):xE xs ys=true:=by
 obtain⟨vs,ws,rp,rv,rp2,rv2⟩:=q;have l1:=rp.length.trans rv.length;have l2:=rp2.length.trans rv2.length;rw[wX,l1,l2,So,Au];refine⟨Be.mpr λj hj=>?_,BEq.rfl⟩;have hj:j<its.toArray.size:=Ei.mp hj;obtain⟨w1,y1,z1,m1⟩:=wC rp rv hj;obtain⟨w2,y2,z2,m2⟩:=wC rp2 rv2 hj;exact ih _ _ _ (xW h1 m1) (xW h2 m2) (yJ I r (xW h1 m1) y1 z1) (yJ I r (xW h2 m2) y2 z2)
theorem cW (I:Inv X pins σ H s)(r:Rel X.K H P α S):∀ (n:Ai) (d d':D) (u:Ac),pl n d=true->pl n d'=true->Kd X P α s d u->Kd X P α s d' u->eqD d d'=true:=by
 intro n
 induction n with
 |zero =>
  intro d d' u h1 h2 k1 k2;cases iI k1 k2 with
  |eq h=>exact h
  |tt=>exact Cr h1
  |ll=>exact Cr h1
 |succ m ih =>
  intro d d' u h1 h2 k1 k2;cases iI k1 k2 with
  |eq h=>exact h
  |tt xs ys its q=>exact(tS xs ys).trans (lK I r ih h1 h2 q)
  |ll xs ys its q=>exact(tR xs ys).trans (lK I r ih h1 h2 q)
structure E3 (A:Bo)(s:Ah)(u u':Ac)(b:Ar):Prop where
 eq:wE A s u u' b
 rc:RcAt A s u u' b
 ne:RcNeAt A s u u' (!b)
inductive EqR (X:Cx)(P:Hp)(α : Aa Af)(A:Bo)(s:Ah):D->D->Ac->Ac->Prop
 |of {d d':D} {u u':Ac} (b:Ar) (e:eqD d d'=b) (h:E3 A s u u' b):EqR X P α A s d d' u u'
 |tt (a b:Af) (xs ys:Aa D) (its its2:Aa Ac) (ha:s.heap.IsTuple a its.toArray) (hb:s.heap.IsTuple b its2.toArray) (q:Seqs X P α xs ys its its2):EqR X P α A s (.tup xs) (.tup ys) (.ref a) (.ref b)
 |ll (a b:Af) (xs ys:Aa D) (its its2:Aa Ac) (ha:s.heap.IsList a its.toArray) (hb:s.heap.IsList b its2.toArray) (q:Seqs X P α xs ys its its2):EqR X P α A s (.lst xs) (.lst ys) (.ref a) (.ref b)
theorem K1 {A:Bo}{d d':D}{u u':Ac}(hu:A.units<Dw)(k1:Kd X P α s d u)(k2:Kd X P α s d' u'):EqR X P α A s d d' u u':=by
 cases k1 with
 |non  =>
  cases k2 with
  |non  => exact .of _ rfl ⟨Aa8 _,RcAt.none_none,RcNeAt.none_none⟩
  |bl b=>exact .of _ rfl ⟨EqAt.none_bool b,RcAt.none_bool b,RcNeAt.none_bool b⟩
  |int b tb=>exact .of _ rfl ⟨EqAt.none_int b tb,RcAt.none_int b tb,RcNeAt.none_int b tb⟩
  |str b tb=>exact .of _ rfl ⟨EqAt.none_str b tb,RcAt.none_str b tb,RcNeAt.none_str b tb⟩
  |tup b ys its2 ws rp2 rv2 hb qb=>exact .of _ rfl ⟨EqAt.none_tuple hb hu,RcAt.none_tuple hb hu,RcNeAt.none_tuple hb hu⟩
  |lst b ys its2 ws rp2 rv2 hb qb=>exact .of _ rfl ⟨EqAt.none_list hb hu,RcAt.none_list hb hu,RcNeAt.none_list hb hu⟩
 |bl a =>
  cases k2 with
  |non  => exact .of _ rfl ⟨EqAt.bool_none a,RcAt.bool_none a,RcNeAt.bool_none a⟩
  |bl b=>exact .of _ rfl ⟨EqAt.bool_bool a b,RcAt.bool_bool a b,RcNeAt.bool_bool a b⟩
  |int b tb=>exact .of _ rfl ⟨EqAt.bool_int a b tb,RcAt.bool_int a b tb,RcNeAt.bool_int a b tb⟩
  |str b tb=>exact .of _ rfl ⟨EqAt.bool_str a b tb,RcAt.bool_str a b tb,RcNeAt.bool_str a b tb⟩
  |tup b ys its2 ws rp2 rv2 hb qb=>exact .of _ rfl ⟨EqAt.bool_tuple a hb hu,RcAt.bool_tuple a hb hu,RcNeAt.bool_tuple a hb hu⟩
  |lst b ys its2 ws rp2 rv2 hb qb=>exact .of _ rfl ⟨EqAt.bool_list a hb hu,RcAt.bool_list a hb hu,RcNeAt.bool_list a hb hu⟩
 |int a ta =>
  cases k2 with
  |non  => exact .of _ rfl ⟨EqAt.int_none a ta,RcAt.int_none a ta,RcNeAt.int_none a ta⟩
  |bl b=>exact .of _ rfl ⟨EqAt.int_bool a ta b,RcAt.int_bool a ta b,RcNeAt.int_bool a ta b⟩
  |int b tb=>exact .of _ rfl ⟨EqAt.int_int a ta b tb,RcAt.int_int a ta b tb,RcNeAt.int_int a ta b tb⟩
  |str b tb=>exact .of _ rfl ⟨EqAt.int_str a ta b tb,RcAt.int_str a ta b tb,RcNeAt.int_str a ta b tb⟩
  |tup b ys its2 ws rp2 rv2 hb qb=>exact .of _ rfl ⟨EqAt.int_tuple a ta hb hu,RcAt.int_tuple a ta hb hu,RcNeAt.int_tuple a ta hb hu⟩
  |lst b ys its2 ws rp2 rv2 hb qb=>exact .of _ rfl ⟨EqAt.int_list a ta hb hu,RcAt.int_list a ta hb hu,RcNeAt.int_list a ta hb hu⟩
 |str a ta =>
  cases k2 with
  |non  => exact .of _ rfl ⟨EqAt.str_none a ta,RcAt.str_none a ta,RcNeAt.str_none a ta⟩
  |bl b=>exact .of _ rfl ⟨EqAt.str_bool a ta b,RcAt.str_bool a ta b,RcNeAt.str_bool a ta b⟩
  |int b tb=>exact .of _ rfl ⟨EqAt.str_int a ta b tb,RcAt.str_int a ta b tb,RcNeAt.str_int a ta b tb⟩
  |str b tb=>exact .of _ rfl ⟨EqAt.str_str a ta b tb,RcAt.str_str a ta b tb,RcNeAt.str_str a ta b tb⟩
  |tup b ys its2 ws rp2 rv2 hb qb=>exact .of _ rfl ⟨EqAt.str_tuple a ta hb hu,RcAt.str_tuple a ta hb hu,RcNeAt.str_tuple a ta hb hu⟩
  |lst b ys its2 ws rp2 rv2 hb qb=>exact .of _ rfl ⟨EqAt.str_list a ta hb hu,RcAt.str_list a ta hb hu,RcNeAt.str_list a ta hb hu⟩
 |tup a xs its vs rp rv ha qa =>
  cases k2 with
  |non  => exact .of _ rfl ⟨EqAt.tuple_none ha hu,RcAt.tuple_none ha hu,RcNeAt.tuple_none ha hu⟩
  |bl b=>exact .of _ rfl ⟨EqAt.tuple_bool b ha hu,RcAt.tuple_bool b ha hu,RcNeAt.tuple_bool b ha hu⟩
  |int b tb=>exact .of _ rfl ⟨EqAt.tuple_int b tb ha hu,RcAt.tuple_int b tb ha hu,RcNeAt.tuple_int b tb ha hu⟩
  |str b tb=>exact .of _ rfl ⟨EqAt.tuple_str b tb ha hu,RcAt.tuple_str b tb ha hu,RcNeAt.tuple_str b tb ha hu⟩
  |tup b ys its2 ws rp2 rv2 hb qb=>exact .tt a b xs ys its its2 ha hb ⟨vs,ws,rp,rv,rp2,rv2⟩
  |lst b ys its2 ws rp2 rv2 hb qb=>exact .of _ rfl ⟨EqAt.tuple_list ha hb hu,RcAt.tuple_list ha hb hu,RcNeAt.tuple_list ha hb hu⟩
 |lst a xs its vs rp rv ha qa =>
  cases k2 with
  |non  => exact .of _ rfl ⟨EqAt.list_none ha hu,RcAt.list_none ha hu,RcNeAt.list_none ha hu⟩
  |bl b=>exact .of _ rfl ⟨EqAt.list_bool b ha hu,RcAt.list_bool b ha hu,RcNeAt.list_bool b ha hu⟩
  |int b tb=>exact .of _ rfl ⟨EqAt.list_int b tb ha hu,RcAt.list_int b tb ha hu,RcNeAt.list_int b tb ha hu⟩
  |str b tb=>exact .of _ rfl ⟨EqAt.list_str b tb ha hu,RcAt.list_str b tb ha hu,RcNeAt.list_str b tb ha hu⟩
  |tup b ys its2 ws rp2 rv2 hb qb=>exact .of _ rfl ⟨EqAt.list_tuple ha hb hu,RcAt.list_tuple ha hb hu,RcNeAt.list_tuple ha hb hu⟩
  |lst b ys its2 ws rp2 rv2 hb qb=>exact .ll a b xs ys its its2 ha hb ⟨vs,ws,rp,rv,rp2,rv2⟩
theorem E3.cast {A:Bo}{u u':Ac}{b c:Ar}(e:c=b)(h:E3 A s u u' b):E3 A s u u' c:=e▸h
theorem K2 {A:Bo}{a b:Af}{xs ys:Aa D}{its its2:Aa Ac}(hu:A.units<Dw)(ha:s.heap.IsTuple a its.toArray)(hb:s.heap.IsTuple b its2.toArray)(l1:xs.length=its.length)(l2:ys.length=its2.length)
  (sub:∀ j (h1:j<its.toArray.size) (h2:j<its2.toArray.size),wE A.in1 s its.toArray[j] its2.toArray[j] (eqD (xs.getD j .non) (ys.getD j .non))) (same:a=b->xE xs ys=true):E3 A s (.ref a) (.ref b) (xE xs ys):=by
 have e:xE xs ys=((Cg (min its.toArray.size its2.toArray.size)).all (λj=>eqD (xs.getD j .non) (ys.getD j .non))&&its.toArray.size == its2.toArray.size):=by rw[wX,l1,l2];rfl
 have R1:=RcAt.tuples ha hb hu sub;have R2:=RcNeAt.tuples ha hb hu sub;rw[<- e] at R1 R2;refine⟨?_,R1,R2⟩;by_cases hab:a=b
 .rw[same hab,hab]
  exact Aa8 _
 .exact EqAt.of_refs hab R1
theorem HH {A:Bo}{a b:Af}{xs ys:Aa D}{its its2:Aa Ac}(hu:A.units<Dw)(ha:s.heap.IsList a its.toArray)(hb:s.heap.IsList b its2.toArray)(l1:xs.length=its.length)(l2:ys.length=its2.length)
  (sub:∀ j (h1:j<its.toArray.size) (h2:j<its2.toArray.size),wE A.in1 s its.toArray[j] its2.toArray[j] (eqD (xs.getD j .non) (ys.getD j .non))) (same:a=b->xE xs ys=true):E3 A s (.ref a) (.ref b) (xE xs ys):=by
 have R:RcAt A s (.ref a) (.ref b) (xE xs ys)/\RcNeAt A s (.ref a) (.ref b) (!xE xs ys):=by
  by_cases hl:its.length=its2.length
  .have e:xE xs ys=(Cg its.toArray.size).all (λj=>eqD (xs.getD j .non) (ys.getD j .non)):=by rw[wX,l1,l2,<- hl,So,BEq.rfl,Wh];rfl
   rw[e];exact⟨RcAt.lists ha hb hl hu sub,RcNeAt.lists ha hb hl hu sub⟩
  .rw[VB (by rw[l1,l2];exact hl)]
   have hn:(its.toArray.size != its2.toArray.size)=true:=bne_iff_ne.mpr hl;exact⟨RcAt.lists_lengths ha hb hn hu,RcNeAt.lists_lengths ha hb hn hu⟩
 refine⟨?_,R.1,R.2⟩;by_cases hab:a=b
 .rw[same hab,hab]
  exact Aa8 _
 .exact EqAt.of_refs hab R.1
theorem rE (I:Inv X pins σ H s)(r:Rel X.K H P α S):∀ (n:Ai) (A:Bo) (d d':D) (u u':Ac),A.units+n<Dw->pl n d=true->pl n d'=true->Kd X P α s d u->Kd X P α s d' u'->E3 A s u u' (eqD d d'):=by
 intro n
 induction n with
 |zero =>
  intro A d d' u u' hu h1 h2 k1 k2;cases K1 hu k1 k2 with
  |of b e h=>exact h.cast e
  |tt=>exact Cr h1
  |ll=>exact Cr h1
 |succ m ih =>
  intro A d d' u u' hu h1 h2 k1 k2;have hu0:A.units<Dw:=Py (Jm _ _) hu;have hu1:A.in1.units+m<Dw:=by show A.units+1+m<Dw;omega
  have sub:∀ {xs ys:Aa D} {its its2:Aa Ac},xs.all (pl m)=true->ys.all (pl m)=true->Seqs X P α xs ys its its2 ->
    ∀ j (h1:j<its.toArray.size) (h2:j<its2.toArray.size),wE A.in1 s its.toArray[j] its2.toArray[j] (eqD (xs.getD j .non) (ys.getD j .non)):=λ{xs ys its its2} a1 a2 ⟨vs,ws,b1,b2,c1,c2⟩ j g1 g2=>by
   obtain⟨w1,y1,z1,m1⟩:=wC b1 b2 g1;obtain⟨w2,y2,z2,m2⟩:=wC c1 c2 g2;exact(ih A.in1 _ _ _ _ hu1 (xW a1 m1) (xW a2 m2) (yJ I r (xW a1 m1) y1 z1) (yJ I r (xW a2 m2) y2 z2)).eq
  cases K1 hu0 k1 k2 with
  |of b e h=>exact h.cast e
  |tt a b xs ys its its2 ha hb q=>exact(K2 hu0 ha hb q.len1 q.len2 (sub h1 h2 q) λe=>by subst e;exact(tS xs ys).symm.trans (cW I r (m+1) _ _ _ h1 h2 k1 k2)).cast (tS xs ys)
  |ll a b xs ys its its2 ha hb q=>exact(HH hu0 ha hb q.len1 q.len2 (sub h1 h2 q) λe=>by subst e;exact(tR xs ys).symm.trans (cW I r (m+1) _ _ _ h1 h2 k1 k2)).cast (tR xs ys)
def zQ:Ai:=30
def gEq:G2:=λa b S=>if pl zQ a&&pl zQ b then .ok (.bl (eqD a b)) S else .bad
def gNe:G2:=λa b S=>if pl zQ a&&pl zQ b then .ok (.bl (!eqD a b)) S else .bad
set_option tactic.hygienic true in
theorem CT (hu:X.A.units+64<Dw):OpD X (Cu .Eq) gEq:=by
 intro pins σ H s P α S v u vv uu a b Q I r rv ru pa pb af;unfold gEq at af
 split at af
 .rename_i h
  rw[Au] at h;exact(rE I r zQ X.A a b vv uu (by unfold zQ;omega) h.1 h.2 (yJ I r h.1 pa rv) (yJ I r h.2 pb ru)).rc _ _ _ _ ⟨.bl _,H,I,rfl,xr af r (by simp only[Rep])⟩
 .exact Ao af
set_option tactic.hygienic true in
theorem KO (hu:X.A.units+64<Dw):OpD X (Cu .NotEq) gNe:=by
 intro pins σ H s P α S v u vv uu a b Q I r rv ru pa pb af;unfold gNe at af
 split at af
 .rename_i h
  rw[Au] at h;exact(rE I r zQ X.A a b vv uu (by unfold zQ;omega) h.1 h.2 (yJ I r h.1 pa rv) (yJ I r h.2 pb ru)).ne _ _ _ _ ⟨.bl _,H,I,rfl,xr af r (by simp only[Rep])⟩
 .exact Ao af
end
end _D
end
namespace _D
open PySem PySem.Spec PyProof.Rows _L
variable {pins:Aa (Af × Ci)}{kvs:Aa (Key × D)}{its us:Aa Ac}{xs ds:Aa D}{vs:Aa V}{f:Ac->Ac->Oa Ac}{s:Ah}{a d:D}{v:V}{Q:VK}{σ:_L.St}
section
variable {X:Cx}
def i2 (C:Am->Am->Ar)(f:Am->Am->D):G2:=λa b S=>match a,b with
 |.int i,.int j=>if C i j then .ok (f i j) S else .bad
 |_,_=>.bad
theorem K6 {C:Am->Am->Ar}{f:Am->Am->D}{b:D}{S:Sto}{P:Hp}{α:Aa Af}{Ok:D->Sto->Prop}(h:qK X P α (i2 C f a b S) Ok):∃ i j,a=.int i/\b=.int j/\C i j=true/\Ok (f i j) S:=by
 cases a with
 |int i =>
  cases b with
  |int j =>
   obtain⟨hc,h⟩:=xB (X:=X) h;exact⟨i,j,rfl,rfl,hc,h⟩
  |_=>exact Ao h
 |_=>exact Ao h
theorem xG {P:Hp}{α:Aa Af}{i:Am}(r:Rep X.K P α (.int i) v):v=.int i:=by simpa only [Rep] using r
theorem mS {C':Am->Am->Prop}{v:Am->Am->V}{C:Am->Am->Ar}{d:Am->Am->D}(h:OpR X f (rI C' v))(hC:∀ i j,C i j=true->C' i j)(hv:∀ P α i j,Rep X.K P α (d i j) (v i j)):OpD X f (i2 C d):=
 OpD.of h λH P α S x y a b Q r p1 p2 af=>by
  obtain⟨i,j,rfl,rfl,hc,ok⟩:=K6 af;exact⟨i,j,xG p1,xG p2,hC i j hc,xr ok r (hv P α i j)⟩
theorem pN {v:Am->Am->V}{d:Am->Am->D}(h:OpR X f (rI0 v))(hv:∀ P α i j,Rep X.K P α (d i j) (v i j)):OpD X f (i2 (λ_ _=>true) d):=
 OpD.of h λH P α S x y a b Q r p1 p2 af=>by
  obtain⟨i,j,rfl,rfl,_,ok⟩:=K6 af;exact⟨i,j,xG p1,xG p2,xr ok r (hv P α i j)⟩
def wA:G2:=i2 (λ_ _=>true) λi j=>.int (i-j)
theorem SE:OpD X (Ek .Sub) wA:=pN SQ λP α i j=>by simp only[Rep]
def sT (i j:Am):Ar:=decide (-(2 ^ 64)<i/\i<2 ^ 64)||decide (-(2 ^ 64)<j/\j<2 ^ 64)
theorem BY:OpD X (Ek .Mult) (i2 sT λi j=>.int (i*j)):=mS SN (λi j h=>by
 unfold sT at h;rw[Ol] at h;rcases h with h|h
 .exact .inl (Bx h)
 .exact .inr (Bx h)) λP α i j=>by simp only[Rep]
def T1 (i j:Am):Ar:=decide (0<j/\j<1073741824)
def fJ:G2:=i2 T1 λi j=>.int (i/j)
theorem S9:OpD X (Ek .FloorDiv) fJ:=mS F2 (λi j h=>(Bx h:0<j/\j<1073741824)) λP α i j=>by simp only[Rep]
def jJ:G2:=i2 (λ_ j=>decide (0<j)) λi j=>.int (i % j)
theorem SC:OpD X (Ek .Mod) jJ:=mS SM (λi j h=>Bx h) λP α i j=>by simp only[Rep]
def IW (i j:Am):Ar:=decide (0<=j/\j<=1000000/\i.natAbs<2 ^ 64)
def VH:G2:=i2 IW λi j=>.int (i ^ j.toNat)
theorem SD:OpD X (Ek .Pow) VH:=mS SO (λi j h=>(Bx h:0<=j/\j<=1000000/\i.natAbs<2 ^ 64)) λP α i j=>by simp only[Rep]
def gLt:G2:=i2 (λ_ _=>true) λi j=>.bl (decide (i<j))
def gLe:G2:=i2 (λ_ _=>true) λi j=>.bl (decide (i<=j))
def gGt:G2:=i2 (λ_ _=>true) λi j=>.bl (decide (j<i))
def gGe:G2:=i2 (λ_ _=>true) λi j=>.bl (decide (j<=i))
theorem KN:OpD X (Cu .Lt) gLt:=pN A2 λP α i j=>by simp only[Rep]
theorem CY:OpD X (Cu .LtE) gLe:=pN A1 λP α i j=>by simp only[Rep]
theorem CV:OpD X (Cu .Gt) gGt:=pN A0 λP α i j=>by simp only[Rep]
theorem CU:OpD X (Cu .GtE) gGe:=pN CZ λP α i j=>by simp only[Rep]
def kR:D->Sto->Res D:=λa S=>match a with
 |.int i=>.ok (.int (-i)) S
 |_=>.bad
theorem E8:UnD X (Yv .USub) kR:=by
 intro pins σ H s P α S v vv a Q I r rv p af;cases a with
 |int i=>exact E9 pins s σ H v vv Q I rv ⟨i,xG p,xr af r (by simp only[Rep])⟩
 |_=>exact Ao af
def gIs:G2:=λa b S=>match b with
 |.non=>match a with
  |.non=>.ok (.bl true) S
  |_=>.ok (.bl false) S
 |_=>.bad
theorem BU {P:Hp}{α:Aa Af}(r:Rep X.K P α d v):decide (v=.non)=(match d with|.non=>true|_=>false):=by
 cases d <;> simp only[Rep] at r
 case non=>subst r;rfl
 case bl=>subst r;rfl
 case int=>subst r;rfl
 case str=>subst r;rfl
 case ty=>subst r;rfl
 case clo=>obtain⟨rfl,_⟩:=r;rfl
 case obj=>obtain⟨rfl,_⟩:=r;rfl
 case tup=>obtain⟨a,vs,rfl,_⟩:=r;rfl
 case lst=>obtain⟨a,vs,rfl,_⟩:=r;rfl
 case dct0=>obtain⟨a,rfl,_⟩:=r;rfl
 case loc=>obtain⟨a,rfl,_⟩:=r;rfl
 case exn=>obtain⟨a,rfl,_⟩:=r;rfl
 case fd=>obtain⟨a,o,vs,rfl,_⟩:=r;rfl
theorem CW:OpD X (Cu .Is) gIs:=OpD.of SL λH P α S x y a b Q r p1 p2 af=>by
 cases b with
 |non =>
  simp only[Rep] at p2;refine⟨p2,?_⟩;rw[BU p1];cases a <;> exact xr af r (by simp only[Rep])
 |_=>exact Ao af
def zH:G2:=λa b S=>match a,b with
 |.int i,.int j=>.ok (.int (i+j)) S
 |.str x,.str y=>if x.length+y.length<=lim then .ok (.str (x++y)) S else .bad
 |.tup xs,.tup ys=>if xs.length+ys.length<=lim then .ok (.tup (xs++ys)) S else .bad
 |.lst xs,.lst ys=>if xs.length+ys.length<=lim then .ok (.lst (xs++ys)) S else .bad
 |_,_=>.bad
theorem yH {H P:Hp}{α:Aa Af}{S:Sto}(I:Inv X pins σ H s)(r:Rel X.K H P α S)(p:Rep X.K P α (.tup xs) v) :
  ∃ a vs its,v=.ref a/\SqT X.K P a vs/\qD X.K P α xs vs/\qH vs its/\Nj s.heap a its.toArray/\xs.length=its.length/\xs.length<=lim:=by
 simp only[Rep] at p;obtain⟨a,vs,rfl,q,t⟩:=p;obtain⟨its,rv,p1,z⟩:=I.tuple (xH r.sub q);exact⟨a,vs,its,rfl,q,t,rv,p1,by rw[t.length,rv.length],by rw[t.length,zM];exact z⟩
theorem yF {H P:Hp}{α:Aa Af}{S:Sto}(I:Inv X pins σ H s)(r:Rel X.K H P α S)(p:Rep X.K P α (.lst xs) v) :
  ∃ a vs its n,v=.ref a/\SqX X.K P a vs/\qD X.K P α xs vs/\qH vs its/\s.heap.get? a=Ab { cls:=.type "list",data:=.seq its.toArray n } /\ xs.length=its.length/\xs.length<=lim:=by
 simp only[Rep] at p;obtain⟨a,vs,rfl,q,t⟩:=p;have:∃ its n,qH vs its/\s.heap.get? a=Ab { cls:=.type "list",data:=.seq its.toArray n } /\ vs.length<=sizeLine:=by
  rcases q with q|⟨its,n,e,z,rv⟩
  .obtain⟨z,its,n,rv,e⟩:=(iC r.sub q).ok I.hok
   exact⟨its,n,rv,e,z⟩
  .exact⟨its,n,rv,I.kIn _ _ e,z⟩
 obtain⟨its,n,rv,e,z⟩:=this;exact⟨a,vs,its,n,rfl,q,t,rv,e,by rw[t.length,rv.length],by rw[t.length,zM];exact z⟩
theorem rT {H P:Hp}{α:Aa Af}{S:Sto}(I:Inv X pins σ H s)(r:Rel X.K H P α S)(t:qD X.K P α xs vs)(rv:qH vs its)(hz:xs.length<=lim)
  (ok:OkV X P α Q (.tup xs) S):EP X pins σ Q (.ref s.heap.objs.size) { s with heap:=s.heap.push { cls:=.type "tuple",data:=.seq its.toArray } }:=by
 refine⟨.ref s.heap.objs.size,_,I.laid (t':=s.toks) (o:=.tup vs) (λb ob q=>Ag _ q) (AT _) ⟨by rw[<- t.length,<- zM];exact hz,its,rv,XV _ _⟩,rfl,gD r (I.hok.fresh (AT _)) t ok⟩
theorem fO {H P:Hp}{α:Aa Af}{S:Sto}(I:Inv X pins σ H s)(r:Rel X.K H P α S)(t:qD X.K P α xs vs)(rv:qH vs its)(hz:xs.length<=lim)
  (ok:OkV X P α Q (.lst xs) S):EP X pins σ Q (.ref s.heap.objs.size) { s with heap:=s.heap.push { cls:=.type "list",data:=.seq its.toArray } }:=by
 refine⟨.ref s.heap.objs.size,_,I.laid (t':=s.toks) (o:=.lst vs) (λb ob q=>Ag _ q) (AT _) ⟨by rw[<- t.length,<- zM];exact hz,its,0,rv,Ba _ rfl⟩,rfl,wG r (I.hok.fresh (AT _)) t ok⟩
theorem MV {H P:Hp}{α:Aa Af}{S:Sto}{ys:Aa D}{u:V}{vv uu:Ac}(I:Inv X pins σ H s)(r:Rel X.K H P α S)(rv:qI v vv)(ru:qI u uu)(pa:Rep X.K P α (.tup xs) v)(pb:Rep X.K P α (.tup ys) u)(hl:xs.length+ys.length<=lim)(af:OkV X P α Q (.tup (xs++ys)) S) :
  Ap (As X.prog X.w) X.A (Ek .Add vv uu) (EP X pins σ Q) X.xe s:=by
 obtain⟨a,vs,its,rfl,q1,t1,rv1,h1,l1,_⟩:=yH I r pa;obtain⟨b,ws,its2,rfl,q2,t2,rv2,h2,l2,_⟩:=yH I r pb;cases rv;cases ru;by_cases hx:its=[]
 .obtain⟨⟨cls,dd,data,sl⟩,ho,hc,n,hd⟩:=id h1
  obtain⟨⟨cls2,dd2,data2,sl2⟩,ho2,hc2,n2,hd2⟩:=id h2;simp only at hc hd hc2 hd2;subst hc hd hc2 hd2;have hxs:xs=[]:=Jq.mp (by rw[l1,hx];rfl)
  subst hxs;exact Xk ⟨_,ho,rfl⟩ ⟨_,ho2,rfl⟩ Sb Wb Nb Me (L2 _ _) (tuple_addW0 a b its.toArray its2.toArray n n2 dd dd2 sl sl2 (by simp[hx]))
   ⟨ho,ho2,⟨.ref b,H,I,rfl,xr af r pb⟩⟩
 .refine _H.cat_tup h1 h2 hx (λz=>⟨.ref a,H,I,rfl,xr af r ?_⟩) (λz=>?_) (by rw[<- l1,<- l2,<- zM];exact hl)
  .have hys:ys=[]:=Jq.mp (by rw[l2,z];rfl)
   rw[hys,Gx];exact pa
  .exact rT I r (t1.append t2) (rv1.append rv2) (by rw[Cj];exact hl) af
theorem MU {H P:Hp}{α:Aa Af}{S:Sto}{ys:Aa D}{u:V}{vv uu:Ac}(I:Inv X pins σ H s)(r:Rel X.K H P α S)(rv:qI v vv)(ru:qI u uu)(pa:Rep X.K P α (.lst xs) v)(pb:Rep X.K P α (.lst ys) u)(hl:xs.length+ys.length<=lim)(af:OkV X P α Q (.lst (xs++ys)) S) :
  Ap (As X.prog X.w) X.A (Ek .Add vv uu) (EP X pins σ Q) X.xe s:=by
 obtain⟨a,vs,its,n,rfl,q1,t1,rv1,h1,l1,_⟩:=yF I r pa;obtain⟨b,ws,its2,n2,rfl,q2,t2,rv2,h2,l2,_⟩:=yF I r pb;cases rv;cases ru;refine Sg h1 h2 ?_ (by rw[Ay,Ay,<- l1,<- l2,<- zM];exact hl)
 rw[Pb];exact fO I r (t1.append t2) (rv1.append rv2) (by rw[Cj];exact hl) af
inductive AddV (a b:D)(S:Sto):Prop
 |bad (e:zH a b S=.bad)
 |int (i j:Am) (ea:a=.int i) (eb:b=.int j)
 |str (x y:Av) (ea:a=.str x) (eb:b=.str y)
 |tup (x y:Aa D) (ea:a=.tup x) (eb:b=.tup y)
 |lst (x y:Aa D) (ea:a=.lst x) (eb:b=.lst y)
theorem IT (a b:D)(S:Sto):AddV a b S:=by
 cases a with
 |int i=>cases b with
  |int j=>exact .int i j rfl rfl
  |_=>exact .bad rfl
 |str i=>cases b with
  |str j=>exact .str i j rfl rfl
  |_=>exact .bad rfl
 |tup i=>cases b with
  |tup j=>exact .tup i j rfl rfl
  |_=>exact .bad rfl
 |lst i=>cases b with
  |lst j=>exact .lst i j rfl rfl
  |_=>exact .bad rfl
 |_=>exact .bad rfl
theorem S8:OpD X (Ek .Add) zH:=by
 intro pins σ H s P α S v u vv uu a b Q I r rv ru pa pb af;cases IT a b S with
 |bad e=>rw[e] at af;exact Ao af
 |int i j ea eb =>
  subst ea eb;exact SK pins s σ H v u vv uu Q I rv ru ⟨i,j,xG pa,xG pb,xr af r (by simp only[Rep])⟩
 |str x y ea eb =>
  subst ea eb;obtain⟨hl,af⟩:=xB (X:=X) af;simp only[Rep] at pa pb;exact Q5 pins s σ H v u vv uu Q I rv ru ⟨x,y,pa,pb,by rw[<- zM];exact hl,xr af r (by simp only[Rep])⟩
 |tup xs ys ea eb =>
  subst ea eb;obtain⟨hl,af⟩:=xB (X:=X) af;exact MV I r rv ru pa pb hl af
 |lst xs ys ea eb =>
  subst ea eb;obtain⟨hl,af⟩:=xB (X:=X) af;exact MU I r rv ru pa pb hl af
def gIx:G2:=λa b S=>match b with
 |.int k=>match a with
  |.tup xs=>vM (atI xs k) S
  |.lst xs=>vM (atI xs k) S
  |.loc i=>match S[i]? with
   |some (.lst xs)=>vM (atI xs k) S
   |_=>.bad
  |_=>.bad
 |_=>.bad
theorem tK {P:Hp}{α:Aa Af}{k:Am}(rp:qD X.K P α ds vs)(h:atI ds k=Ab d):∃ v,atI vs k=Ab v/\Rep X.K P α d v:=by
 unfold atI at h ⊢;rw[<- rp.length];cases q:ixN ds.length k with
 |none=>rw[q] at h;cases h
 |some j =>
  rw[q] at h;obtain⟨v,h1,h2⟩:=rp.get (show ds[j]? = Ab d from h)
  exact⟨v,h1,h2⟩
theorem OK:IxD X gIx:=by
 intro value slice pins σ H s P α S v u vv uu a b Q I r rv ru pa pb af hs;cases b with
 |int k =>
  have hk:=xG pb;cases a with
  |tup xs =>
   obtain⟨d,e,ok⟩:=vN (X:=X) af;simp only[Rep] at pa;obtain⟨p,vs,rfl,q,t⟩:=pa;obtain⟨w,e1,rw'⟩:=tK t e;exact LC value slice pins s σ H _ u vv uu Q I rv ru ⟨p,vs,k,w,rfl,hk,xH r.sub q,e1,xr ok r rw'⟩ hs
  |lst xs =>
   obtain⟨d,e,ok⟩:=vN (X:=X) af;simp only[Rep] at pa;obtain⟨p,vs,rfl,q,t⟩:=pa;obtain⟨w,e1,rw'⟩:=tK t e;exact aK value slice pins s σ H _ u vv uu Q I rv ru ⟨p,vs,k,w,rfl,hk,(x9 r.sub q).l,e1,xr ok r rw'⟩ hs
  |loc i =>
   obtain⟨xs,hS,af⟩:=uU (X:=X) (f:=λxs=>vM (atI xs k) S) af;obtain⟨d,e,ok⟩:=vN (X:=X) af;simp only[Rep] at pa;obtain⟨p,rfl,q⟩:=pa;obtain⟨vs,z,t⟩:=r.at' i p _ q hS;obtain⟨w,e1,rw'⟩:=tK t e;exact aK value slice pins s σ H _ u vv uu Q I rv ru ⟨p,vs,k,w,rfl,hk,.of z,e1,xr ok r rw'⟩ hs
  |_=>exact Ao af
 |_=>exact Ao af
def pD:G3:=λo i d S=>match o,i with
 |.loc n,.int k=>match S[n]? with
  |some (.lst xs)=>match ixN xs.length k with
   |some j=>.ok () (S.set n (.lst (xs.set j d)))
   |none=>.bad
  |_=>.bad
 |_,_=>.bad
theorem AK:sO X (sJ X pD):=by
 intro pins s σ H o i v ov iv u Q I ro ri rv h;obtain⟨P,α,S,a,b,d,r,pa,pb,pd,af⟩:=h;cases a with
 |loc n =>
  cases b with
  |int k =>
   obtain⟨xs,hS,af⟩:=uU (X:=X) (f:=λxs=>match ixN xs.length k with|some j=>.ok () (S.set n (.lst (xs.set j d)))|none=>.bad) af
   cases hj:ixN xs.length k with
   |none=>rw[hj] at af;exact Ao af
   |some j =>
    rw[hj] at af;simp only[Rep] at pa;obtain⟨p,rfl,q⟩:=pa;obtain⟨vs,z,t⟩:=r.at' n p _ q hS;refine JC pins s σ H _ i v ov iv u Q I ro ri rv ⟨p,vs,k,j,rfl,xG pb,z,by rw[<- t.length];exact hj,?_⟩
    refine af _ P α (r.put (m':=.lst (xs.set j d)) q hS (by intro z;cases z) ⟨vs.set j v,qQ,t.set pd j⟩) (qF.refl _) (Bh _)
  |_=>exact Ao af
 |_=>exact Ao af
def oQ:D->Sto->Al Ai
 |.tup xs,_=>Ab xs.length
 |.lst xs,_=>Ab xs.length
 |.str x,_=>if x.length<=lim then Ab x.length else none
 |.dct0,_=>Ab 0
 |.loc i,S=>match S[i]? with
  |some (.lst xs)=>Ab xs.length
  |_=>none
 |_,_=>none
def rJ:DF:=λds S=>match ds with
 |[d]=>match oQ d S with
  |some n=>.ok (.int n) S
  |none=>.bad
 |_=>.bad
end
section
variable {X:Cx}
theorem wH {P:Hp}{α:Aa Af}(rp:qD X.K P α [d] vs)(rv:qH vs us):∃ v u,vs=[v]/\us=[u]/\Rep X.K P α d v/\qI v u:=by
 obtain⟨v,ws,rfl,p,t⟩:=rp.cons_inv;have:=t.nil_inv;subst this;obtain⟨u,rfl,q⟩:=jG rv;exact⟨v,u,rfl,rfl,p,q⟩
theorem gF {P:Hp}{α:Aa Af}{e:D}(rp:qD X.K P α [d,e] vs)(rv:qH vs us):∃ v w u x,vs=[v,w]/\us=[u,x]/\Rep X.K P α d v/\Rep X.K P α e w/\qI v u/\qI w x:=by
 obtain⟨v,ws,rfl,p,t⟩:=rp.cons_inv;obtain⟨w,ws,rfl,p',t⟩:=t.cons_inv;have:=t.nil_inv;subst this;obtain⟨u,x,rfl,q,q'⟩:=sM rv;exact⟨v,w,u,x,rfl,rfl,p,p',q,q'⟩
def oP (d:D)(S:Sto):Al Ai:=match d with
 |.dct0=>none
 |_=>oQ d S
theorem LY {H P:Hp}{α:Aa Af}{S:Sto}{n:Ai}(r:Rel X.K H P α S)(p:Rep X.K P α d v)(hn:oP d S=Ab n):MP X.K v H n:=by
 cases d with
 |str x =>
  cases (show v=.str x from p)
  obtain⟨hl,rfl⟩:=kX hn;exact⟨by rw[<- zM];exact hl,rfl⟩
 |tup xs =>
  simp only[Rep] at p;obtain⟨a,ws,rfl,sq,t⟩:=p;cases hn;exact .inr ⟨ws,xH r.sub sq,t.length⟩
 |lst xs =>
  simp only[Rep] at p;obtain⟨a,ws,rfl,sq,t⟩:=p;cases hn;exact .inl ⟨ws,(x9 r.sub sq).l,t.length⟩
 |loc i =>
  simp only[Rep] at p;obtain⟨a,rfl,e⟩:=p;obtain⟨xs,hS,hn⟩:=D5 (f:=λxs=>Ab xs.length) hn;cases hn;obtain⟨ws,z,t⟩:=r.at' i a _ e hS;exact .inl ⟨ws,.of z,t.length⟩
 |_=>exact nn hn
inductive LenD1 (ds:Aa D)(S:Sto)(r:Res D):Prop
 |bad (e:r=.bad)
 |of (d:D) (n:Ai) (ed:ds=[d]) (hn:oP d S=Ab n) (e:r=.ok (.int n) S)
theorem HW (ds:Aa D)(S:Sto):LenD1 ds S (match ds with|[.dct0]=>.bad|_=>rJ ds S):=by
 cases ds with
 |nil=>exact .bad rfl
 |cons d ds =>
  cases ds with
  |cons _ _=>cases d <;> exact .bad rfl
  |nil =>
   have z:(match [d] with|[D.dct0]=>Res.bad|_=>rJ [d] S)=(match oP d S with|some n=>Res.ok (D.int n) S|none=>.bad):=by cases d <;> rfl
   rw[z];cases hn:oP d S with
   |none=>exact .bad rfl
   |some n=>exact .of d n rfl hn rfl
theorem T6 (hD:Kl):w8 X (.builtin "len") (λds S=>match ds with|[.dct0]=>.bad|_=>rJ ds S):=by
 intro pins σ H s P α S vs us ds Q I r rv rp af;have af1:qK X P α (match ds with|[D.dct0]=>Res.bad|_=>rJ ds S) (OkV X P α Q):=af
 clear af;cases HW ds S with
 |bad e=>rw[e] at af1;exact Ao af1
 |of d n ed hn e =>
  rw[e] at af1;subst ed;obtain⟨v,u,rfl,rfl,p,q⟩:=wH rp rv;exact YG pins s σ H _ _ Q I rv ⟨v,n,rfl,LY r p hn,xr af1 r (by simp only[Rep])⟩
def tyD:D->Sto->Al Ef
 |.non,_=>Ab "NoneType"
 |.bl _,_=>Ab "bool"
 |.int _,_=>Ab "int"
 |.str _,_=>Ab "str"
 |.tup _,_=>Ab "tuple"
 |.lst _,_=>Ab "list"
 |.dct0,_=>Ab "dict"
 |.loc i,S=>match S[i]? with
  |some (.lst _)=>Ab "list"
  |some (.dct _)=>Ab "dict"
  |_=>none
 |_,_=>none
def wB (a b:Ef):Ar:=a == b||(a == "bool" && b == "int")
def uT (b:Ef):Ar:=b == "int" || b == "bool" || b == "tuple" || b == "list" || b == "str" || b == "dict"
def LP (a b:Ef):Al Ar:=if (Gk a == Gk b)=true then Ab true else if PySem.W.kitMeta b=true then (fastBuiltinMro a).map (·.contains (.type b)) else none
def tyL:Aa Ef:=["NoneType","bool","int","str","tuple","list","dict"]
def okL:Aa Ef:=["int","bool","tuple","list","str","dict"]
theorem BE:(tyL.all λa=>okL.all λb=>decide (LP a b=Ab (wB a b)))=true:=by decide +kernel
theorem SH {b:Ef}(hb:uT b=true):b∈okL:=by simpa [uT,okL,or_assoc] using hb
theorem n9 {K:Aj}{a b:Ef}(ha:a∈tyL)(hb:uT b=true):Km K (.type a) (.type b)=Ab (wB a b):=
 Bx (p:=LP a b=Ab (wB a b)) (Be.mp (Be.mp BE a ha) b (SH hb))
def zY:DF:=λds S=>match ds with
 |[d,.ty b]=>if uT b then match tyD d S with
   |some a=>.ok (.bl (wB a b)) S
   |none=>.bad
  else .bad
 |_=>.bad
inductive TyV (X:Cx)(H:Hp)(v:V)(a:Ef):Prop
 |of (t:TyOf X.K H v (.type a))
 |tup (p:Af) (vs:Aa V) (e:v=.ref p) (q:SqT X.K H p vs) (ea:a = "tuple")
 |lst (p:Af) (vs:Aa V) (e:v=.ref p) (q:SqL X.K H p vs) (ea:a = "list")
theorem c6 {S:Sto}{a:Ef}(h:tyD d S=Ab a):a∈tyL:=by
 cases d with
 |non=>cases h;exact .head _
 |bl b=>cases h;exact .tail _ (.head _)
 |int i=>cases h;exact .tail _ (.tail _ (.head _))
 |str x=>cases h;exact .tail _ (.tail _ (.tail _ (.head _)))
 |tup xs=>cases h;exact .tail _ (.tail _ (.tail _ (.tail _ (.head _))))
 |lst xs=>cases h;exact .tail _ (.tail _ (.tail _ (.tail _ (.tail _ (.head _)))))
 |dct0=>cases h;exact .tail _ (.tail _ (.tail _ (.tail _ (.tail _ (.tail _ (.head _))))))
 |loc i =>
  rcases nN (f:=λ_=>Ab "list") (g:=λ_=>Ab "dict") h with⟨_,_,h⟩|⟨_,_,h⟩
  .cases h;exact .tail _ (.tail _ (.tail _ (.tail _ (.tail _ (.head _)))))
  .cases h;exact .tail _ (.tail _ (.tail _ (.tail _ (.tail _ (.tail _ (.head _))))))
 |_=>exact nn h
theorem GA {H P:Hp}{α:Aa Af}{S:Sto}{a:Ef}(r:Rel X.K H P α S)(p:Rep X.K P α d v)(h:tyD d S=Ab a):TyV X H v a:=by
 cases d with
 |non=>cases h;cases (show v=.non from p);exact .of .non
 |bl b=>cases h;cases (show v=.bl b from p);exact .of (.bl b)
 |int i=>cases h;cases (show v=.int i from p);exact .of (.int i)
 |str x=>cases h;cases (show v=.str x from p);exact .of (.str x)
 |tup xs =>
  cases h;simp only[Rep] at p;obtain⟨a,vs,e,q,t⟩:=p;exact .tup a vs e (xH r.sub q) rfl
 |lst xs =>
  cases h;simp only[Rep] at p;obtain⟨a,vs,e,q,t⟩:=p;exact .lst a vs e (x9 r.sub q).l rfl
 |dct0 =>
  cases h;simp only[Rep] at p;obtain⟨a,rfl,q⟩:=p;exact .of (.dK (r.sub _ _ q))
 |loc i =>
  simp only[Rep] at p;obtain⟨a,rfl,q⟩:=p;rcases nN (f:=λ_=>Ab "list") (g:=λ_=>Ab "dict") h with⟨xs,hS,h⟩|⟨kvs,hS,h⟩
  .cases h
   obtain⟨vs,z,t⟩:=r.at' i a _ q hS;exact .of (.lst z)
  .cases h
   obtain⟨vs,z,t⟩:=r.at' i a _ q hS;exact .of (.dK z)
 |_=>exact nn h
inductive IsiV (ds:Aa D)(S:Sto):Prop
 |bad (e:zY ds S=.bad)
 |of (d:D) (b a:Ef) (ed:ds=[d,.ty b]) (hb:uT b=true) (ha:tyD d S=Ab a) (e:zY ds S=.ok (.bl (wB a b)) S)
theorem OG (ds:Aa D)(S:Sto):IsiV ds S:=by
 cases ds with
 |nil=>exact .bad rfl
 |cons d ds =>
  cases ds with
  |nil=>exact .bad rfl
  |cons e ds =>
   cases ds with
   |cons _ _=>cases e <;> exact .bad rfl
   |nil =>
    cases e with
    |ty b =>
     have z:zY [d,.ty b] S=if uT b then (match tyD d S with|some a=>.ok (.bl (wB a b)) S|none=>.bad) else .bad:=rfl
     by_cases hb:uT b=true
     .rw[Bb hb] at z
      cases ha:tyD d S with
      |none=>rw[ha] at z;exact .bad z
      |some a=>rw[ha] at z;exact .of d b a rfl hb ha z
     .rw[Bc hb] at z
      exact .bad z
    |_=>exact .bad rfl
theorem Z4:w8 X (.builtin "isinstance") zY:=by
 intro pins σ H s P α S vs us ds Q I r rv rp af;cases OG ds S with
 |bad e=>rw[e] at af;exact Ao af
 |of d b a ed hb ha e =>
  subst ed;rw[e] at af;obtain⟨v,w,u,x,rfl,rfl,p,p',q,q'⟩:=gF rp rv;simp only[Rep] at p';subst p';cases (show x=Gk b from q')
  have kit:=n9 (K:=X.K) (c6 ha) hb;have fin:∀ tk,EP X pins σ Q (.bool (wB a b)) { s with toks:=tk }:=λtk=>⟨.bl _,H,I.tok tk,rfl,xr af r (by simp only[Rep])⟩
  cases GA r p ha with
  |of ht=>exact ZY I q ht kit fin
  |tup p' ws e sq ea =>
   subst e ea;cases (show u=Bs p' from q)
   obtain⟨its,rv',⟨o,h1,h2,_⟩,_⟩:=I.tuple sq;exact En Mb I.kIn ⟨o,h1,h2⟩ kit (λz=>nomatch z) fin
  |lst p' ws e sq ea =>
   subst e ea;cases (show u=Bs p' from q)
   obtain⟨its,rv',⟨o,_,h1,h2,_⟩,_⟩:=I.list sq;exact En IN I.kIn ⟨o,h1,h2⟩ kit (λz=>nomatch z) fin
def zX:Aa D->Al (Aa Ar)
 |[]=>Ab []
 |.bl b::r=>(zX r).map (b::·)
 |_=>none
theorem v3 {P:Hp}{α:Aa Af}:∀ {ds:Aa D} {bs:Aa Ar} {vs:Aa V} {us:Aa Ac},zX ds=Ab bs->qD X.K P α ds vs->qH vs us->us=bs.map Fp
 |[],bs,vs,us,h,rp,rv=>by
  cases h;have:=rp.nil_inv;subst this;cases rv;rfl
 |d::ds,bs,vs,us,h,rp,rv=>by
  cases d with
  |bl b =>
   obtain⟨bs',q,rfl⟩:=De.mp (show (zX ds).map (b::·)=Ab bs from h)
   obtain⟨w,ws,rfl,p,t⟩:=rp.cons_inv;simp only[Rep] at p;subst p;cases rv with
   |cons q1 q2 =>
    cases (show _=Fp b from q1)
    rw[v3 q t q2];rfl
  |_=>exact nn h
def pA (any:Ar):DF:=λds S=>match ds with
 |[d]=>match (zV d).bind zX with
  |some bs=>.ok (.bl (if any then bs.any id else bs.all id)) S
  |none=>.bad
 |_=>.bad
theorem d9 (bs:Aa Ar):((Cg bs.length).all λi=>bs.getD i false)=bs.all id:=by
 induction bs with
 |nil=>rfl
 |cons b bs ih =>
  rw[Ch,Ng,Qw,Jr,Qw,<- ih];rfl
theorem dA (bs:Aa Ar):((Cg bs.length).any λi=>bs.getD i false)=bs.any id:=by
 induction bs with
 |nil=>rfl
 |cons b bs ih =>
  rw[Ch,Ng,Jy,List.any_map,Jy,<- ih];rfl
theorem ZZ {H:Hp}{o:Ci}{h':Bj}{tk:Ai}(I:Inv X pins σ H s)(k:∀ b ob,b ∉ [s.heap.objs.size]->(s.heap.push o).get? b=Ab ob->h'.get? b=Ab ob):Inv X pins σ H { s with heap:=h',toks:=tk }:=
 I.kept λb u e=>k b u (by simp;exact Bv (Ax e)) (Ag _ e)
theorem jE {bs:Aa Ar}(hi:its=bs.map Fp){A:Bo}:TruthOf X.prog X.w A (λi v=>its.toArray[i]? = Ab v) (λi=>bs.getD i false):=λi v s' Q' E' hv hQ=>by
 subst hi;have hv':(bs.map Fp)[i]? = Ab v:=by simpa using hv
 rw[Dc] at hv';cases e:bs[i]? with
 |none=>rw[e] at hv';exact nn hv'
 |some b =>
  rw[e] at hv';cases Co hv';have:bs.getD i false=b:=by simp[Gs,e]
  have hQ':Q' (bs.getD i false) s':=hQ;rw[this] at hQ';exact Ms hQ'
theorem B2 {any:Ar}{S:Sto}{P:Hp}{α:Aa Af}{Ok:D->Sto->Prop}(h:qK X P α (pA any ds S) Ok):∃ d xs bs,ds=[d]/\ItV d xs/\zX xs=Ab bs/\Ok (.bl (if any then bs.any id else bs.all id)) S:=by
 obtain⟨d,rfl,h1⟩:=eF (X:=X) (β:=D) (g:=λd=>match (zV d).bind zX with|some bs=>.ok (D.bl (if any then bs.any id else bs.all id)) S|none=>.bad) h
 cases hb:(zV d).bind zX with
 |none=>rw[hb] at h1;exact Ao h1
 |some bs =>
  rw[hb] at h1;obtain⟨xs,hx,hbs⟩:=Ey.mp hb;exact⟨d,xs,bs,rfl,itV hx,hbs,h1⟩
theorem T3 (any:Ar)(hc:X.calm=true):w8 X (.builtin (if any then "any" else "all")) (pA any):=by
 intro pins σ H s P α S vs us ds Q I r rv rp af;obtain⟨d,xs,bs,ed,hd,hbs,ok⟩:=B2 af;clear af;subst ed;obtain⟨v,u,rfl,rfl,p,q⟩:=wH rp rv;clear rp;have fin:∀ {o:Ci} (h':Bj) (tk:Ai),(∀ b ob,b ∉ [s.heap.objs.size]->(s.heap.push o).get? b=Ab ob->h'.get? b=Ab ob)->EP X pins σ Q (.bool (if any then bs.any id else bs.all id)) { s with heap:=h',toks:=tk }:=
  λ{o} h' tk k=>⟨.bl _,H,ZZ I k,rfl,xr ok r (by simp only[Rep])⟩
 clear rv ok;have hh:X.A.in1.handled=none:=I.ok.hd hc;cases hd with
 |tup ed =>
  subst ed;obtain⟨a,ws,its,rfl,sq,t,rvi,ht,hl,_⟩:=yH I r p;cases (show u=Bs a from q)
  have hi:=v3 hbs t rvi;have hlen:its.toArray.size=bs.length:=by rw[hi];simp
  have hne:a≠s.heap.objs.size:=by obtain⟨o,e,_⟩:=ht;exact Bv (Ax e)
  have W:=Walks.tuple (prog:=X.prog) (w:=X.w) hh s.heap.objs.size a hne its.toArray;have hT:∀ o,(s.heap.push o).IsTuple a its.toArray:=λo=>by obtain⟨o,e,c⟩:=ht;exact⟨o,Ag _ e,c⟩
  have ht':s.heap.IsTuple a its.toArray:=ht;cases any with
  |false =>
   refine call_all_walk (Hd ht' ⟨s.heap.objs.size,_,_,_,_,_,_,rfl,W,⟨⟨_,Ba _ rfl,rfl,rfl⟩,hT _⟩,jE hi,λh' tk k=>?_⟩);rw[hlen,d9];exact fin h' tk k
  |true =>
   refine call_any_walk (Hd ht' ⟨s.heap.objs.size,_,_,_,_,_,_,rfl,W,⟨⟨_,Ba _ rfl,rfl,rfl⟩,hT _⟩,jE hi,λh' tk k=>?_⟩);rw[hlen,dA];exact fin h' tk k
 |lst ed =>
  subst ed;obtain⟨a,ws,its,n,rfl,sq,t,rvi,ht,hl,_⟩:=yF I r p;cases (show u=Bs a from q)
  have hL:s.heap.IsList a its.toArray:=⟨_,ht,rfl,n,rfl⟩;have hi:=v3 hbs t rvi;have hlen:its.toArray.size=bs.length:=by rw[hi];simp
  have hne:a≠s.heap.objs.size:=Bv (Ax ht);have W:=Wi (prog:=X.prog) (w:=X.w) hh s.heap.objs.size a hne its.toArray;have hL':∀ o,(s.heap.push o).IsList a its.toArray:=λo=>⟨_,Ag _ ht,rfl,n,rfl⟩;cases any with
  |false =>
   refine call_all_walk (Fm hL ⟨s.heap.objs.size,_,_,_,_,_,_,rfl,W,⟨⟨_,Ba _ rfl,rfl,rfl⟩,hL' _⟩,jE hi,λh' tk k=>?_⟩);rw[hlen,d9];exact fin h' tk k
  |true =>
   refine call_any_walk (Fm hL ⟨s.heap.objs.size,_,_,_,_,_,_,rfl,W,⟨⟨_,Ba _ rfl,rfl,rfl⟩,hL' _⟩,jE hi,λh' tk k=>?_⟩);rw[hlen,dA];exact fin h' tk k
def oH:DF:=λds S=>match ds with
 |[.int i]=>.ok (.int i) S
 |[.bl b]=>.ok (.int (b01 b)) S
 |_=>.bad
inductive IntV (ds:Aa D)(S:Sto):Prop
 |bad (e:oH ds S=.bad)
 |int (i:Am) (e:ds=[.int i])
 |bl (b:Ar) (e:ds=[.bl b])
theorem OD (ds:Aa D)(S:Sto):IntV ds S:=by
 cases ds with
 |nil=>exact .bad rfl
 |cons d ds =>
  cases ds with
  |cons _ _=>cases d <;> exact .bad rfl
  |nil =>
   cases d with
   |int i=>exact .int i rfl
   |bl b=>exact .bl b rfl
   |_=>exact .bad rfl
theorem T4:w8 X (.type "int") oH:=by
 intro pins σ H s P α S vs us ds Q I r rv rp af;cases OD ds S with
 |bad e=>rw[e] at af;exact Ao af
 |int i e =>
  subst e;obtain⟨v,u,rfl,rfl,p,q⟩:=wH rp rv;exact lE pins s σ H _ _ Q I rv (.inl ⟨_,by rw[xG p],xr af r (by simp only[Rep])⟩)
 |bl b e =>
  subst e;obtain⟨v,u,rfl,rfl,p,q⟩:=wH rp rv;simp only[Rep] at p;subst p;exact lE pins s σ H _ _ Q I rv (.inr ⟨_,rfl,xr af r (by simp only[Rep];rfl)⟩)
def jV:DF:=λds S=>match ds with
 |[d]=>match zV d with
  |some xs=>.ok (.tup xs) S
  |none=>.bad
 |_=>.bad
theorem YJ:w8 X (.type "tuple") jV:=by
 intro pins σ H s P α S vs us ds Q I r rv rp af;obtain⟨d,rfl,af1⟩:=eF (X:=X) (β:=D) (g:=λd=>match zV d with|some xs=>.ok (D.tup xs) S|none=>.bad) af
 obtain⟨xs,hx,af2⟩:∃ xs,zV d=Ab xs/\OkV X P α Q (.tup xs) S:=by
  cases hx:zV d with
  |none=>rw[hx] at af1;exact Ao af1
  |some xs=>rw[hx] at af1;exact⟨xs,rfl,af1⟩
 obtain⟨v,u,rfl,rfl,p,q⟩:=wH rp rv;cases itV hx with
 |tup e =>
  subst e;have p0:=p;simp only[Rep] at p;obtain⟨a,ws,rfl,sq,t⟩:=p;exact gR pins s σ H _ _ Q I rv ⟨a,ws,rfl,.inr ⟨xH r.sub sq,xr af2 r p0⟩⟩
 |lst e =>
  subst e;simp only[Rep] at p;obtain⟨a,ws,rfl,sq,t⟩:=p;exact gR pins s σ H _ _ Q I rv ⟨a,ws,rfl,.inl ⟨(x9 r.sub sq).l,λl hl=>gD r hl t af2⟩⟩
def dX:DF:=λds S=>match ds with
 |[d]=>match zV d with
  |some xs=>.ok (.lst xs) S
  |none=>.bad
 |_=>.bad
theorem GO:w8 X (.type "list") dX:=by
 intro pins σ H s P α S vs us ds Q I r rv rp af;obtain⟨d,rfl,af1⟩:=eF (X:=X) (β:=D) (g:=λd=>match zV d with|some xs=>.ok (D.lst xs) S|none=>.bad) af
 obtain⟨xs,hx,af2⟩:∃ xs,zV d=Ab xs/\OkV X P α Q (.lst xs) S:=by
  cases hx:zV d with
  |none=>rw[hx] at af1;exact Ao af1
  |some xs=>rw[hx] at af1;exact⟨xs,rfl,af1⟩
 obtain⟨v,u,rfl,rfl,p,q⟩:=wH rp rv;cases itV hx with
 |tup e =>
  subst e;simp only[Rep] at p;obtain⟨a,ws,rfl,sq,t⟩:=p;exact gX pins s σ H _ _ Q I rv ⟨a,ws,rfl,.inr (xH r.sub sq),λl hl=>wG r hl t af2⟩
 |lst e =>
  subst e;simp only[Rep] at p;obtain⟨a,ws,rfl,sq,t⟩:=p;exact gX pins s σ H _ _ Q I rv ⟨a,ws,rfl,.inl ((x9 r.sub sq).l),λl hl=>wG r hl t af2⟩
end
section
variable {X:Cx}
structure ClsK (K:Aj)(cl:Aa Af):Prop where
 ex:∀ C∈cl,ExnK K C
 one:∀ C∈cl,∀ B∈cl,Km K (.ref C) (.ref B)=Ab (C == B)
 ve:∀ C∈cl,Km K (.ref C) (.type "ValueError")=Ab true
def zO (cl:Aa Af):DF:=λds S=>match ds with
 |[.exn (.ref C),.obj B]=>if cl.contains C&&cl.contains B then .ok (.bl (C == B)) S else .bad
 |[.exn (.ref C),.ty b]=>if cl.contains C&&(b == "ValueError") then .ok (.bl true) S else .bad
 |_=>zY ds S
theorem ZP {H P:Hp}{α:Aa Af}{S:Sto}{C:Af}{u:Ac}(I:Inv X pins σ H s)(r:Rel X.K H P α S)(p:Rep X.K P α (.exn (.ref C)) v)(q:qI v u):∃ a,u=.ref a/\vR a C s.heap:=by
 simp only[Rep] at p;obtain⟨a,rfl,z⟩:=p;obtain⟨y,_⟩:=I.hok a _ (r.sub _ _ z);exact⟨a,q,y⟩
inductive IsiE (cl:Aa Af)(ds:Aa D)(S:Sto):Prop
 |bad (e:zO cl ds S=.bad)
 |old (e:zO cl ds S=zY ds S)
 |obj (C B:Af) (ed:ds=[.exn (.ref C),.obj B]) (h1:C∈cl) (h2:B∈cl) (e:zO cl ds S=.ok (.bl (C == B)) S)
 |ve (C:Af) (ed:ds=[.exn (.ref C),.ty "ValueError"]) (h1:C∈cl) (e:zO cl ds S=.ok (.bl true) S)
theorem HR (cl:Aa Af)(C:Af)(d:D)(S:Sto):IsiE cl [.exn (.ref C),d] S:=by
 cases d with
 |obj B =>
  have z:zO cl [.exn (.ref C),.obj B] S=if (cl.contains C&&cl.contains B)=true then .ok (.bl (C == B)) S else .bad:=rfl
  by_cases h:(cl.contains C&&cl.contains B)=true
  .rw[Bb h] at z
   have h':=Fc.mp h;exact .obj C B rfl (Ew.mp h'.1) (Ew.mp h'.2) z
  .rw[Bc h] at z
   exact .bad z
 |ty b =>
  have z:zO cl [.exn (.ref C),.ty b] S=if (cl.contains C&&(b == "ValueError"))=true then .ok (.bl true) S else .bad:=rfl
  by_cases h:(cl.contains C&&(b == "ValueError"))=true
  .rw[Bb h] at z
   have h':=Fc.mp h;cases (Pa.mp h'.2);exact .ve C rfl (Ew.mp h'.1) z
  .rw[Bc h] at z
   exact .bad z
 |_=>exact .old rfl
theorem OF (cl:Aa Af)(ds:Aa D)(S:Sto):IsiE cl ds S:=by
 cases ds with
 |nil=>exact .old rfl
 |cons a ds =>
  cases a with
  |exn c =>
   cases c with
   |ref C =>
    cases ds with
    |nil=>exact .old rfl
    |cons b ds =>
     cases ds with
     |nil=>exact HR cl C b S
     |cons _ _=>cases b <;> exact .old rfl
   |_=>exact .old rfl
  |_=>exact .old rfl
theorem GL {cl:Aa Af}(hK:ClsK X.K cl):w8 X (.builtin "isinstance") (zO cl):=by
 intro pins σ H s P α S vs us ds Q I r rv rp af;cases OF cl ds S with
 |bad e=>rw[e] at af;exact Ao af
 |old e=>rw[e] at af;exact Z4 pins σ H s P α S vs us ds Q I r rv rp af
 |obj C B ed h1 h2 e =>
  rw[e] at af;subst ed;obtain⟨v,w,u,x,rfl,rfl,p,p',q,q'⟩:=gF rp rv;simp only[Rep] at p';obtain⟨rfl,_⟩:=p';cases (show x=Bs B from q')
  obtain⟨a,rfl,ha⟩:=ZP I r p q;exact En (rS (hK.ex C h1)) I.kIn ha (hK.one C h1 B h2) (λz=>nomatch z) λtk=>⟨.bl _,H,I.tok tk,rfl,xr af r (by simp only[Rep])⟩
 |ve C ed h1 e =>
  rw[e] at af;subst ed;obtain⟨v,w,u,x,rfl,rfl,p,p',q,q'⟩:=gF rp rv;simp only[Rep] at p';subst p';cases (show x=Gk "ValueError" from q')
  obtain⟨a,rfl,ha⟩:=ZP I r p q;exact En (rS (hK.ex C h1)) I.kIn ha (hK.ve C h1) (λz=>nomatch z) λtk=>⟨.bl _,H,I.tok tk,rfl,xr af r (by simp only[Rep])⟩
def MtD (X:Cx)(id:Ef)(g:D->Aa D->Sto->Res D):Prop:=
 ∀ (pins:Aa (Af × Ci)) (σ : _L.St) (H:Hp) (s:Ah) (P:Hp) (α : Aa Af) (S:Sto) (v:V) (vv:Ac) (vs:Aa V) (us:Aa Ac) (a:D) (ds:Aa D) (Q:VK),Inv X pins σ H s->Rel X.K H P α S->qI v vv->Rep X.K P α a v->qH vs us->qD X.K P α ds vs->qR X P α (g a ds S) Q ->
  Ap (As X.prog X.w) X.A (call (.builtin id) (vv::us)) (EP X pins σ Q) X.xe s
def dBm (T:Ef)(g:D->Aa D->Sto->Res D)(fo:DE)(fa:DA):DE:=λenv S=>(fo env S).bind λa S1=>if (tyD a S1 == Ab T)=true then (fa env S1).bind λds S2=>g a ds S2 else .bad
theorem Y1 {H P:Hp}{α:Aa Af}{S:Sto}{T:Ef}(r:Rel X.K H P α S)(p:Rep X.K P α a v)(h:tyD a S=Ab T)(hT:T = "list" \/ T = "dict" \/ T = "int" \/ T = "str"):tyV X.K T v H:=by
 cases a with
 |int i=>cases h;simp only[Rep] at p;subst p;rfl
 |str x=>cases h;simp only[Rep] at p;subst p;rfl
 |lst xs =>
  cases h;simp only[Rep] at p;obtain⟨b,vs,rfl,q,t⟩:=p;exact .inl ⟨rfl,vs,(x9 r.sub q).l⟩
 |dct0 =>
  cases h;simp only[Rep] at p;obtain⟨b,rfl,q⟩:=p;exact .inr (.inr (.inl ⟨rfl,.inl ⟨[],r.sub _ _ q⟩⟩))
 |loc i =>
  simp only[Rep] at p;obtain⟨b,rfl,q⟩:=p;rcases nN (f:=λ_=>Ab "list") (g:=λ_=>Ab "dict") h with⟨xs,hS,h⟩|⟨kvs,hS,h⟩
  .cases h
   obtain⟨vs,z,t⟩:=r.at' i b _ q hS;exact .inl ⟨rfl,vs,SqL.of z⟩
  .cases h
   obtain⟨vs,z,t⟩:=r.at' i b _ q hS;exact .inr (.inr (.inl ⟨rfl,.inl ⟨vs,z⟩⟩))
 |non=>cases h;exact absurd hT (by decide)
 |bl b=>cases h;exact absurd hT (by decide)
 |tup xs=>cases h;exact absurd hT (by decide)
 |_=>exact nn h
variable {o e:Br}{es:Aa Br}{fo:DE}{fa:DA}{name:Av}{apos cpos:Ex}{T id:Ef}{g:D->Aa D->Sto->Res D}
theorem TR {P:Hp}{α:Aa Af}{S:Sto}{β:Type}{k:Res β}{Ok:β->Sto->Prop}(h:qK X P α (if (tyD a S == Ab T)=true then k else .bad) Ok):tyD a S=Ab T/\qK X P α k Ok:=by
 by_cases z:(tyD a S == Ab T)=true
 .rw[Bb z] at h;exact⟨Pa.mp z,h⟩
 .rw[Bc z] at h;exact Ao h
theorem H8 (pa:PlainAttrs T)(slot:Slot T name id)(hty:typeOf (.builtin id)=pure (.type "method_descriptor"))(hT:T = "list" \/ T = "dict" \/ T = "int" \/ T = "str")(hm:MtD X id g)(ho:PE X o (tD X fo))(ha:PA X (e::es) (tDA X fa))
  (hbase:Qx o name X.env (eval o X.env)=eval o X.env:=by rfl)
  (hfew:((Ge cpos (Bl (e::es) X.env)).all (λx=>!x.1)&&(backToKw cpos (keywordEach [] X.env)).all (λx=>x.1.isSome)
   && decide ((e::es).length+([]:Aa Keyword).length+(if ([] : Aa Keyword).isEmpty then 0 else 1)<30))=true:=by rfl)
  (hline:(apos.endLine == cpos.line)=true:=by rfl) (hs:Bl (e::es) X.env=(false,eval e X.env)::Bl es X.env:=by rfl) (hplain:(Ge cpos (Bl es X.env)).any (·.1)=false:=by rfl) :
  PE X (.Call (.Attribute o name apos) (e::es) [] cpos) (tD X (dBm T g fo fa)):=by
 intro pins s σ H Q I h;obtain⟨P,α,env,S,r,re,af⟩:=h;refine wpAny_Call_method_late hbase hfew hline rfl (thn (zK ho I r re af) λvv s1 ⟨v,H1,P1,α1,d,S1,G1,af1⟩=>?_);obtain⟨ht,af2⟩:=TR af1;obtain⟨h1,h2⟩:=Y0 G1.inv G1.val (Y1 G1.rel G1.rep ht hT);refine⟨T,id,pa,slot,hty,h1,h2,?_⟩;have hA:=wK ha G1.inv G1.rel G1.env (P:=P1) (α:=α1) (Ok:=OkV X P1 α1 Q) (qR.base G1.same G1.pre (r:=(fa env S1).bind λds S2=>g d ds S2) af2) cpos;rw[hs] at hA ⊢;refine Tu (by show (false||(Ge cpos (Bl es X.env)).any (·.1))=false;rw[hplain] <;> rfl) (Vn ?_)
 exact thn hA λus s2 ⟨vs,H2,P2,α2,ds,S2,I2,rv,r2,re2,rp2,e1,e2,af3⟩=>hm pins σ H2 s2 P2 α2 S2 v vv vs us d ds Q I2 r2 G1.val (Rep.mono e1 e2 _ _ G1.rep) rv rp2 (qR.base e1 e2 af3)
def y9:D->Aa D->Sto->Res D:=λa ds S=>match a,ds with
 |.loc i,[d]=>match S[i]? with
  |some (.lst xs)=>if xs.length<lim then .ok .non (S.set i (.lst (xs++[d]))) else .bad
  |_=>.bad
 |_,_=>.bad
inductive ApV (a:D)(ds:Aa D)(S:Sto):Prop
 |bad (e:y9 a ds S=.bad)
 |of (i:Ai) (d:D) (xs:Aa D) (ea:a=.loc i) (ed:ds=[d]) (hS:S[i]? = Ab (.lst xs)) (hl:xs.length<lim) (e:y9 a ds S=.ok .non (S.set i (.lst (xs++[d]))))
theorem apV (a:D)(ds:Aa D)(S:Sto):ApV a ds S:=by
 cases a with
 |loc i =>
  cases ds with
  |nil=>exact .bad rfl
  |cons d ds =>
   cases ds with
   |cons _ _=>exact .bad rfl
   |nil =>
    have z:y9 (.loc i) [d] S=(match S[i]? with|some (.lst xs)=>(if xs.length<lim then .ok .non (S.set i (.lst (xs++[d]))) else .bad)|_=>.bad):=rfl
    cases hS:S[i]? with
    |none=>rw[hS] at z;exact .bad z
    |some m =>
     rw[hS] at z;cases m with
     |lst xs =>
      by_cases hl:xs.length<lim
      .exact .of i d xs rfl rfl hS hl (z.trans (Bb hl))
      .exact .bad (z.trans (Bc hl))
     |_=>exact .bad z
 |_=>exact .bad rfl
theorem X9:MtD X "list.append" y9:=by
 intro pins σ H s P α S v vv vs us a ds Q I r rv p rvs rps af;cases apV a ds S with
 |bad e=>rw[e] at af;exact Ao af
 |of i d xs ea ed hS hl e =>
  rw[e] at af;subst ea ed;obtain⟨w,u,rfl,rfl,p',q'⟩:=wH rps rvs;simp only[Rep] at p;obtain⟨b,rfl,q⟩:=p;obtain⟨ws,z,t⟩:=r.at' i b _ q hS;refine XE pins s σ H (.ref b) [w] vv [u] Q I rv (.cons q' .nil) ⟨b,ws,w,rfl,rfl,z,by rw[<- t.length,<- zM];exact hl,?_⟩
  exact xr af (r.put (m':=.lst (xs++[d])) q hS (by intro z;cases z) ⟨ws++[w],qQ,t.append (.cons p' .nil)⟩) (by simp only[Rep])
end
def yO:D->Al Key
 |.int i=>Ab (.inl i)
 |.str x=>Ab (.inr x)
 |_=>none
def xA (kvs:Aa (Key × D))(k:Key):Al D:=(kvs.find? λkv=>decide (kv.1=k)).map (·.2)
def yB (kvs:Aa (Key × D))(k:Key)(v:D):Aa (Key × D):=
 if (kvs.any λkv=>decide (kv.1=k))=true then kvs.map (λkv=>if kv.1=k then (kv.1,v) else kv) else kvs++[(k,v)]
section
variable {K:Aj}{P:Hp}{α : Aa Af}
theorem BH {vs:Aa (Key × V)}(r:KVs K P α kvs vs):kvs.length=vs.length:=Paired.length r
theorem bB {k:Key}:∀ {kvs:Aa (Key × D)} {vs:Aa (Key × V)},KVs K P α kvs vs->(∀ d,xA kvs k=Ab d->∃ v,yD vs k=Ab v/\Rep K P α d v)/\(xA kvs k=none->yD vs k=none)
 |_,_,.nil=>⟨λd h=>by simp[xA] at h,λ_=>rfl⟩
 |(k1,d1)::kvs,(k2,v2)::vs,.cons z t=>by
  obtain⟨e,r⟩:=z;dsimp only at e r;subst e;obtain⟨h1,h2⟩:=bB (k:=k) t;unfold xA yD at *;by_cases hk:k1=k
  .subst hk
   constructor
   .intro d h
    simp at h;subst h;exact⟨v2,by simp,r⟩
   .intro h
    simp at h
  .constructor
   .intro d h
    rw[Tv (by simpa using hk)] at h ⊢
    exact h1 d h
   .intro h
    rw[Tv (by simpa using hk)] at h ⊢
    exact h2 h
theorem BF {k:Key}{vs:Aa (Key × V)}(h:KVs K P α kvs vs):(kvs.any λkv=>decide (kv.1=k))=(vs.any λkv=>decide (kv.1=k)):=by
 induction h with
 |nil=>rfl
 |cons z t ih=>rw[Jy,Jy,ih,z.1]
theorem BI {k:Key}(q:Rep K P α d v){kvs:Aa (Key × D)}{vs:Aa (Key × V)}(h:KVs K P α kvs vs):KVs K P α (kvs.map λkv=>if kv.1=k then (kv.1,d) else kv) (vs.map λkv=>if kv.1=k then (kv.1,v) else kv):=by
 induction h with
 |nil=>exact .nil
 |cons z t ih =>
  rw[Ee,Ee];refine .cons ?_ ih;rw[<- z.1]
  split
  .exact⟨rfl,q⟩
  .exact z
theorem BG {k:Key}(q:Rep K P α d v){kvs:Aa (Key × D)}{vs:Aa (Key × V)}(h:KVs K P α kvs vs):KVs K P α (kvs++[(k,d)]) (vs++[(k,v)]):=by
 induction h with
 |nil=>exact .cons ⟨rfl,q⟩ .nil
 |cons z t ih=>exact .cons z ih
theorem BJ {k:Key}(q:Rep K P α d v){kvs:Aa (Key × D)}{vs:Aa (Key × V)}(r:KVs K P α kvs vs):KVs K P α (yB kvs k d) (vE vs k v):=by
 unfold yB vE;rw[BF r]
 split
 .exact BI q r
 .exact BG q r
theorem mM {k:Key}(h:yO d=Ab k)(r:Rep K P α d v):v=kV k:=by
 cases d with
 |int i=>cases h;simp only[Rep] at r;exact r
 |str x=>cases h;simp only[Rep] at r;exact r
 |_=>cases h
end
section
variable {X:Cx}{o i e:Br}{pos:Ex}{fo fi:DE}
def rA:DE:=λ_ S=>.ok (.loc S.length) (S++[.dct []])
theorem TZ:PE X (.Dict [] [] pos) (tD X rA):=by
 refine peW eI λσ H Q ⟨P,α,env,S,r,re,af⟩ p hp=>?_;have hpre:α<+:α++[p]:=Fq _ _;have r1:=r.new (o:=.dK []) (m:=.dct []) hp ⟨[],qQ,.nil⟩;refine af _ _ _ _ r1 (qF.refl _) hpre ?_;simp only[Rep];exact⟨p,rfl,by rw[<- r.len];simp⟩
def dU:DE:=λ_ S=>.ok .dct0 S
theorem GZ:PE X (.Dict [] [] pos) (tD X dU):=by
 refine peW eI λσ H Q ⟨P,α,env,S,r,re,af⟩ p hp=>?_;obtain⟨r1,e1⟩:=r.pure (o:=.dK []) hp;refine af _ _ _ α r1 e1 (Bh _) ?_;simp only[Rep];exact⟨p,rfl,qQ⟩
def wQ:G3:=λo i d S=>match o with
 |.loc n=>match S[n]? with
  |some (.dct kvs)=>match yO i with
   |some k=>if kvs.length<lim then .ok () (S.set n (.dct (yB kvs k d))) else .bad
   |none=>.bad
  |_=>pD o i d S
 |_=>pD o i d S
inductive Set2V (a b d:D)(S:Sto):Prop
 |bad (e:wQ a b d S=.bad)
 |old (e:wQ a b d S=pD a b d S)
 |of (n:Ai) (kvs:Aa (Key × D)) (k:Key) (ea:a=.loc n) (hS:S[n]? = Ab (.dct kvs)) (hk:yO b=Ab k) (hl:kvs.length<lim) (e:wQ a b d S=.ok () (S.set n (.dct (yB kvs k d))))
theorem AJ (a b d:D)(S:Sto):Set2V a b d S:=by
 cases a with
 |loc n =>
  have z:wQ (.loc n) b d S=(match S[n]? with|some (.dct kvs)=>(match yO b with|some k=>(if kvs.length<lim then .ok () (S.set n (.dct (yB kvs k d))) else .bad)|none=>.bad)|_=>pD (.loc n) b d S):=rfl
  cases hS:S[n]? with
  |none=>rw[hS] at z;exact .old z
  |some m =>
   rw[hS] at z;cases m with
   |dct kvs =>
    cases hk:yO b with
    |none=>rw[hk] at z;exact .bad z
    |some k =>
     rw[hk] at z;by_cases hl:kvs.length<lim
     .exact .of n kvs k rfl hS hk hl (z.trans (Bb hl))
     .exact .bad (z.trans (Bc hl))
   |_=>exact .old z
 |_=>exact .old rfl
theorem RW (hu:X.A.units+1<Dw):sO X (sJ X wQ):=by
 intro pins s σ H o i v ov iv u Q I ro ri rv h;obtain⟨P,α,S,a,b,d,r,pa,pb,pd,af⟩:=h;cases AJ a b d S with
 |bad e=>rw[e] at af;exact Ao af
 |old e =>
  rw[e] at af;exact AK pins s σ H o i v ov iv u Q I ro ri rv ⟨P,α,S,a,b,d,r,pa,pb,pd,af⟩
 |of n kvs k ea hS hk hl e =>
  rw[e] at af;subst ea;simp only[Rep] at pa;obtain⟨p,rfl,q⟩:=pa;obtain⟨vs,z,t⟩:=r.at' n p _ q hS;cases mM hk pb;cases (show ov=Bs p from ro)
  refine ZE hu I (tG.k (v:=v) z (by rw[<- BH t,<- zM];exact hl)) ri rv λs' I'=>⟨_,I',?_⟩
  exact af _ P α (r.put (m':=.dct (yB kvs k d)) q hS (by intro z;cases z) ⟨_,qQ,BJ pd t⟩) (qF.refl _) (Bh _)
def pB:D->Aa D->Sto->Res D:=λa ds S=>match a,ds with
 |.loc n,[i,x]=>match S[n]? with
  |some (.dct kvs)=>match yO i with
   |some k=>.ok ((xA kvs k).getD x) S
   |none=>.bad
  |_=>.bad
 |_,_=>.bad
inductive GetV (a:D)(ds:Aa D)(S:Sto):Prop
 |bad (e:pB a ds S=.bad)
 |of (n:Ai) (i x:D) (kvs:Aa (Key × D)) (k:Key) (ea:a=.loc n) (ed:ds=[i,x]) (hS:S[n]? = Ab (.dct kvs)) (hk:yO i=Ab k) (e:pB a ds S=.ok ((xA kvs k).getD x) S)
theorem OB (a:D)(ds:Aa D)(S:Sto):GetV a ds S:=by
 cases a with
 |loc n =>
  cases ds with
  |nil=>exact .bad rfl
  |cons i ds =>
   cases ds with
   |nil=>exact .bad rfl
   |cons x ds =>
    cases ds with
    |cons _ _=>exact .bad rfl
    |nil =>
     have z:pB (.loc n) [i,x] S=(match S[n]? with|some (.dct kvs)=>(match yO i with|some k=>.ok ((xA kvs k).getD x) S|none=>.bad)|_=>.bad):=rfl
     cases hS:S[n]? with
     |none=>rw[hS] at z;exact .bad z
     |some m =>
      rw[hS] at z;cases m with
      |dct kvs =>
       cases hk:yO i with
       |none=>rw[hk] at z;exact .bad z
       |some k=>rw[hk] at z;exact .of n i x kvs k rfl rfl hS hk z
      |_=>exact .bad z
 |_=>exact .bad rfl
theorem D4 (hu:X.A.units+1<Dw):MtD X "dict.get" pB:=by
 intro pins σ H s P α S v vv vs us a ds Q I r rv p rvs rps af;cases OB a ds S with
 |bad e=>rw[e] at af;exact Ao af
 |of n i x kvs k ea ed hS hk e =>
  rw[e] at af;subst ea ed;obtain⟨vi,vx,ui,ux,rfl,rfl,pi,px,qi,qx⟩:=gF rps rvs;simp only[Rep] at p;obtain⟨b,rfl,q⟩:=p;obtain⟨ws,z,t⟩:=r.at' n b _ q hS;cases mM hk pi;cases (show vv=Bs b from rv)
  refine TM hu I (uE.k z) qi qx λw' s' I' rw'=>⟨_,H,I',rw',xr af r ?_⟩;obtain⟨h1,h2⟩:=bB (k:=k) t;cases hv:xA kvs k with
  |none=>rw[h2 hv];exact px
  |some d =>
   obtain⟨w,e1,e2⟩:=h1 d hv;rw[e1];exact e2
def mD:D->Aa D->Sto->Res D:=λa ds S=>match a,ds with
 |.lst xs,[.bl k]=>match zX xs with
  |some bs=>.ok (.int (bs.countP (· == k):Ai)) S
  |none=>.bad
 |_,_=>.bad
def tY (k:Ar):Aa Ar->Al Ai
 |[]=>none
 |b::r=>if b=k then Ab 0 else (tY k r).map (· + 1)
def mE:D->Aa D->Sto->Res D:=λa ds S=>match a,ds with
 |.lst xs,[.bl k]=>match (zX xs).bind (tY k) with
  |some j=>.ok (.int j) S
  |none=>.bad
 |_,_=>.bad
theorem rF (k:Ar){bs:Aa Ar}{y:Ac}(hy:y∈(bs.map Fp).toArray):AaM y (.bool k) (Tw k y):=by
 have hy':y∈bs.map Fp:=by rwa [List.mem_toArray] at hy
 obtain⟨b,_,rfl⟩:=Bz.mp hy';exact λprog w A E s Q h=>Aa4 b k prog w E Q h
theorem cC (k:Ar)(bs:Aa Ar):(bs.map Fp).countP (Tw k)=bs.countP (· == k):=by
 rw[Om];rfl
theorem QR {β:Type}{r:Res β}{P:Hp}{α:Aa Af}{Ok:β->Sto->Prop}(e:r=.bad)(h:qK X P α r Ok):Fh:=by
 rw[e] at h;exact h
inductive BlV (a:D)(ds:Aa D):Prop
 |no (h:∀ (g:Aa D->Ar->Res D),(match a,ds with|.lst xs,[.bl k]=>g xs k|_,_=>.bad)=.bad)
 |of (xs:Aa D) (k:Ar) (ea:a=.lst xs) (ed:ds=[.bl k])
theorem blV (a:D)(ds:Aa D):BlV a ds:=by
 cases a with
 |lst xs =>
  cases ds with
  |nil=>exact .no λ_=>rfl
  |cons d ds =>
   cases ds with
   |cons _ _=>cases d <;> exact .no λ_=>rfl
   |nil =>
    cases d with
    |bl k=>exact .of xs k rfl rfl
    |_=>exact .no λ_=>rfl
 |_=>exact .no λ_=>rfl
theorem U2:MtD X "list.count" mD:=by
 intro pins σ H s P α S v vv vs us a ds Q I r rv p rvs rps af;cases blV a ds with
 |no h=>exact(QR (X:=X) (r:=mD a ds S) (h _) af).elim
 |of xs k ea ed =>
  subst ea ed;have af:qK X P α (match zX xs with|some bs=>Res.ok (D.int (bs.countP (· == k):Ai)) S|none=>.bad) (OkV X P α Q):=af
  cases hb:zX xs with
  |none=>rw[hb] at af;exact Ao af
  |some bs =>
   rw[hb] at af;obtain⟨vx,ux,rfl,rfl,px,qx⟩:=wH rps rvs;simp only[Rep] at px;subst px;cases (show ux=Fp k from qx)
   obtain⟨b,ws,its,n,rfl,sq,t,rvi,ht,hl,_⟩:=yF I r p;cases (show vv=Bs b from rv)
   have hi:=v3 hb t rvi;subst hi;refine Lh Mg ⟨_,ht,rfl⟩ Rm (Qy _ _) (Rn b (bs.map Fp).toArray n none #[] (.bool k) (Tw k)) ⟨ht,λy hy=>(rF k hy).at _ _,?_⟩;refine⟨.int _,H,I.tok _,⟨_,rfl⟩,?_⟩;rw[show (bs.map Fp).toArray.toList=bs.map Fp from rfl,cC]
   exact xr af r (by simp only[Rep])
theorem aA {k:Ar}:∀ {bs:Aa Ar} {j:Ai},tY k bs=Ab j->∃ h:j<bs.length,bs[j]=k/\∀ m (hm:m<bs.length),m<j->bs[m]≠k
 |[],j,h=>by cases h
 |b::r,j,h=>by
  unfold tY at h;by_cases hb:b=k
  .rw[Bb hb] at h
   cases h;exact⟨by simp,by simpa using hb,λm hm z=>absurd z (Nat.not_lt_zero _)⟩
  .rw[Bc hb] at h
   obtain⟨i,hi,rfl⟩:=De.mp h;obtain⟨h1,h2,h3⟩:=aA hi;refine⟨by simp;omega,by simpa using h2,λm hm hl=>?_⟩
   cases m with
   |zero=>simpa using hb
   |succ m=>simpa using h3 m (by simp at hm;omega) om
theorem U3:MtD X "list.index" mE:=by
 intro pins σ H s P α S v vv vs us a ds Q I r rv p rvs rps af;cases blV a ds with
 |no h=>exact(QR (X:=X) (r:=mE a ds S) (h _) af).elim
 |of xs k ea ed =>
  subst ea ed;have af:qK X P α (match (zX xs).bind (tY k) with|some j=>Res.ok (D.int j) S|none=>.bad) (OkV X P α Q):=af
  cases hj:(zX xs).bind (tY k) with
  |none=>rw[hj] at af;exact Ao af
  |some j =>
   rw[hj] at af;obtain⟨bs,hb,hi⟩:=Ey.mp hj;obtain⟨vx,ux,rfl,rfl,px,qx⟩:=wH rps rvs;simp only[Rep] at px;subst px;cases (show ux=Fp k from qx)
   obtain⟨b,ws,its,n,rfl,sq,t,rvi,ht,hl,hz⟩:=yF I r p;cases (show vv=Bs b from rv)
   have hi':=v3 hb t rvi;subst hi';obtain⟨h1,h2,h3⟩:=aA hi;have hlen:bs.length<=sizeLine:=by
    have e1:=t.length;have e2:=rvi.length;rw[Aq] at e2;rw[zM] at hz;omega
   refine Lh Sr ⟨_,ht,rfl⟩ PySem.F.entry_list_index (PySem.F.args_list_index_2 _ _) (Aa9 b (bs.map Fp).toArray n (.bool k) (Tw k) (λy hy=>rF k hy) j (by simpa using h1) ?_ ?_ ?_) ⟨ht,?_⟩
   .rw[Ev] at hlen;omega
   .simp[Tw,h2]
   .intro m hm hl'
    have hm':m<bs.length:=by simpa using hm
    have:=h3 m hm' hl';simp[Tw,this]
   .exact⟨.int _,H,I.tok _,⟨_,rfl⟩,xr af r (by simp only[Rep])⟩
end
def u9 (S:Sto):Sto:=S.map λ_=>.dead
def o6:D->Ar
 |.non=>true
 |.bl _=>true
 |.int _=>true
 |.str _=>true
 |_=>false
def mapO {β γ:Type}(f:β->Al γ) : Aa β -> Al (Aa γ)
 |[]=>Ab []
 |b::r=>match f b,mapO f r with
  |some c,Ab cs=>Ab (c::cs)
  |_,_=>none
def vL:Ai->Sto->D->Al D
 |n+1,S,.tup xs=>(mapO (vL n S) xs).map .tup
 |n+1,S,.lst xs=>(mapO (vL n S) xs).map .lst
 |n+1,S,.loc i=>match S[i]? with
  |some (.lst xs)=>(mapO (vL n S) xs).map .lst
  |_=>none
 |_,_,.non=>Ab .non
 |_,_,.bl b=>Ab (.bl b)
 |_,_,.int i=>Ab (.int i)
 |_,_,.str x=>Ab (.str x)
 |_,_,.ty n=>Ab (.ty n)
 |_,_,.obj a=>Ab (.obj a)
 |_,_,.dct0=>Ab .dct0
 |_,_,.exn c=>Ab (.exn c)
 |_,_,_=>none
def vK (H P:Hp)(α : Aa Af):Hp:=λb=>if (P b).isSome then P b else if b∈α then H b else none
section
variable {K:Aj}{H P:Hp}{α : Aa Af}{S:Sto}
theorem uM (H P:Hp)(α : Aa Af):qF P (vK H P α):=λb o e=>by
 unfold vK;rw[e];rfl
theorem VF (r:Rel K H P α S):qF (vK H P α) H:=λb o e=>by
 unfold vK at e
 split at e
 .exact r.sub b o e
 .split at e
  .exact e
  .cases e
theorem tU {a:Af}(h:P a=none)(ha:a∈α):vK H P α a=H a:=by
 unfold vK;rw[h];simp[ha]
theorem Rel.frz (r:Rel K H P α S):Rel K H (vK H P α) α (u9 S) where
 tb:=r.tb.keep (λ_ _ q _=>q) λb u q _ p n=>⟨by unfold vK;rw[p];simp[n],n⟩
 sub:=VF r
 len:=by rw[r.len];simp[u9]
 nd:=r.nd
 sep:=λi a o h1 h2 h3=>by
  unfold u9 at h2;rw[Dc] at h2;cases q:S[i]? with
  |none=>rw[q] at h2;cases h2
  |some m=>rw[q] at h2;cases h2;exact absurd rfl h3
 at':=λi a o h1 h2=>by
  unfold u9 at h2;rw[Dc] at h2;cases q:S[i]? with
  |none=>rw[q] at h2;cases h2
  |some m=>rw[q] at h2;cases h2;trivial
 own:=r.own
theorem Rel.unfrz {H' P1:Hp}{α1:Aa Af}{S1:Sto}(r:Rel K H P α S)(r1:Rel K H' P1 α1 S1)(e:qF (vK H P α) P1):Rel K H' P α S:=by
 have mem:∀ i a,α[i]? = Ab a->a∈α:=λi a h=>Bk h;have kp:∀ (i:Ai) (a:Af) (o:MO) (u:HO),α[i]? = Ab a->S[i]? = Ab o->o≠MO.dead->H a=Ab u->H' a=Ab u:=λi a o u h1 h2 h3 h4 =>
  r1.sub a u (e a u (by rw[tU (r.sep i a o h1 h2 h3) (mem i a h1)];exact h4))
 refine⟨λx hx c T h=>let ⟨ps,e,_,_,ok,cd⟩:=r1.tb x hx c T h;let ⟨_,_,pn,an,_,_⟩:=r.tb x hx c T h;⟨ps,e,pn,an,ok,cd⟩,(uM H P α).trans (e.trans r1.sub),r.len,r.nd,r.sep,λi a o h1 h2=>?_,λi a h1=>?_⟩
 .have m:=r.at' i a o h1 h2
  cases o with
  |dead=>trivial
  |lst ds=>obtain⟨vs,q,t⟩:=m;exact⟨vs,kp i a _ _ h1 h2 (by intro z;cases z) q,t⟩
  |dct kvs=>obtain⟨vs,q,t⟩:=m;exact⟨vs,kp i a _ _ h1 h2 (by intro z;cases z) q,t⟩
  |ins C fs=>obtain⟨dx,vs,q,t⟩:=m;exact⟨dx,vs,kp i a _ _ h1 h2 (by intro z;cases z) q,t⟩
 .have h:=r.own i a h1
  cases q:H a with
  |none=>exact absurd q h
  |some u =>
   have z:∃ u',vK H P α a=Ab u':=by
    cases q2:P a with
    |none=>exact⟨u,by rw[tU q2 (mem i a h1)];exact q⟩
    |some u'=>exact⟨u',uM H P α a u' q2⟩
   obtain⟨u',z⟩:=z;rw[r1.sub a u' (e a u' z)];intro w;cases w
set_option tactic.hygienic true in
theorem qD.mapO {f:D->Al D}{P':Hp}(h:∀ d t v,f d=Ab t->Rep K P α d v->Rep K P' α t v):∀ {ds ts:Aa D} {vs:Aa V},_D.mapO f ds=Ab ts->qD K P α ds vs->qD K P' α ts vs
 |[],ts,vs,e,r=>by cases e;rw[r.nil_inv];exact .nil
 |d::ds,ts,vs,e,r=>by
  obtain⟨w,ws,rfl,r1,r2⟩:=r.cons_inv;unfold _D.mapO at e
  split at e
  .rename_i c cs h1 h2
   cases e;exact .cons (h d c w h1 r1) (qD.mapO h h2 r2)
  .cases e
theorem iD (r:Rel K H P α S):∀ (n:Ai) (d t:D) (v:V),vL n S d=Ab t->Rep K P α d v->Rep K (vK H P α) α t v:=by
 have mono:∀ (d:D) (v:V),Rep K P α d v->Rep K (vK H P α) α d v:=λd v=>Rep.mono (uM H P α) (Bh _) d v;intro n
 induction n with
 |zero =>
  intro d t v h p;cases d <;> first|(cases h;exact mono _ _ p)|exact nn h
 |succ n ih =>
  intro d t v h p;cases d with
  |tup xs =>
   obtain⟨ts,h1,rfl⟩:=De.mp h;simp only[Rep] at p ⊢;obtain⟨a,vs,rfl,q,t⟩:=p;exact⟨a,vs,rfl,yQ (uM H P α) q,qD.mapO (λd t v=>ih d t v) h1 t⟩
  |lst xs =>
   obtain⟨ts,h1,rfl⟩:=De.mp h;simp only[Rep] at p ⊢;obtain⟨a,vs,rfl,q,t⟩:=p;exact⟨a,vs,rfl,x9 (uM H P α) q,qD.mapO (λd t v=>ih d t v) h1 t⟩
  |loc i =>
   have h:(match S[i]? with|some (.lst xs)=>(_D.mapO (vL n S) xs).map D.lst|_=>none)=Ab t:=h
   cases hS:S[i]? with
   |none=>rw[hS] at h;exact nn h
   |some m =>
    rw[hS] at h;cases m with
    |lst xs =>
     obtain⟨ts,h1,rfl⟩:=De.mp h;simp only[Rep] at p ⊢;obtain⟨a,rfl,q⟩:=p;obtain⟨vs,z,t⟩:=r.at' i a _ q hS;refine⟨a,vs,rfl,.inl (.inl ?_),qD.mapO (λd t v=>ih d t v) h1 t⟩;rw[tU (r.sep i a _ q hS (by intro z;cases z)) (Bk q)]
     exact z
    |_=>exact nn h
  |fd ks ds=>exact nn h
  |clo a vs ds=>exact nn h
  |_=>cases h;exact mono _ _ p
theorem YE {P':Hp}{α':Aa Af}(h:o6 d=true)(p:Rep K P α d v):Rep K P' α' d v:=by
 cases d with
 |non=>simpa only [Rep] using p
 |bl b=>simpa only [Rep] using p
 |int i=>simpa only [Rep] using p
 |str x=>simpa only [Rep] using p
 |_=>cases h
end
def fG:Ai:=20
def oR (r:Res D)(S:Sto):Res D:=match r with
 |.ok d _=>if o6 d then .ok d S else .bad
 |_=>.bad
theorem oS {X:Cx}{H P:Hp}{α:Aa Af}{S:Sto}{r:Res D}(rl:Rel X.K H P α S)(af:qR X P α (oR r S) Q):qR X (vK H P α) α r Q:=by
 cases r with
 |ok d S' =>
  obtain⟨ha,af⟩:=xB (X:=X) af;exact λv H' P' α' r' e1 e2 rp=>af v H' P α (rl.unfrz r' e1) (qF.refl _) (Bh _) (YE ha rp)
 |ex c x S'=>exact Ao af
 |bad=>exact Ao af
section
variable {X:Cx}
def bD (g:G2):G2:=λa b S=>match vL fG S a,vL fG S b with
 |some x,Ab y=>oR (g x y (u9 S)) S
 |_,_=>.bad
set_option tactic.hygienic true in
theorem OpD.look {g:G2}(h:OpD X f g):OpD X f (bD g):=by
 intro pins σ H s P α S v u vv uu a b Q I r rv ru pa pb af;unfold bD at af
 split at af
 .rename_i x y hx hy
  exact h pins σ H s _ α (u9 S) v u vv uu x y Q I r.frz rv ru (iD r fG a x v hx pa) (iD r fG b y u hy pb) (oS r af)
 .exact Ao af
variable {cm:Ar}{k:Ai}{f:Af}{fd:Ft}{ps:Aa Av}{F:DF}{x:Av}{p pos:Ex}{e:Br}{es:Aa Br}{fa:DA}{n:Ai}
end
def u3 (t:DT)(f:DS):Ai->qE->Sto->Out
 |0,_,_=>.bad
 |n+1,env,S=>(t env S).toS env λb S1=>if b then (match f env S1 with
   |.nx env2 S2=>u3 t f n env2 S2
   |.ct env2 S2=>u3 t f n env2 S2
   |.bk env2 S2=>.nx env2 S2
   |o=>o) else .nx env S1
theorem QY:∃ n:Ai,n=2 ^ 60:=⟨_,rfl⟩
def big:Ai:=Ky QY
theorem MZ:big=2 ^ 60:=Ke QY
def t7 (t:DT)(f:DS):DS:=λenv S=>u3 t f big env S
section
variable {X:Cx}{pos:Ex}
inductive WhI (X:Cx)(P:Hp)(α : Aa Af)(t:DT)(f:DS)(D:Ends)(m:Ai)(σ : _L.St)(H:Hp):Prop
 |mk (P2:Hp) (α2:Aa Af) (env2:qE) (S2:Sto) (r:Rel X.K H P2 α2 S2) (re:qZ X.K P2 α2 σ env2) (e1:qF P P2) (e2:α<+:α2) (af:qX X P2 α2 (u3 t f m env2 S2) D):WhI X P α t f D m σ H
theorem V3 {c:Br}{body:Aa Fa}{t:DT}{f:DS}(hp:Og (As X.prog X.w) X.A X.env X.xe)(hc:PT X c (tDT X t))(hb:PSs X body (tDS X f)):PS X (.While c body [] pos) (tDS X (t7 t f)):=
 psW (UO hp hc hb) λD σ H ⟨P,α,env,S,r,re,af⟩=>by
  refine⟨WhI X P α t f D,⟨big,P,α,env,S,r,re,qF.refl _,Bh _,af⟩,?_⟩;rintro m σ2 H2 ⟨P2,α2,env2,S2,r2,re2,e1,e2,af2⟩;cases m with
  |zero=>exact Ao af2
  |succ m =>
   have af3:=w6 af2;refine⟨P2,α2,env2,S2,r2,re2,?_⟩;cases q:t env2 S2 with
   |bad=>rw[q] at af3;exact af3
   |ex c x S'=>rw[q] at af3;exact af3
   |ok b S3 =>
    rw[q] at af3;intro H3 P3 α3 r3 e3 e4;have af4:qX X P3 α3 (if b then (match f env2 S3 with|.nx env2 S2=>u3 t f m env2 S2|.ct env2 S2=>u3 t f m env2 S2|.bk env2 S2=>.nx env2 S2|o=>o) else .nx env2 S3) D:=qX.base e3 e4 af3
    cases b with
    |false=>exact af4 σ2 H3 P3 α3 r3 (re2.mono e3 e4) (qF.refl _) (Bh _)
    |true =>
     simp only[Dt] at af4 ⊢;refine⟨WhI X P α t f D m,λσ' H' w=>⟨m,Ib _,w⟩,P3,α3,env2,S3,r3,re2.mono e3 e4,?_⟩;cases q2:f env2 S3 with
     |bad=>rw[q2] at af4;exact af4
     |ex c x env4 S4=>rw[q2] at af4;exact af4
     |rt d4 S4=>rw[q2] at af4;exact af4
     |bk env4 S4=>rw[q2] at af4;exact af4
     |nx env4 S4 =>
      rw[q2] at af4;exact λσ5 H5 P5 α5 r5 re5 e8 e9=>⟨P5,α5,env4,S4,r5,re5,(e1.trans e3).trans e8,(e2.trans e4).trans e9,qX.base e8 e9 af4⟩
     |ct env4 S4 =>
      rw[q2] at af4;exact λσ5 H5 P5 α5 r5 re5 e8 e9=>⟨P5,α5,env4,S4,r5,re5,(e1.trans e3).trans e8,(e2.trans e4).trans e9,qX.base e8 e9 af4⟩
end
section
variable {X:Cx}{a b c e:Br}{pos:Ex}{fa fe:DE}
def qA2 (i:Ai)(g:G2)(fe:DE):DS:=λenv S=>match env[i]? with
 |some (Ab x)=>(fe env S).toS env λy S1=>(g x y S1).toS env λz S2=>.nx (env.set i (Ab z)) S2
 |_=>.bad
def xK (xs:Aa D)(lo hi:Al Am):Aa D:=(xs.drop (_H.sIx xs.length 0 lo)).take (_H.sIx xs.length xs.length hi-_H.sIx xs.length 0 lo)
abbrev DO:=qE->Sto->Res (Al Am)
def OkO (X:Cx)(P:Hp)(α : Aa Af)(Q:Al Am->Hp->Prop)(o:Al Am)(S':Sto):Prop:=∀ H' P' α',Rel X.K H' P' α' S'->qF P P'->α<+:α'->Q o H'
def tDO (X:Cx)(f:DO):TO:=λσ H Q=>∃ P α env S,Rel X.K H P α S/\qZ X.K P α σ env/\qK X P α (f env S) (OkO X P α Q)
def v8:DO:=λ_ S=>.ok none S
def xX (f:DE):DO:=λenv S=>(f env S).bind λd S1=>match d with
 |.int i=>.ok (Ab i) S1
 |_=>.bad
theorem PM:PO X none (tDO X v8):=λpins s σ H Q I ⟨P,α,env,S,r,re,af⟩=>F9 pins s σ H Q I (af H P α r (qF.refl _) (Bh _))
theorem PN (he:PE X e (tD X fe)):PO X (Ab e) (tDO X (xX fe)):=by
 intro pins s σ H Q I h;obtain⟨P,α,env,S,r,re,af⟩:=h;refine FA (te:=tD X fe) he pins s σ H Q I ⟨P,α,env,S,r,re,?_⟩;have af':qK X P α ((fe env S).bind λd S1=>match d with|.int i=>.ok (Ab i) S1|_=>.bad) (OkO X P α Q):=af
 cases q:fe env S with
 |bad=>rw[q] at af';exact af'
 |ex c x S'=>rw[q] at af';exact af'
 |ok d S1 =>
  rw[q] at af';intro v H1 P1 α1 r1 e1 e2 rp;cases d with
  |int i=>exact⟨i,xG rp,af' H1 P1 α1 r1 e1 e2⟩
  |_=>exact Ao af'
theorem qD.cut {K:Aj}{P:Hp}{α:Aa Af}(r:qD K P α ds vs)(lo hi:Al Am):qD K P α (xK ds lo hi) (gZ vs lo hi):=by
 unfold xK gZ;rw[r.length];exact(r.drop _).take _
def gSl (d:D)(lo hi:Al Am)(S:Sto):Res D:=match d with
 |.lst xs=>.ok (.lst (xK xs lo hi)) S
 |.loc i=>match S[i]? with
  |some (.lst xs)=>.ok (.lst (xK xs lo hi)) S
  |_=>.bad
 |.tup xs=>.ok (.tup (xK xs lo hi)) S
 |_=>.bad
def dSl (fe:DE)(fl fh:DO):DE:=λenv S=>(fe env S).bind λd S1=>(fl env S1).bind λlo S2=>(fh env S2).bind λhi S3=>gSl d lo hi S3
end
end _D
namespace _D
open PySem PySem.Spec PyProof.Rows _L _H
section
variable {prog:Bd}{w:Bt}{A:Bo}{E:Ac->Ah->Prop}{s:Ah}
theorem gV {t sl:Af}{items:Bn Ac}{vl vu:Ac}{lo hi:Al Am}{Q:Ac->Ah->Prop}(ht:Nj s.heap t items)(hs:s.heap.IsSliceOf sl vl vu .none)(pl:Qe vl lo)(pu:Qe vu hi)
  (hw:sIx items.size 0 lo=0/\sIx items.size items.size hi=items.size) (h:Q (.ref t) s):Ap (As prog w) A (Ko (.ref t) (.ref sl)) Q E s:=by
 obtain⟨ob,hob,hcb,_⟩:=id hs;have hTs:s.TypeIs (.ref sl) "slice":=⟨ob,hob,hcb⟩;unfold Ko
 try with_reducible refine Ct ?_
 first|refine Ad (Ak ?_)|skip
 refine Ad (Qo ht.typeIs (by decide) ?_)
 refine Ad (Dy (name:=Fz "__getitem__") ht.typeIs Do
  (Dz Do ht.typeIs Oy ?_ (Pv _ _)))
 show Ap _ _ (Kx (.ref t) >>= _) _ _ s;refine Ad (Wc ht ?_);refine Ad (Ks hTs ?_);rw[Bb (by decide)]
 refine Ad (uY hs pl pu ?_);show Ap _ _ (if (((sIx items.size 0 lo:Ai):Am) == 0&&(1:Am) == 1&&(sIx items.size items.size hi-sIx items.size 0 lo) == items.size)=true then _ else _) _ _ s
 rw[hw.1,hw.2,Bb (by simp)]
 unfold Builtin.Tuple.tupleIsExact;refine Ad (Ad (Ks ht.typeIs (Ak ?_)));rw[Bb (by decide)]
 exact Ad (Kb (Ak ⟨_,rfl,Ak h⟩))
end
section
variable {X:Cx}{e:Br}{fe:DE}{pos p2:Ex}
def OV (X:Cx):V->Al Am->Al Am->Hp->VK->Prop:=λx lo hi H Q=>∃ P α S d,Rel X.K H P α S/\Rep X.K P α d x/\qR X P α (gSl d lo hi S) Q
theorem OY:SlR X (OV X):=by
 intro pins s σ H x v vl vu lo hi sl Q I rx hs pl pu h;obtain⟨P,α,S,d,r,p,af⟩:=h;cases d with
 |lst xs =>
  simp only[Rep] at p;obtain⟨a,vs,rfl,q,t⟩:=p;exact iK pins s σ H _ v vl vu lo hi sl Q I rx hs pl pu ⟨a,vs,rfl,(x9 r.sub q).l,λb hb=>wG r hb (qD.cut t lo hi) af⟩
 |loc i =>
  obtain⟨xs,hS,af⟩:=uU (X:=X) (f:=λxs=>Res.ok (D.lst (xK xs lo hi)) S) af;simp only[Rep] at p;obtain⟨a,rfl,q⟩:=p;obtain⟨vs,z,t⟩:=r.at' i a _ q hS;exact iK pins s σ H _ v vl vu lo hi sl Q I rx hs pl pu ⟨a,vs,rfl,SqL.of z,λb hb=>wG r hb (qD.cut t lo hi) af⟩
 |tup xs =>
  have p0:=p;simp only[Rep] at p;obtain⟨a,vs,rfl,q,t⟩:=p;by_cases hw:sIx vs.length 0 lo=0/\sIx vs.length vs.length hi=vs.length
  .cases rx
   obtain⟨its,rv,ht,hz⟩:=I.tuple (xH r.sub q);have hlen:its.toArray.size=vs.length:=by rw[Ay];exact rv.length.symm
   refine⟨"tuple",_,Do.lookup,ht.typeIs,gV ht hs pl pu (by rw[hlen];exact hw) ⟨.ref a,H,I,rfl,xr af r ?_⟩⟩
   have e:xK xs lo hi=xs:=by
    unfold xK;rw[t.length,hw.1,hw.2,<- t.length];simp
   rw[e];exact p0
  .exact RY pins s σ H _ v vl vu lo hi sl Q I rx hs pl pu ⟨a,vs,rfl,xH r.sub q,hw,λb hb=>gD r hb (qD.cut t lo hi) af⟩
 |_=>exact Ao af
theorem YW {lo hi:Al Br}{fl fh:DO}(he:PE X e (tD X fe))(hl:PO X lo (tDO X fl))(hu:PO X hi (tDO X fh)):PE X (.Subscript e (.Slice lo hi none p2) pos) (tD X (dSl fe fl fh)):=
 peW (UL OY he hl hu) λσ H Q ⟨P,α,env,S,r,re,af⟩=>by
  refine⟨P,α,env,S,r,re,?_⟩;have af':qK X P α ((fe env S).bind λd S1=>(fl env S1).bind λlo S2=>(fh env S2).bind λhi S3=>gSl d lo hi S3) (OkV X P α Q):=af;cases q:fe env S with
  |bad=>rw[q] at af';exact af'
  |ex c x S'=>rw[q] at af';exact af'
  |ok d S1 =>
   rw[q] at af';intro v H1 P1 α1 r1 e1 e2 rp;refine⟨P1,α1,env,S1,r1,re.mono e1 e2,?_⟩;have af2:qK X P1 α1 ((fl env S1).bind λlo S2=>(fh env S2).bind λhi S3=>gSl d lo hi S3) (OkV X P1 α1 Q):=qR.base e1 e2 af';cases q2:fl env S1 with
   |bad=>rw[q2] at af2;exact af2
   |ex c x S'=>rw[q2] at af2;exact af2
   |ok l S2 =>
    rw[q2] at af2;intro H2 P2 α2 r2 e3 e4;refine⟨P2,α2,env,S2,r2,(re.mono e1 e2).mono e3 e4,?_⟩;have af3:qK X P2 α2 ((fh env S2).bind λhi S3=>gSl d l hi S3) (OkV X P2 α2 Q):=qR.base e3 e4 af2;cases q3:fh env S2 with
    |bad=>rw[q3] at af3;exact af3
    |ex c x S'=>rw[q3] at af3;exact af3
    |ok u S3 =>
     rw[q3] at af3;intro H3 P3 α3 r3 e5 e6;exact⟨P3,α3,S3,d,r3,Rep.mono (e3.trans e5) (e4.trans e6) _ _ rp,qR.base e5 e6 af3⟩
end
end _D
namespace _D
open PySem PySem.Spec PyProof.Rows _L
variable {α:Aa Af}{N:Aa Av}{its ds dsF:Aa D}{body:Aa Fa}{vs:Aa V}{Q:Ac->Ah->Prop}{C:Af}{Qa Qd:Ah->Prop}{m:Ai}{o':Al (Ai × MO)}{tp:Ar}{h':Bj}{xs ys:Bn Ac}{R:It->Hp->Prop}{S SF:Sto}{env envF:qE}
def zB (tp:Ar)(h:Bj)(it l:Af)(k:Ai):Prop:=if tp then h.IsTupleIter it l k else h.IsListIter it l k
def xP (tp:Ar)(h:Bj)(l:Af)(xs:Bn Ac):Prop:=if tp then h.IsTuple l xs else h.IsList l xs
theorem zB.keep {h:Bj}{it l:Af}{k:Ai}(x:zB tp h it l k)(q:∀ o,h.get? it=Ab o->h'.get? it=Ab o):zB tp h' it l k:=by
 cases tp <;> (obtain⟨o,e,r⟩:=x;exact⟨o,q o e,r⟩)
theorem xP.keep {h:Bj}{l:Af}(x:xP tp h l xs)(q:∀ o,h.get? l=Ab o->h'.get? l=Ab o):xP tp h' l xs:=by
 cases tp <;> (obtain⟨o,e,r⟩:=x;exact⟨o,q o e,r⟩)
theorem zB.there {h:Bj}{it l:Af}{k:Ai}(x:zB tp h it l k):∃ o,h.get? it=Ab o/\∀ v,o.data≠.cell v:=by
 cases tp <;> (obtain⟨o,e,_,d⟩:=x;exact⟨o,e,λv z=>by rw[d] at z;cases z⟩)
section
variable {prog:Bd}{w:Bt}{A:Bo}{E:Ac->Ah->Prop}{s:Ah}
theorem UC {it t:Af}{i:Ai}{items:Bn Ac}{x:Ac}(hit:s.heap.IsTupleIter it t i)(ht:s.heap.IsTuple t items)(hx:items[i]? = Ab x)
  (hQ:∀ h',h'.IsTupleIter it t (i+1)->Fd it s.heap h'->Q x { s with heap:=h' }) : Ap (As prog w) A (Ea (.ref it)) Q E s:=by
 obtain⟨o,e,c,d⟩:=id hit;obtain⟨u,eu,_,m,du⟩:=ht;unfold Ea;refine Ad (Dy (name:=Fz "__next__") hit.typeIs Il (Dz Il hit.typeIs Pk ?_ (Pc _)));show Ap _ _ (field (.ref it) 0 >>= _) _ _ s;refine Ad (Du e d (x:=.ref t) rfl ?_);show Ap _ _ (if (Bs t == Er)=true then _ else _) _ _ s;rw[Bc (show ¬ ((Bs t == Er)=true) from Gc)]
 show Ap _ _ (field (.ref it) 1 >>= _) _ _ s;refine Ad (Du e d (x:=.int i 0) rfl ?_);show Ap _ _ (seqItems? (.ref t) >>= _) _ _ s;refine Ad (Ep eu du ?_);simp only[Fn,hx];refine Ad (Mo e d (by simp) (Ak ⟨x,rfl,Ak (hQ _ ⟨_,DL _ e (Obj.isFreed_of_fields (Xc d _)),(Obj.cls_mapFields ..).trans c,?_⟩ (Hm ..))⟩))
 rw[Xc d];simp[Gf]
theorem eB {it t:Af}{i:Ai}{items:Bn Ac}{Q:Ac->Ah->Prop}(hh:A.handled=none)(hit:s.heap.IsTupleIter it t i)(ht:s.heap.IsTuple t items)(hx:items[i]? = none)
  (hE:∀ h' e,Heap.ExtBut it s.heap h'->(∃ o,h'.get? e=Ab o/\o.cls=.type "StopIteration")->E (.ref e) { s with heap:=h' }) : Ap (As prog w) A (Ea (.ref it)) Q E s:=by
 obtain⟨o,e,c,d⟩:=id hit;obtain⟨u,eu,_,m,du⟩:=ht;unfold Ea;refine Ad (Dy (name:=Fz "__next__") hit.typeIs Il (Dz Il hit.typeIs Pk ?_ (Pc _)));show Ap _ _ (field (.ref it) 0 >>= _) _ _ s;refine Ad (Du e d (x:=.ref t) rfl ?_);show Ap _ _ (if (Bs t == Er)=true then _ else _) _ _ s;rw[Bc (show ¬ ((Bs t == Er)=true) from Gc)]
 show Ap _ _ (field (.ref it) 1 >>= _) _ _ s;refine Ad (Du e d (x:=.int i 0) rfl ?_);show Ap _ _ (seqItems? (.ref t) >>= _) _ _ s;refine Ad (Ep eu du ?_);simp only[Fn,hx];refine Ad (Kb (Ad (Mo e d (by simp) ?_)))
 show Ap _ _ (newExc (.type "StopIteration") [] >>= _) _ _ _;refine Ad ?_;simp only[newExc,newTuple];refine Ad (Dg ?_ (by size_fits))
 refine Ad (m:=Pl _ _) (Lu (a:=Er) (by first|rfl|(simp only[Pl];rfl)) (Dg ?_ (by size_fits)))
 simp only[raiseNew];refine Ad (wpAny_handled ?_)
 first|rw[show A.in1.handled=none from hh]|rw[hh]
 exact Ad (Ak (wpAny_throw (hE _ _ (((Hm ..).extBut.push _).push _) ⟨_,Ba _ rfl,rfl⟩)))
theorem gA {it l:Af}{k:Ai}{x:Ac}(hit:zB tp s.heap it l k)(hl:xP tp s.heap l xs)(hx:xs[k]? = Ab x)
  (hQ:∀ h',zB tp h' it l (k+1)->Fd it s.heap h'->Q x { s with heap:=h' }) : Ap (As prog w) A (Ea (.ref it)) Q E s:=by
 cases tp with
 |false=>exact wpAny_nextOf_list_item hit hl hx hQ
 |true=>exact UC hit hl hx hQ
theorem uR {it l:Af}{k:Ai}{Q:Ac->Ah->Prop}(hh:A.handled=none)(hit:zB tp s.heap it l k)(hl:xP tp s.heap l xs)(hx:xs[k]? = none)
  (hE:∀ h' e,Heap.ExtBut it s.heap h'->(∃ o,h'.get? e=Ab o/\o.cls=.type "StopIteration")->E (.ref e) { s with heap:=h' }) : Ap (As prog w) A (Ea (.ref it)) Q E s:=by
 cases tp with
 |false=>exact wpAny_nextOf_list_end hh hit hl hx hE
 |true=>exact eB hh hit hl hx hE
structure ZA (z I O i j:Af):Prop where
 Iz:I≠z
 Oz:O≠z
 iz:i≠z
 jz:j≠z
 IO:I≠O
 Ii:I≠i
 Ij:I≠j
 Oi:O≠i
 Oj:O≠j
 ij:i≠j
structure Off (z O i j a:Af):Prop where
 z:a≠z
 O:a≠O
 i:a≠i
 j:a≠j
abbrev YB (z O i j:Af)(h h':Bj):Prop:=∀ c o,c≠z->c≠O->c≠i->c≠j->h.get? c=Ab o->h'.get? c=Ab o
theorem JP {tq:Ar}{z I O i j a b:Af}{k:Ai}{x y p q:Ac}(D:ZA z I O i j)(Da:Off z O i j a)(Db:Off z O i j b)
  (hz:Pm s.heap z I O .none) (hI:Im s.heap I (.ref i) (.ref j)) (hO:Im s.heap O p q) (h1:zB tp s.heap i a k) (h2:zB tq s.heap j b k) (ha:xP tp s.heap a xs) (hb:xP tq s.heap b ys) (hx:xs[k]? = Ab x) (hy:ys[k]? = Ab y)
  (hQ:∀ h',Pm h' z I O (Gf s.heap.objs.size)->Im h' O x y->zB tp h' i a (k+1)->zB tq h' j b (k+1)->Im h' s.heap.objs.size x y->h'.objs.size=s.heap.objs.size+1->YB z O i j s.heap h'->Q (.ref s.heap.objs.size) { s with heap:=h' }) :
  Ap (As prog w) A (Hl.«zip.__next__» ⟨[.ref z],[]⟩) (λfin s'=>∃ v,fin=.done (.ret v)/\Q v s') E s:=by
 show Ap _ _ (field (.ref z) 2 >>= _) _ _ _;refine Ad (Du hz rfl (x:=.bool false) rfl ?_);show Ap _ _ (field (.ref z) 3 >>= _) _ _ _;refine Ad (Du hz rfl (x:=.ref I) rfl (Ad (Ep hI rfl ?_)));show Ap _ _ (Es (.ref z) >>= _) _ _ _;refine Ad ?_;unfold Es;refine Ad (Du hz rfl (x:=.none) rfl (Ak ?_));simp only[Dt];refine Ad (Kb (Ad (Du hz rfl (x:=.ref O) rfl (Ad (Fe hz (by simp) λg1 z1 s1=>?_)))))
 replace z1:Pm g1 z I O .ellipsis:=z1
 refine Ad ?_;simp only[Zf,Zw,Lv,Mn];refine Ad (Ad (Qz ?_));show Ap _ _ (Ea (.ref i) >>= _) _ _ _;refine Ad (gA (h1.keep λo e=>s1.extBut _ _ D.iz e) (ha.keep λo e=>s1.extBut _ _ Da.z e) hx λg2 i2 s2=>Ak ?_);have O2:Im g2 O p q:=s2.extBut _ _ D.Oi (s1.extBut _ _ D.Oz hO);refine Ad (Ep O2 rfl (Ad (Od O2 λg3 O3 s3=>Ad (Hs (Ak ?_)))))
 replace O3:Im g3 O x q:=O3
 refine Ad (Ad (Qz ?_));show Ap _ _ (Ea (.ref j) >>= _) _ _ _;refine Ad (gA (h2.keep λo e=>s3.extBut _ _ D.Oj.symm (s2.extBut _ _ D.ij.symm (s1.extBut _ _ D.jz e))) (hb.keep λo e=>s3.extBut _ _ Db.O (s2.extBut _ _ Db.i (s1.extBut _ _ Db.z e))) hy λg4 j4 s4=>Ak ?_);have O4:Im g4 O x q:=s4.extBut _ _ D.Oj O3;refine Ad (Ep O4 rfl (Ad (Od O4 λg5 O5 s5=>Ad (Hs (Ak (Ak ?_))))))
 replace O5:Im g5 O x y:=O5
 refine Ad (Ep O5 rfl (Ad (Uz ?_)));have sz:g5.objs.size=s.heap.objs.size:=by rw[s5.1,s4.1,s3.1,s2.1,s1.1]
 have z5:Pm g5 z I O .ellipsis:=s5.extBut _ _ D.Oz.symm (s4.extBut _ _ D.jz.symm (s3.extBut _ _ D.Oz.symm (s2.extBut _ _ D.iz.symm z1)));have k5:YB z O i j s.heap g5:=λc o c1 c2 c3 c4 e=>s5.extBut _ _ c2 (s4.extBut _ _ c4 (s3.extBut _ _ c2 (s2.extBut _ _ c3 (s1.extBut _ _ c1 e))));have i5:zB tp g5 i a (k+1):=i2.keep λo e=>s5.extBut _ _ D.Oi.symm (s4.extBut _ _ D.ij (s3.extBut _ _ D.Oi.symm e));have j5:zB tq g5 j b (k+1):=j4.keep λo e=>s5.extBut _ _ D.Oj.symm e;have zl:z<g5.objs.size:=Ax z5;show Ap _ _ (Gz (.ref z) (.ref g5.objs.size) >>= _) _ _ _;refine Ad ?_;unfold Gz;have z6:Pm (g5.push { cls:=.type "tuple",data:=.seq #[x,y] }) z I O .ellipsis:=Ag _ z5;refine Ad (Fe z6 (by simp) λg7 z7 s7=>?_)
 replace z7:Pm g7 z I O (Gf g5.objs.size):=z7
 refine Fe z7 (by simp) λg8 z8 s8=>?_
 replace z8:Pm g8 z I O (Gf g5.objs.size):=z8
 have up:∀ c o,c≠z->g5.get? c=Ab o->g8.get? c=Ab o:=λc o c1 e=>s8.extBut _ _ c1 (s7.extBut _ _ c1 (Ag _ e));have T8:Im g8 g5.objs.size x y:=s8.extBut _ _ (Gv zl) (s7.extBut _ _ (Gv zl) (Ba _ rfl));have sz8:g8.objs.size=g5.objs.size+1:=by rw[s8.1,s7.1,Dk]
 rw[sz] at z8 T8 sz8;refine Ak ⟨_,rfl,?_⟩;show Q (.ref g5.objs.size) _;rw[sz];exact hQ g8 z8 (up _ _ D.Oz O5) (i5.keep λo e=>up _ o D.iz e) (j5.keep λo e=>up _ o D.jz e) T8 sz8 λc o c1 c2 c3 c4 e=>up c o c1 (k5 c o c1 c2 c3 c4 e)
end
section
variable {prog:Bd}{w:Bt}{A:Bo}{E:Ac->Ah->Prop}{s:Ah}
theorem JR {tq:Ar}{z I O i j a b:Af}{k:Ai}{p q:Ac}{Q:Fin->Ah->Prop}(hh:A.handled=none)(D:ZA z I O i j)(Da:Off z O i j a)(Db:Off z O i j b)
  (hz:Pm s.heap z I O .none) (hI:Im s.heap I (.ref i) (.ref j)) (hO:Im s.heap O p q) (h1:zB tp s.heap i a k) (h2:zB tq s.heap j b k) (ha:xP tp s.heap a xs) (hb:xP tq s.heap b ys) (hend:xs[k]? = none\/ys[k]? = none)
  (hE:∀ h' e,YB z O i j s.heap h'->(∃ o,h'.get? e=Ab o/\o.cls=.type "StopIteration")->E (.ref e) { s with heap:=h' }) : Ap (As prog w) A (Hl.«zip.__next__» ⟨[.ref z],[]⟩) Q E s:=by
 show Ap _ _ (field (.ref z) 2 >>= _) _ _ _;refine Ad (Du hz rfl (x:=.bool false) rfl ?_);show Ap _ _ (field (.ref z) 3 >>= _) _ _ _;refine Ad (Du hz rfl (x:=.ref I) rfl (Ad (Ep hI rfl ?_)));show Ap _ _ (Es (.ref z) >>= _) _ _ _;refine Ad ?_;unfold Es;refine Ad (Du hz rfl (x:=.none) rfl (Ak ?_));simp only[Dt];refine Ad (Kb (Ad (Du hz rfl (x:=.ref O) rfl (Ad (Fe hz (by simp) λg1 z1 s1=>?_)))))
 replace z1:Pm g1 z I O .ellipsis:=z1
 refine Ad ?_;simp only[Zf,Zw,Lv,Mn];refine Ad (Ad (Qz ?_));show Ap _ _ (Ea (.ref i) >>= _) _ _ _;have it1:zB tp g1 i a k:=h1.keep λo e=>s1.extBut _ _ D.iz e;have sq1:xP tp g1 a xs:=ha.keep λo e=>s1.extBut _ _ Da.z e;cases hx:xs[k]? with
 |none =>
  refine Ad (uR hh it1 sq1 hx λg2 e x2 he=>?_);obtain⟨oe,h3,h4⟩:=he;have z2:Pm g2 z I O .ellipsis:=x2 _ _ D.iz.symm z1;have ne:e≠z:=λy=>by subst y;rw[z2] at h3;cases h3;simp at h4
  exact Fe z2 (by simp) λg3 _ s3=>hE g3 e (λc o c1 _ c3 _ y=>s3.extBut _ _ c1 (x2 _ _ c3 (s1.extBut _ _ c1 y))) ⟨oe,s3.extBut _ _ ne h3,h4⟩
 |some x =>
  have hy:ys[k]? = none:=by
   rcases hend with y|y
   .rw[hx] at y;cases y
   .exact y
  refine Ad (gA it1 sq1 hx λg2 i2 s2=>Ak ?_);have O2:Im g2 O p q:=s2.extBut _ _ D.Oi (s1.extBut _ _ D.Oz hO);refine Ad (Ep O2 rfl (Ad (Od O2 λg3 O3 s3=>Ad (Hs (Ak ?_)))));refine Ad (Ad (Qz ?_));show Ap _ _ (Ea (.ref j) >>= _) _ _ _;refine Ad (uR hh (h2.keep λo e=>s3.extBut _ _ D.Oj.symm (s2.extBut _ _ D.ij.symm (s1.extBut _ _ D.jz e))) (hb.keep λo e=>s3.extBut _ _ Db.O (s2.extBut _ _ Db.i (s1.extBut _ _ Db.z e))) hy λg4 e x4 he=>?_);obtain⟨oe,h3,h4⟩:=he;have z4:Pm g4 z I O .ellipsis:=x4 _ _ D.jz.symm (s3.extBut _ _ D.Oz.symm (s2.extBut _ _ D.iz.symm z1));have ne:e≠z:=λy=>by subst y;rw[z4] at h3;cases h3;simp at h4
  exact Fe z4 (by simp) λg5 _ s5=>hE g5 e (λc o c1 c2 c3 c4 y=>s5.extBut _ _ c1 (x4 _ _ c4 (s3.extBut _ _ c2 (s2.extBut _ _ c3 (s1.extBut _ _ c1 y))))) ⟨oe,s5.extBut _ _ ne h3,h4⟩
abbrev vV (tp:Ar)(l:Af):Ci:={ cls:=.type (if tp then "tuple_iterator" else "list_iterator"),data:=.fields #[.ref l,.int 0 0] }
abbrev zh1 (tp:Ar)(h:Bj)(a:Af):Bj:=h.push (vV tp a)
abbrev zh2 (tp tq:Ar)(h:Bj)(a b:Af):Bj:=(zh1 tp h a).push (vV tq b)
abbrev zh3 (tp tq:Ar)(h:Bj)(a b:Af):Bj:=(zh2 tp tq h a b).push { cls:=.type "tuple",data:=.seq #[.ref h.objs.size,.ref (zh1 tp h a).objs.size] }
abbrev zh4 (tp tq:Ar)(h:Bj)(a b:Af):Bj:=(zh3 tp tq h a b).push { cls:=.type "tuple",data:=.seq #[.none,.none] }
abbrev zh5 (tp tq:Ar)(h:Bj)(a b:Af):Bj:=(zh4 tp tq h a b).push { cls:=.type "zip",data:=.fields #[.none,.bool false,.bool false,.ref (zh2 tp tq h a b).objs.size,.ref (zh3 tp tq h a b).objs.size] }
set_option maxHeartbeats 4000000 in
theorem ML (tp:Ar)(a b:Af)(xs ys:Bn Ac) :
  Meets (Hl.«zip.__new__» ⟨[.type "zip",.ref a,.ref b],[]⟩) (λ_ R s=>xP tp s.heap a xs/\xP tp s.heap b ys/\R (.ok (.ret (.ref (zh4 tp tp s.heap a b).objs.size))) { s with heap:=zh5 tp tp s.heap a b }):=
 .of_wp λprog w A R s h=>by
  obtain⟨hp,g,d,tk,os⟩:=s;obtain⟨q1,q2,h⟩:=h;have hsub:=sub_zip;have e2:∀ ob:Ci,xP tp (hp.push ob) b ys:=λob=>q2.keep λo e=>Ag _ e;cases tp
  .have l1:Zg (Nu ⟨hp,g,d,tk,os⟩) a xs:=q1
   have l2:Zg (Nu ⟨hp.push { cls:=.type "list_iterator",data:=.fields #[.ref a,.int 0 0] },g,d,tk,os⟩) b ys:=e2 _
   wp_walk using Fm l1,Fm l2
   exact⟨_,rfl,h⟩
  .have l1:Xq (Nu ⟨hp,g,d,tk,os⟩) a xs:=q1
   have l2:Xq (Nu ⟨hp.push { cls:=.type "tuple_iterator",data:=.fields #[.ref a,.int 0 0] },g,d,tk,os⟩) b ys:=e2 _
   wp_walk using Hd l1,Hd l2
   exact⟨_,rfl,h⟩
theorem kY {h:Bj}{it l:Af}(e:h.get? it=Ab (vV tp l)):zB tp h it l 0:=by
 cases tp
 .exact⟨_,e,rfl,rfl⟩
 .exact⟨_,e,rfl,rfl⟩
theorem YI {a b:Af}(ha:xP tp s.heap a xs)(hb:xP tp s.heap b ys)
  (h:∀ h',Pm h' (s.heap.objs.size+4) (s.heap.objs.size+2) (s.heap.objs.size+3) .none->Im h' (s.heap.objs.size+2) (.ref s.heap.objs.size) (.ref (s.heap.objs.size+1)) ->
   Im h' (s.heap.objs.size+3) .none .none->zB tp h' s.heap.objs.size a 0->zB tp h' (s.heap.objs.size+1) b 0->h'.objs.size=s.heap.objs.size+5->(∀ c o,s.heap.get? c=Ab o->h'.get? c=Ab o)->Q (.ref (s.heap.objs.size+4)) { s with heap:=h' }) :
  Ap (As prog w) A (call (.type "zip") [.ref a,.ref b]) Q E s:=by
 refine callType_new F.called_zip (by decide) (F.typeCall_zip_2 _ _) (F.newCall_zip_2 _ _) (λobj=>F.args_object_init_3 obj _ _) F.entry_zip_new (ML tp a b xs ys) ⟨ha,hb,?_⟩
 have y1:(zh1 tp s.heap a).objs.size=s.heap.objs.size+1:=Dk ..;have y2:(zh2 tp tp s.heap a b).objs.size=s.heap.objs.size+2:=by rw[Dk,y1]
 have y3:(zh3 tp tp s.heap a b).objs.size=s.heap.objs.size+3:=by rw[Dk,y2]
 have y4:(zh4 tp tp s.heap a b).objs.size=s.heap.objs.size+4:=by rw[Dk,y3]
 have y5:(zh5 tp tp s.heap a b).objs.size=s.heap.objs.size+5:=by rw[Dk,y4]
 have g5:(zh5 tp tp s.heap a b).get? (zh4 tp tp s.heap a b).objs.size=Ab _:=Ba _ rfl;have g4:(zh5 tp tp s.heap a b).get? (zh3 tp tp s.heap a b).objs.size=Ab _:=Ag _ (Ba _ rfl);have g3:(zh5 tp tp s.heap a b).get? (zh2 tp tp s.heap a b).objs.size=Ab _:=Ag _ (Ag _ (Ba _ rfl));have g2:(zh5 tp tp s.heap a b).get? (zh1 tp s.heap a).objs.size=Ab (vV tp b):=Ag _ (Ag _ (Ag _ (Ba _ rfl)));have g1:(zh5 tp tp s.heap a b).get? s.heap.objs.size=Ab (vV tp a):=Ag _ (Ag _ (Ag _ (Ag _ (Ba _ rfl))));have kp:∀ c o,s.heap.get? c=Ab o->(zh5 tp tp s.heap a b).get? c=Ab o:=λc o e=>Ag _ (Ag _ (Ag _ (Ag _ (Ag _ e))));show _/\_;rw[y2,y3,y4] at g5;rw[y1,y2] at g3;rw[y3] at g4;rw[y1] at g2;rw[y4];exact⟨⟨_,g5,rfl⟩,h _ g5 g3 g4 (kY g1) (kY g2) y5 kp⟩
end
def Sq (tp:Ar)(K:Aj)(H:Hp)(a:Af)(xs:Aa V):Prop:=if tp then SqT K H a xs else SqL K H a xs
section
variable {X:Cx}{pins:Aa (Af × Ci)}{σ : _L.St}{H:Hp}{s:Ah}
theorem Sq.at {a:Af}{xs:Aa V}(I:Inv X pins σ H s)(q:Sq tp X.K H a xs):∃ its,qH xs its/\xP tp s.heap a its.toArray:=by
 cases tp with
 |true =>
  obtain⟨its,rv,p,_⟩:=I.tuple q;exact⟨its,rv,p⟩
 |false =>
  obtain⟨its,rv,p,_⟩:=I.list q;exact⟨its,rv,p.isList⟩
theorem Sq.inj {a:Af}{xs ys:Aa V}(I:Inv X pins σ H s)(q:Sq tp X.K H a xs)(q':Sq tp X.K H a ys):xs=ys:=by
 cases tp with
 |true=>exact I.tuple_inj q q'
 |false=>exact I.list_inj q q'
theorem Sq.off {a b:Af}{xs:Aa V}(I:Inv X pins σ H s)(q:Sq tp X.K H a xs)(f:x5 X pins H b):a≠b:=by
 have key:H a≠none\/∃ o,X.K.lookup a=Ab o:=by
  cases tp with
  |true =>
   rcases q with (q|⟨o,q⟩)|⟨o,_,_,q,_⟩
   .exact .inl (by rw[q];intro z;cases z)
   .exact .inl (by rw[q];intro z;cases z)
   .exact .inr ⟨_,q⟩
  |false =>
   rcases q with (q|⟨o,q⟩)|⟨o,_,_,q,_⟩
   .exact .inl (by rw[q];intro z;cases z)
   .exact .inl (by rw[q];intro z;cases z)
   .exact .inr ⟨_,q⟩
 rintro rfl;rcases key with k|⟨o,k⟩
 .exact k f.1
 .have e:=I.mod.kin a o k
  rcases f.2.2.2.1 with z|z
  .exact I.ok.noex a o e z
  .exact absurd (Ax (I.ok.bs a o e).1) (Ir.mpr z)
theorem Inv.turnLay {fp:Aa Af}{T:Af}{xs:Aa V}{its:Aa Ac}(I:Inv X pins σ H s)(hf:∀ b∈fp,x5 X pins H b)(k:∀ b o,b ∉ fp->s.heap.get? b=Ab o->h'.get? b=Ab o)(th:∀ b∈fp,∃ o,h'.get? b=Ab o)
  (hT:s.heap.objs.size<=T) (rv:qH xs its) (hx:Nj h' T its.toArray) (hz:xs.length<=sizeLine):Inv X pins σ (upd H T (.tup xs)) { s with heap:=h' }:=by
 have hn:H T=none:=I.hok.fresh hT;have ne:∀ b o,s.heap.get? b=Ab o->b≠T:=λb o e=>Bv (Bm (Ax e) hT);refine I.step (g':=s.gens) (d':=s.drawn) (t':=s.toks) (ch:=fp) (λb hb=>⟨(hf b hb).2.2.2.1,(hf b hb).2.1,(hf b hb).2.2.2.2.1,(hf b hb).2.2.2.2.2⟩) (λb o _ _ hc e _=>k b o hc e) (λb o _ _ hc e _=>⟨o.slots,k b o hc e⟩)
  (λb o _ e n=>by rw[qJ (ne b o e)];exact n) (λb o hc e=>⟨o,k b o hc e⟩) (λb ys e=>by rw[qJ (qP e hn)];exact e) (λb o u e=>by rw[qJ (qP e hn)];exact e)
  (λb ps e=>⟨#[],by rw[qJ (qP e hn),e];simp⟩) (λm hm=>?_) (λb u e=>?_) I.bare
 .obtain⟨o,es,ep,ho,r⟩:=hm
  exact⟨o,es,ep,k _ o (λz=>(hf _ z).2.1 rfl) ho,r⟩
 .by_cases hb:b=T
  .subst hb
   rw[qQ] at e;cases e;exact⟨hz,its,rv,hx⟩
  .rw[qJ hb] at e
   refine(I.hok b u e).stay (λc v hc q=>k c v (λz=>?_) q) (λc q=>by rw[qJ (qP q hn)];exact q) λc ys q=>by rw[qJ (qP q hn)];exact q
   have hcn:=(hf c z).1;rcases hc with rfl|hc
   .rw[hcn] at e;cases e
   .rw[hcn] at hc;cases hc
theorem Inv.turnL {fp:Aa Af}(I:Inv X pins σ H s)(hf:∀ b∈fp,x5 X pins H b)(k:∀ b o,b ∉ fp->s.heap.get? b=Ab o->h'.get? b=Ab o):Inv X pins σ H { s with heap:=h' }:=by
 refine I.step (g':=s.gens) (d':=s.drawn) (t':=s.toks) (ch:=fp) (λb hb=>⟨(hf b hb).2.2.2.1,(hf b hb).2.1,(hf b hb).2.2.2.2.1,(hf b hb).2.2.2.2.2⟩) (λb o _ _ hc e _=>k b o hc e) (λb o _ _ hc e _=>⟨o.slots,k b o hc e⟩)
  (λb o _ e n=>n) (λb o hc e=>⟨o,k b o hc e⟩) (λb ys e=>e) (λb o u e=>e) (λb ps e=>⟨#[],by rw[e];simp⟩) (λm hm=>?_) (λb u e=>?_) I.bare
 .obtain⟨o,es,ep,ho,r⟩:=hm
  exact⟨o,es,ep,k _ o (λz=>(hf _ z).2.1 rfl) ho,r⟩
 .refine(I.hok b u e).stay (λc v hc q=>k c v (λz=>?_) q) (λc q=>q) λc ys q=>q
  have hcn:=(hf c z).1;rcases hc with rfl|hc
  .rw[hcn] at e;cases e
  .rw[hcn] at hc;cases hc
end
def Itz (tp:Ar)(K:Aj)(a b:Af):It:=
  ⟨λi H=>∃ xs ys x y,Sq tp K H a xs/\Sq tp K H b ys/\xs[i]? = Ab x/\ys[i]? = Ab y,
   λi H v H'=>∃ T x y,v=.ref T/\H T=none/\H'=upd H T (.tup [x,y])/\(∀ xs,Sq tp K H a xs->xs[i]? = Ab x)/\∀ ys,Sq tp K H b ys->ys[i]? = Ab y,
   λi H=>∃ xs ys,Sq tp K H a xs/\Sq tp K H b ys/\(xs.length<=i\/ys.length<=i)⟩
def iZ (tp:Ar)(z I O i j a b:Af)(k:Ai)(h:Bj):Prop:=∃ p q,Pm h z I O .none/\Im h I (.ref i) (.ref j)/\Im h O p q/\zB tp h i a k/\zB tp h j b k
theorem pU {z I O i j a b:Af}{k:Ai}{h:Bj}(st:iZ tp z I O i j a b k h):∀ c∈[z,I,O,i,j],∃ o,h.get? c=Ab o/\∀ v,o.data≠.cell v:=λc hc=>by
 obtain⟨p,q,s1,s2,s3,s4,s5⟩:=st;simp only[Aw,Ca,Eu] at hc;rcases hc with rfl|rfl|rfl|rfl|rfl
 .exact⟨_,s1,λv y=>by cases y⟩
 .exact⟨_,s2,λv y=>by cases y⟩
 .exact⟨_,s3,λv y=>by cases y⟩
 .exact s4.there
 .exact s5.there
theorem KH {c z I O i j:Af}(h:c ∉ [z,I,O,i,j]):c≠z/\c≠O/\c≠i/\c≠j:=by
 simp only[Aw,Ca,Eu,Sh] at h;exact⟨h.1,h.2.2.1,h.2.2.2.1,h.2.2.2.2⟩
theorem JK {P:Bd}{w:Bt}{K:Aj}{elts:Aa Br}{x1:Ai}{tpos:Ex}{z I O i j a b:Af}(D:ZA z I O i j):Turn P w K (.Tuple elts x1 tpos) (Itz tp K a b) [z,I,O,i,j] z (iZ tp z I O i j a b) where
 mem:=.head _
 obj:=λk h st=>pU st
 keep:=λk h h' st kp=>by
  obtain⟨p,q,s1,s2,s3,s4,s5⟩:=st;exact⟨p,q,kp z (.head _) _ s1,kp I (.tail _ (.head _)) _ s2,kp O (.tail _ (.tail _ (.head _))) _ s3,s4.keep λo e=>kp i (.tail _ (.tail _ (.tail _ (.head _)))) o e,s5.keep λo e=>kp j (.tail _ (.tail _ (.tail _ (.tail _ (.head _))))) o e⟩
 item:=by
  intro X hP hw hK hc k pins s σ H E Iv hf st hg;subst hP hw hK;obtain⟨p,q,s1,s2,s3,s4,s5⟩:=st;obtain⟨xs,ys,x,y,qa,qb,hx,hy⟩:=hg;obtain⟨ia,ra,ha⟩:=qa.at Iv;obtain⟨ib,rb,hb⟩:=qb.at Iv;obtain⟨u,hu,ru⟩:=ra.get hx;obtain⟨u',hu',ru'⟩:=rb.get hy;have off:∀ {c:Af} {zs:Aa V},Sq tp X.K H c zs->Off z O i j c:=λ{c zs} qc=>⟨qc.off Iv (hf z (.head _)),qc.off Iv (hf O (.tail _ (.tail _ (.head _)))),qc.off Iv (hf i (.tail _ (.tail _ (.tail _ (.head _))))),qc.off Iv (hf j (.tail _ (.tail _ (.tail _ (.tail _ (.head _))))))⟩;have hT:s.TypeIs (.ref z) "zip":=⟨_,s1,rfl⟩;unfold Mk;refine Ad (Jb (Dy (name:=Fz "__next__") hT On (Dz On hT Zh
   (JP D (off qa) (off qb) s1 s2 s3 s4 s5 ha hb (by simpa using hu) (by simpa using hu') λh' a1 a2 a3 a4 a5 a6 a7=>Ak ?_) (Yi _))))
  refine⟨_,rfl,wpAny_letOwnedTupleGo_zip (s:={ s with heap:=h' }) a1 λh2 b1 b2=>?_⟩
  have up:∀ c o,c≠z->h'.get? c=Ab o->h2.get? c=Ab o:=λc o n e=>(b2.2 c n).trans e;have zl:z<s.heap.objs.size:=Ax s1;have T2:Im h2 s.heap.objs.size u u':=up _ _ (Gv zl) a5;have st2:iZ tp z I O i j a b (k+1) h2:=⟨u,u',b1,up _ _ D.Iz (a7 I _ D.Iz D.IO D.Ii D.Ij s2),up _ _ D.Oz a2,a3.keep λo e=>up _ o D.iz e,a4.keep λo e=>up _ o D.jz e⟩;refine⟨.ref s.heap.objs.size,upd H s.heap.objs.size (.tup [x,y]),?_,rfl,⟨_,x,y,rfl,Iv.hok.fresh (AT _),rfl,λzs qz=>by rw[qz.inj Iv qa];exact hx,λzs qz=>by rw[qz.inj Iv qb];exact hy⟩,st2,λc hc=>?_⟩
  .show _L.Inv X pins σ (upd H s.heap.objs.size (.tup [x,y])) { s with heap:=h2 }
   refine Inv.turnLay (fp:=[z,I,O,i,j]) (its:=[u,u']) Iv hf (λc o hc e=>?_) (λc hc=>?_) (AT _) (.cons ru (.cons ru' .nil)) ⟨_,T2,rfl,_,rfl⟩ (by show 2<=sizeLine;decide)
   .have hc:=KH hc
    exact up c o hc.1 (a7 c o hc.1 hc.2.1 hc.2.2.1 hc.2.2.2 e)
   .obtain⟨o,e,_⟩:=pU st2 c hc
    exact⟨o,e⟩
  .have hn:=(hf c hc).1
   rw[qJ ?_]
   .exact hn
   .rintro rfl
    obtain⟨o,e,_⟩:=pU ⟨p,q,s1,s2,s3,s4,s5⟩ _ hc;exact absurd (Ax e) (Dp _)
 done:=by
  intro X hP hw hK hc k pins s σ H E Iv hf st hg;subst hP hw hK;obtain⟨p,q,s1,s2,s3,s4,s5⟩:=st;obtain⟨xs,ys,qa,qb,hend⟩:=hg;obtain⟨ia,ra,ha⟩:=qa.at Iv;obtain⟨ib,rb,hb⟩:=qb.at Iv;have off:∀ {c:Af} {zs:Aa V},Sq tp X.K H c zs->Off z O i j c:=λ{c zs} qc=>⟨qc.off Iv (hf z (.head _)),qc.off Iv (hf O (.tail _ (.tail _ (.head _)))),qc.off Iv (hf i (.tail _ (.tail _ (.tail _ (.head _))))),qc.off Iv (hf j (.tail _ (.tail _ (.tail _ (.tail _ (.head _))))))⟩;have hT:s.TypeIs (.ref z) "zip":=⟨_,s1,rfl⟩;have l1:=ra.length;have l2:=rb.length;unfold Mk;refine Ad (Jb (Dy (name:=Fz "__next__") hT On (Dz On hT Zh
   (JR (Iv.ok.hd hc) D (off qa) (off qb) s1 s2 s3 s4 s5 ha hb ?_ λh' e kp he=>?_) (Yi _))))
  .rcases hend with y|y
   .exact .inl (by simp;omega)
   .exact .inr (by simp;omega)
  .obtain⟨o,ho,hcl⟩:=he
   refine Ad (Nv (T:="StopIteration") (b:=true) ⟨o,ho,hcl⟩ Va (Ak ⟨rfl,Inv.turnL (fp:=[z,I,O,i,j]) Iv hf λc o hc e=>?_⟩));have hc:=KH hc;exact kp c o hc.1 hc.2.1 hc.2.2.1 hc.2.2.2 e
 self:=λ_ _ _ _ _ st h=>by
  obtain⟨p,q,s1,_⟩:=st;exact Zi s1 h
def vI (xs ys:Aa D):Aa D:=List.zipWith (λx y=>D.tup [x,y]) xs ys
def EN (ds:Aa D):Al (Aa D):=match ds with
 |[.tup xs,.tup ys]=>Ab (vI xs ys)
 |[.lst xs,.lst ys]=>Ab (vI xs ys)
 |_=>none
def tO (f:DA):DI:=λenv S=>(f env S).bind λds S1=>vM (EN ds) S1
theorem JO {xs ys:Aa D}{i:Ai}:(vI xs ys)[i]? = match xs[i]?,ys[i]? with|some x,Ab y=>Ab (D.tup [x,y])|_,_=>none:=by
 unfold vI;rw[List.getElem?_zipWith];cases xs[i]? <;> cases ys[i]? <;> rfl
theorem fZ (xs ys:Aa D):(vI xs ys).length=min xs.length ys.length:=by simp[vI]
section
variable {K:Aj}
theorem Sq.mono {P P':Hp}(e:qF P P'){a:Af}{xs:Aa V}(q:Sq tp K P a xs):Sq tp K P' a xs:=by
 cases tp with
 |true=>exact yQ e q
 |false=>exact e.seq q
theorem BD {P:Hp}{a b:Af}{xs ys:Aa D}{ws:Aa V}(qa:Sq tp K P a vs)(qb:Sq tp K P b ws)(ta:qD K P α xs vs)(tb:qD K P α ys ws):ItD K (Itz tp K a b) P α (vI xs ys) where
 go:=λi H P1 α1 S hi r e _=>by
  rw[fZ] at hi;have h1:i<vs.length:=by rw[<- ta.length];omega
  have h2:i<ws.length:=by rw[<- tb.length];omega
  exact⟨vs,ws,vs[i],ws[i],qa.mono (e.trans r.sub),qb.mono (e.trans r.sub),by simp,by simp⟩
 yld:=λi H x H' P1 α1 S hi r e e2 y=>by
  obtain⟨T,u,w,rfl,hT,rfl,hu,hw⟩:=y;rw[fZ] at hi;have h1:i<xs.length:=by omega
  have h2:i<ys.length:=by omega
  obtain⟨v1,z1,p1⟩:=ta.get (An h1);obtain⟨v2,z2,p2⟩:=tb.get (An h2);have eu:=hu vs (qa.mono (e.trans r.sub));have ew:=hw ws (qb.mono (e.trans r.sub));rw[z1] at eu;cases eu;rw[z2] at ew;cases ew;obtain⟨r1,s1⟩:=r.pure (o:=.tup [u,w]) hT;refine⟨_,.tup [xs[i],ys[i]],?_,r1,s1,?_⟩
  .rw[JO,An h1,An h2]
  .exact nV (.of qQ) (.cons (Rep.mono (e.trans s1) e2 _ _ p1) (.cons (Rep.mono (e.trans s1) e2 _ _ p2) .nil))
 stop:=λi H P1 α1 S hi r e _=>by
  rw[fZ] at hi;have l1:=ta.length;have l2:=tb.length;exact⟨vs,ws,qa.mono (e.trans r.sub),qb.mono (e.trans r.sub),by omega⟩
end
section
variable {X:Cx}{e1 e2:Br}{elts:Aa Br}{x1:Ai}{tpos:Ex}{f:DA}{p pos:Ex}
theorem Y8 {pins:Aa (Af × Ci)}{σ:_L.St}{H P:Hp}{s:Ah}{a b:Af}{xs ys:Aa D}{ws:Aa V}(I:Inv X pins σ H s)(r:Rel X.K H P α S)(qa:Sq tp X.K P a vs)(qb:Sq tp X.K P b ws)(ta:qD X.K P α xs vs)(tb:qD X.K P α ys ws)
  (q:OkI X P α R (vI xs ys) S):Ap (As X.prog X.w) X.A (call (.type "zip") [.ref a,.ref b]) (λv s1=>Ap (As X.prog X.w) X.A (Nl v) (PIE X pins σ (.Tuple elts x1 tpos) R) X.xe s1) X.xe s:=by
 obtain⟨ia,ra,ha⟩:=(qa.mono r.sub).at I;obtain⟨ib,rb,hb⟩:=(qb.mono r.sub).at I;refine YI ha hb λh' z1 z2 z3 z4 z5 z6 z7=>?_;refine Zi (s:={ s with heap:=h' }) z1 ?_
 have D:ZA (s.heap.objs.size+4) (s.heap.objs.size+2) (s.heap.objs.size+3) s.heap.objs.size (s.heap.objs.size+1):=by constructor <;> (intro z;simp at z)
 refine⟨_,[s.heap.objs.size+4,s.heap.objs.size+2,s.heap.objs.size+3,s.heap.objs.size,s.heap.objs.size+1],_,_,H,rfl,I.kept (t':=s.toks) z7,JK (a:=a) (b:=b) D,⟨_,_,z1,z2,z3,z4,z5⟩,λc hc=>?_,q _ _ P α r (qF.refl _) (Bh _) (BD qa qb ta tb)⟩;have hl:s.heap.objs.size<=c:=by
  simp only[Aw,Ca,Eu] at hc;rcases hc with rfl|rfl|rfl|rfl|rfl <;> simp
 exact I.fpOk hl (I.hok.fresh hl)
inductive ZipV (ds:Aa D)(its:Aa D):Prop
 |tup (xs ys:Aa D) (ed:ds=[.tup xs,.tup ys]) (e:its=vI xs ys)
 |lst (xs ys:Aa D) (ed:ds=[.lst xs,.lst ys]) (e:its=vI xs ys)
theorem MK (h:EN ds=Ab its):ZipV ds its:=by
 cases ds with
 |nil=>exact nn h
 |cons a ds =>
  cases a with
  |tup xs =>
   cases ds with
   |nil=>exact nn h
   |cons b ds =>
    cases b with
    |tup ys =>
     cases ds with
     |nil=>exact .tup xs ys rfl (Co h).symm
     |cons _ _=>exact nn h
    |_=>exact nn h
  |lst xs =>
   cases ds with
   |nil=>exact nn h
   |cons b ds =>
    cases b with
    |lst ys =>
     cases ds with
     |nil=>exact .lst xs ys rfl (Co h).symm
     |cons _ _=>exact nn h
    |_=>exact nn h
  |_=>exact nn h
theorem ND (hg:Gl X "zip")(hm:X.mg "zip" = none)(ha:PA X [e1,e2] (tDA X f))(hs:Bl [e1,e2] X.env=(false,eval e1 X.env)::Bl [e2] X.env:=by rfl)(hpl:(Ge pos (Bl [e2] X.env)).any (·.1)=false:=by rfl) :
  PI X (.Tuple elts x1 tpos) (.Call (.Name "zip" p) [e1,e2] [] pos) (tDI X (tO f)):=by
 intro pins s σ H R I h;obtain⟨P,α,env,S,r,re,af⟩:=h;refine Call_ (yE I hg hm boot_zip (Hi (thn (wK ha I r re af pos) λus s1 ⟨vs,H1,P1,α1,ds,S1,I1,rv,r1,re1,rp,e1,e2,af1⟩=>?_) hs hpl));obtain⟨its,hi,q⟩:=vN af1;cases MK hi with
 |tup xs ys ed e =>
  subst ed e;obtain⟨v,w,u,x,rfl,rfl,p1,p2,q1,q2⟩:=gF rp rv;simp only[Rep] at p1 p2;obtain⟨a,va,rfl,qa,ta⟩:=p1;obtain⟨b,vb,rfl,qb,tb⟩:=p2;cases (show u=Bs a from q1)
  cases (show x=Bs b from q2)
  exact Y8 (tp:=true) I1 r1 qa qb ta tb (q.base e1 e2)
 |lst xs ys ed e =>
  subst ed e;obtain⟨v,w,u,x,rfl,rfl,p1,p2,q1,q2⟩:=gF rp rv;simp only[Rep] at p1 p2;obtain⟨a,va,rfl,qa,ta⟩:=p1;obtain⟨b,vb,rfl,qb,tb⟩:=p2;cases (show u=Bs a from q1)
  cases (show x=Bs b from q2)
  exact Y8 (tp:=false) I1 r1 qa.l qb.l ta tb (q.base e1 e2)
end
def Src (K:Aj)(mg:Av->Al Ac)(x:Av)(st:Fa)(ps:Aa Av):Prop:=∃ f fd,mg x=Ab (.ref f)/\Fun K x x st f fd/\vQ K fd ps []
def Lk (K:Aj)(f:Af)(fd:Ft):Prop:=∃ oc od osl,K.lookup f=Ab ⟨oc,od,.func fd,osl⟩
theorem bC {K:Aj}{x q:Av}{st:Fa}{f:Af}{fd:Ft}(F:Fun K x q st f fd):Lk K f fd:=by
 obtain⟨oc,od,kV,doc,pm,an,cdv,ct,osl,_,lk,_⟩:=F.ex;exact⟨oc,od,osl,lk⟩
theorem Lk.one {K:Aj}{f:Af}{fd fd':Ft}(h:Lk K f fd)(h':Lk K f fd'):fd=fd':=by
 obtain⟨oc,od,osl,e⟩:=h;obtain⟨oc',od',osl',e'⟩:=h';rw[e] at e';cases e';rfl
def Def (P:Bd)(w:Bt)(K:Aj)(mg:Av->Al Ac)(base:Bj)(cm:Ar)(k:Ai)(x:Av)(n:Ai)(F:DF):Prop:=
 ∃ f fd ps,ps.length=n/\mg x=Ab (.ref f)/\Fj K (.ref f)=true/\vQ K fd ps [] /\ Lk K f fd/\FnX P w K mg base cm k f fd ps (spD K n F)
def sN (P:Bd)(w:Bt)(K:Aj)(mg:Av->Al Ac)(base:Bj)(cm:Ar)(k:Ai)(x:Av)(ps:Aa Av)(F:DF):Prop:=
 ∃ f fd,mg x=Ab (.ref f)/\Fj K (.ref f)=true/\vQ K fd ps [] /\ Lk K f fd/\FnX P w K mg base cm k f fd ps (spD K ps.length F)
section
variable {P:Bd}{w:Bt}{K:Aj}{mg:Av->Al Ac}{base:Bj}{cm:Ar}
theorem JW {x:Av}{f:Af}{fd:Ft}{cdv:Ac}(hm:mg x=Ab (.ref f))(lk:Lk K f fd)(h:fd.code=cdv/\Mod K mg base):kH K x cdv:=λc T e=>by
 obtain⟨oc,od,osl,lk⟩:=lk;rw[<- h.1];exact PySem.W.law_code h.2.kin h.2.glob e hm (h.2.kin _ _ lk) rfl
theorem N9 {x:Av}{st:Fa}{ps:Aa Av}{k:Ai}{g:DS}(h:Src K mg x st ps)(S:FnScope N ps (qG st))
  (hbody:∀ (f:Af) (cdv:Ac) (A:Bo) (outer:Aa HT) (s:Ah) (H:Hp) (E:XK),kH K x cdv->RoomC cm k (A.deeper (Gj x (qG st) s.heap.objs.size f cdv)) ->
   PSs (cxC cm P w K mg base N x (qG st) f cdv A outer s H E) (zF st) (tDS (cxC cm P w K mg base N x (qG st) f cdv A outer s H E) g)):Def P w K mg base cm (k+1) x ps.length (qT N.length g):=by
 obtain⟨f,fd,hm,F,hb⟩:=h;exact⟨f,fd,ps,rfl,hm,F.kp,hb,bC F,fnX F S λcdv A outer s H E hc hr=>hbody f cdv A outer s H E (JW hm (bC F) hc) hr⟩
theorem PD {x:Av}{st:Fa}{ps:Aa Av}{k:Ai}{g:DS}(h:Src K mg x st ps)(S:FnScope N ps (qG st))
  (hbody:∀ (f:Af) (cdv:Ac) (A:Bo) (outer:Aa HT) (s:Ah) (H:Hp) (E:XK),kH K x cdv->RoomC cm k (A.deeper (Gj x (qG st) s.heap.objs.size f cdv)) ->
   PSs (cxC cm P w K mg base N x (qG st) f cdv A outer s H E) (zF st) (tDS (cxC cm P w K mg base N x (qG st) f cdv A outer s H E) g)):sN P w K mg base cm (k+1) x ps (qT N.length g):=by
 obtain⟨f,fd,hm,F,hb⟩:=h;exact⟨f,fd,hm,F.kp,hb,bC F,fnX F S λcdv A outer s H E hc hr=>hbody f cdv A outer s H E (JW hm (bC F) hc) hr⟩
theorem Def.any {x:Av}{k n:Ai}{F:DF}(h:Def P w K mg base false k x n F):Def P w K mg base cm k x n F:=by
 obtain⟨f,fd,ps,hn,hm,kp,hb,hl,X⟩:=h;exact⟨f,fd,ps,hn,hm,kp,hb,hl,X.any⟩
end
section
variable {X:Cx}{cm:Ar}{k n:Ai}{F:DF}{x:Av}{p pos:Ex}{e:Br}{es:Aa Br}{fa:DA}
theorem dcN (G:Def X.prog X.w X.K X.mg X.base cm k x n F)(hr:RoomC cm k X.A)(hF:Fn1 X)(hg:Gl X x)(ha:PA X (e::es) (tDA X fa))(hdb:(x == ("__debug__" : Av))=false:=by decide)(he:Bl (e::es) X.env=(false,eval e X.env)::Bl es X.env:=by rfl)(hpl:(Ge pos (Bl es X.env)).any (·.1)=false:=by rfl) :
  PE X (.Call (.Name x p) (e::es) [] pos) (tD X (qN n F fa)):=by
 obtain⟨f,fd,ps,hn,hm,kp,hb,hl,G⟩:=G;exact GX G hr hF hg hm kp hb ha hdb he hpl
theorem TX (hg:Gl X x)(hm:X.mg x=Ab (.ref C))(hk:Fj X.K (.ref C)=true)(hd:(x == ("__debug__" : Av))=false:=by decide):PE X (.Name x pos) (tD X (dC (.obj C))):=
 cS hg hm (v:=.ref C) rfl (λP α => by simp only[Rep];exact⟨trivial,hk⟩) hd
end
def xF:DF:=λds S=>match ds with
 |[.dct0]=>.bad
 |_=>rJ ds S
theorem GN {X:Cx}:w8 X (.builtin "len") xF:=T6 trivial
def p6:DE:=λ_ _=>.bad
theorem TV {X:Cx}{e:Br}:PE X e (tD X p6):=λ_ _ _ _ _ _ ⟨_,_,_,_,_,_,h⟩=>Ao h
theorem JU:∃ C:Am->Am->Ar,C=sT:=⟨_,rfl⟩
def JT:Am->Am->Ar:=Ky JU
theorem sU:JT=sT:=Ke JU
def zU:G2:=i2 JT λi j=>.int (i*j)
theorem aY {X:Cx}:OpD X (Ek .Mult) zU:=by
 unfold zU;rw[sU];exact BY
theorem hu1 {cm:Ar}{k:Ai}{A:Bo}(hr:RoomC cm k A):A.units+1<Dw:=by have:=hr.units;omega
def okO (F:DF):DF:=λds S=>match F ds S with
 |.ok d S'=>.ok d S'
 |_=>.bad
theorem XQ {F:DF}{S':Sto}{d:D}(h:F ds S=.ok d S'):okO F ds S=.ok d S':=by unfold okO;rw[h]
section
variable {X:Cx}{cm:Ar}{k n:Ai}{F:DF}{x:Av}{p pos:Ex}{e:Br}{es:Aa Br}{fa:DA}{f:Af}{fd:Ft}{ps:Aa Av}
theorem FU {pins:Aa (Af × Ci)}{σ:_L.St}{H:Hp}{s:Ah}{Q:VK}{us:Aa Ac}{P:Hp}(G:FnX X.prog X.w X.K X.mg X.base cm k f fd ps (spD X.K n F))(hr:RoomC cm k X.A)(hb:vQ X.K fd ps [])
  (I:Inv X pins σ H s) (r:Rel X.K H P α S) (rv:qH vs us) (rp:qD X.K P α ds vs) (hn:ds.length=n) (af:qR X P α (okO F ds S) Q):Ap (As X.prog X.w) X.A (call (.ref f) us) (EP X pins σ Q) X.xe s:=by
 have hvn:vs.length=n:=by rw[<- rp.length];exact hn
 have hsp:spD X.K n F vs H Q λ_ _ _=>Fh:=by
  refine⟨hvn,P,α,ds,S,r,rp,?_⟩;unfold okO at af;cases q:F ds S with
  |ok d S'=>rw[q] at af;exact af
  |ex c x S'=>rw[q] at af;exact Ao af
  |bad=>rw[q] at af;exact af
 have hl:us.length=ps.length:=by rw[<- rv.length];exact G.len _ _ _ _ hsp
 have hb':=hb s us I.kIn (by rw[Gx];exact hl)
 rw[Gx] at hb';refine Nd (Iq (G.run X.A X.stack s H ⟨us,[]⟩ us vs Q _ hr I.env0 hb' rv hsp) λr s' hq=>?_);cases r with
 |error u =>
  obtain⟨_,_,_,_,_,_,_,_,_,_,_,_,z⟩:=hq;exact Ao z
 |ok fl =>
  cases fl with
  |ret u=>exact I.after hq
  |next=>exact Ao hq
  |brk=>exact Ao hq
  |cont=>exact Ao hq
theorem dcO (G:Def X.prog X.w X.K X.mg X.base cm k x n F)(hr:RoomC cm k X.A)(hg:Gl X x)(ha:PA X (e::es) (tDA X fa))(hdb:(x == ("__debug__" : Av))=false:=by decide)(he:Bl (e::es) X.env=(false,eval e X.env)::Bl es X.env:=by rfl)(hpl:(Ge pos (Bl es X.env)).any (·.1)=false:=by rfl) :
  PE X (.Call (.Name x p) (e::es) [] pos) (tD X (qN n (okO F) fa)):=by
 obtain⟨f,fd,ps,hn0,hm,hk,hb,hl,G⟩:=G;intro pins s σ H Q I h;obtain⟨P,α,env,S,r,re,af⟩:=h;refine Gd (uC I hg hm ?_ hdb);refine Pw (h₀:=X.base) I.ok.mod.kin hk (thn (wK ha I r re af pos) λus s1 ⟨vs,H1,P1,α1,ds,S1,I1,rv,r1,re1,rp,e1,e2,af1⟩=>⟨I1.kIn,?_⟩) he hpl;obtain⟨hn,af2⟩:=lH (env:=env) (S:=S) af1;exact FU G hr hb I1 r1 rv rp hn (qR.base e1 e2 af2)
end
structure QE (X:Cx)(e:Br)(f:DE):Prop where
 get:PE X e (tD X f)
structure QT (X:Cx)(e:Br)(t:DT):Prop where
 get:PT X e (tDT X t)
structure QW (X:Cx)(e:Br)(t:DT):Prop where
 get:PWD X e t
structure QA (X:Cx)(es:Aa Br)(f:DA):Prop where
 get:PA X es (tDA X f)
structure QO (X:Cx)(e:Al Br)(f:DO):Prop where
 get:PO X e (tDO X f)
structure QG (X:Cx)(t:Br)(g:DG):Prop where
 get:PG X t (tDG X g)
structure QGs (X:Cx)(ts:Aa Br)(g:DGs):Prop where
 get:PGs X ts (hX X g)
structure QI (X:Cx)(tg it:Br)(f:DI):Prop where
 get:PI X tg it (tDI X f)
structure QS (X:Cx)(s:Fa)(f:DS):Prop where
 get:PS X s (tDS X f)
structure QB (X:Cx)(ss:Aa Fa)(f:DS):Prop where
 get:PSs X ss (tDS X f)
structure ZOp (X:Cx)(f:Ac->Ac->Oa Ac)(g:G2):Prop where
 get:OpD X f g
structure ZUn (X:Cx)(f:Ac->Oa Ac)(g:D->Sto->Res D):Prop where
 get:UnD X f g
structure ZIx (X:Cx)(g:G2):Prop where
 get:IxD X g
structure ZCall (X:Cx)(f:Ac)(F:DF):Prop where
 get:w8 X f F
structure ZMt (X:Cx)(id:Ef)(g:D->Aa D->Sto->Res D):Prop where
 get:MtD X id g
structure ZSet (X:Cx)(g:G3):Prop where
 get:sO X (sJ X g)
structure ZPass (X:Cx):Prop where
 get:Og (As X.prog X.w) X.A X.env X.xe
section
variable {X:Cx}{a b c e e1 e2 o i:Br}{es rest:Aa Br}{fa fb fc fe fo fi:DE}{ta tb:DT}{fA:DA}{f g:DS}{st:Fa}{sts:Aa Fa}{x:Av}{p pos:Ex}{n k:Ai}{cm:Ar}{F:DF}{G2':G2}
theorem W4:QE X (.Constant .none j pos) (dC .non):=⟨N3⟩
theorem KQ:QE X (.Constant (.bool v) j pos) (dC (.bl v)):=⟨H0⟩
theorem RB:QE X (.Constant (.int v) j pos) (dC (.int v)):=⟨N0⟩
theorem RF:QE X (.Constant (.str v) j pos) (dC (.str v)):=⟨N6⟩
theorem RG (m:Ai)(hN:X.N[m]? = Ab x)(hv:Vis X.env.scope x)(hd:(x == ("__debug__" : Av))=false)(hcd:(x == ("__classdict__" : Av))=false):QE X (.Name x pos) (qC m):=⟨dv m hN hv hd hcd⟩
theorem FF {nm:Ef}(hg:Gl X x)(hm:X.mg x=none)(hv:Gb x=Ab (.type nm))(hn:x ≠ "__name__")(hd:(x == ("__debug__" : Av))=false):QE X (.Name x pos) (dC (.ty nm)):=⟨GW hg hm hv hn hd⟩
theorem R9 (hg:Gl X x)(hm:X.mg x=Ab (.ref C))(hk:Fj X.K (.ref C)=true)(hd:(x == ("__debug__" : Av))=false):QE X (.Name x pos) (dC (.obj C)):=⟨TX hg hm hk hd⟩
theorem FH {v:Am}(hg:Gl X x)(hm:∃ t,X.mg x=Ab (.int v t))(hd:(x == ("__debug__" : Av))=false):QE X (.Name x pos) (dC (.int v)):=⟨let ⟨_,h⟩:=hm;cS (v:=.int v) hg h ⟨_,rfl⟩ (λ_ _=>by simp only[Rep]) hd⟩
theorem R8:QE X e p6:=⟨TV⟩
theorem A9 {op:UnaryOp}{h:D->Sto->Res D}(ho:ZUn X (Yv op) h)(ha:QE X a fa):QE X (.UnaryOp op a pos) (d1 h fa):=⟨HB ho.1 ha.1⟩
theorem RE (ha:QE X a fa):QE X (.UnaryOp .Not a pos) (YR fa):=⟨N4 ha.1⟩
theorem A8 {op:Operator}(ho:ZOp X (Ek op) G2')(ha:QE X a fa)(hb:QE X b fb):QE X (.BinOp a op b pos) (d2 G2' fa fb):=⟨HA ho.1 ha.1 hb.1⟩
theorem W3 {op:Uf}(ho:ZOp X (Cu op) G2')(ha:QE X a fa)(hb:QE X b fb)(hm:Lf op b=false:=by first|exact k8 _|with_unfolding_all rfl):QE X (.Compare a [op] [b] pos) (d2 G2' fa fb):=⟨TY ho.1 ha.1 hb.1 hm⟩
theorem UR {op op':Uf}{g':G2}(ho:ZOp X (Cu op) G2')(ho':ZOp X (Cu op') g')(ha:QE X a fa)(hb:QE X b fb)(hc:QE X c fc)(hm:Yf [op,op'] [b,c]=false:=by with_unfolding_all rfl):QE X (.Compare a [op,op'] [b,c] pos) (wW G2' g' fa fb fc):=⟨YU ho.1 ho'.1 ha.1 hb.1 hc.1 hm⟩
theorem W5  (h:QE X a fa):QE X (.BoolOp op [a] pos) fa:=⟨N5 h.1⟩
theorem W1 (ha:QE X a fa)(hb:QE X (.BoolOp .And (b::rest) pos) fb):QE X (.BoolOp .And (a::b::rest) pos) (p5 fa fb):=⟨TU ha.1 hb.1⟩
theorem W7  (h:QA X es fA):QE X (.Tuple es x1 pos) (qU fA):=⟨N7 h.1⟩
theorem RD (h:QA X es fA):QE X (.List es pos) (xD fA):=⟨N2 h.1⟩
theorem FI (h:QA X es fA):QE X (.List es pos) (kN fA):=⟨P7 h.1⟩
theorem RA:QE X (.Dict [] [] pos) rA:=⟨TZ⟩
theorem FG:QE X (.Dict [] [] pos) dU:=⟨GZ⟩
theorem A7 (ho:ZIx X G2')(ha:QE X a fa)(hb:QE X b fb)(hs:tI b:=by intro _ _;rfl):QE X (.Subscript a b pos) (d2 G2' fa fb):=⟨H9 ho.1 ha.1 hb.1 hs⟩
theorem UT {lo hi:Al Br}{fl fh:DO}{p2:Ex}(he:QE X e fe)(hl:QO X lo fl)(hu:QO X hi fh):QE X (.Subscript e (.Slice lo hi none p2) pos) (dSl fe fl fh):=⟨YW he.1 hl.1 hu.1⟩
theorem FM:QO X none v8:=⟨PM⟩
theorem FN (he:QE X e fe):QO X (Ab e) (xX fe):=⟨PN he.1⟩
theorem XZ:QA X [] qB:=⟨TN⟩
theorem i6 (ha:QE X e fa)(hr:QA X es fA)(hs:Bl (e::es) X.env=(false,eval e X.env)::Bl es X.env:=by rfl):QA X (e::es) (qA fa fA):=⟨GV ha.1 hr.1 hs⟩
theorem qcN (G:Def X.prog X.w X.K X.mg X.base cm k x n F)(hr:RoomC cm k X.A)(hF:Fn1 X)(hg:Gl X x)(ha:QA X (e::es) fA)(hdb:(x == ("__debug__" : Av))=false)(he:Bl (e::es) X.env=(false,eval e X.env)::Bl es X.env:=by rfl)(hpl:(Ge pos (Bl es X.env)).any (·.1)=false:=by rfl):QE X (.Call (.Name x p) (e::es) [] pos) (qN n F fA):=⟨dcN G hr hF hg ha.1 hdb he hpl⟩
theorem UQ {id:Ef}(hc:ZCall X (.builtin id) F)(hg:Gl X x)(hm:X.mg x=none)(hv:Gb x=Ab (.builtin id))(ha:QA X (e::es) fA)(hn:x ≠ "__name__")(hdb:(x == ("__debug__" : Av))=false)(he:Bl (e::es) X.env=(false,eval e X.env)::Bl es X.env:=by rfl)(hpl:(Ge pos (Bl es X.env)).any (·.1)=false:=by rfl):QE X (.Call (.Name x p) (e::es) [] pos) (qL F fA):=⟨YS hc.1 hg hm hv ha.1 hn hdb he hpl⟩
theorem W2 {T:Ef}(hc:ZCall X (.type T) F)(hg:Gl X x)(hm:X.mg x=none)(hv:Gb x=Ab (.type T))(ha:QA X (e::es) fA)(hn:x ≠ "__name__")(hdb:(x == ("__debug__" : Av))=false)(he:Bl (e::es) X.env=(false,eval e X.env)::Bl es X.env:=by rfl)(hpl:(Ge pos (Bl es X.env)).any (·.1)=false:=by rfl):QE X (.Call (.Name x p) (e::es) [] pos) (qL F fA):=⟨ZJ hc.1 hg hm hv ha.1 hn hdb he hpl⟩
theorem mW {T id:Ef}{name:Av}{apos:Ex}{h:D->Aa D->Sto->Res D}(pa:PlainAttrs T)(slot:Slot T name id)(hty:typeOf (.builtin id)=pure (.type "method_descriptor"))(hT:T = "list" \/ T = "dict" \/ T = "int" \/ T = "str")(hm:ZMt X id h)(ho:QE X o fo)(ha:QA X (e::es) fA)
  (hbase:Qx o name X.env (eval o X.env)=eval o X.env:=by rfl)
  (hfew:((Ge pos (Bl (e::es) X.env)).all (λx=>!x.1)&&(backToKw pos (keywordEach [] X.env)).all (λx=>x.1.isSome)&&decide ((e::es).length+([]:Aa Keyword).length+(if ([] : Aa Keyword).isEmpty then 0 else 1)<30))=true:=by rfl)
  (hline:(apos.endLine == pos.line)=true:=by rfl) (hs:Bl (e::es) X.env=(false,eval e X.env)::Bl es X.env:=by rfl) (hplain:(Ge pos (Bl es X.env)).any (·.1)=false:=by rfl):QE X (.Call (.Attribute o name apos) (e::es) [] pos) (dBm T h fo fA):=⟨H8 pa slot hty hT hm.1 ho.1 ha.1 hbase hfew hline hs hplain⟩
theorem KS (h:QW X e ta):QT X e ta:=⟨PWD.pt h.1⟩
theorem iA (ha:QT X a ta):QW X (.BoolOp .And [a] pos) ta:=⟨PU ha.1⟩
theorem mX (ha:QT X a ta):QW X (.BoolOp .Or [a] pos) ta:=⟨NS ha.1⟩
theorem WG (ha:QT X a ta)(hb:QW X (.BoolOp .And (b::rest) pos) tb):QW X (.BoolOp .And (a::b::rest) pos) (u7 ta tb):=⟨NR ha.1 hb.1⟩
theorem sH (ha:QT X a ta)(hb:QW X (.BoolOp .Or (b::rest) pos) tb):QW X (.BoolOp .Or (a::b::rest) pos) (kO ta tb):=⟨HG ha.1 hb.1⟩
theorem RP (ha:QT X a ta):QT X (.UnaryOp .Not a pos) (v7 ta):=⟨NP ha.1⟩
theorem WC {op:Uf}(ho:ZOp X (Cu op) G2')(ha:QE X a fa)(hb:QE X b fb)(hm:Lf op b=false:=by first|exact k8 _|with_unfolding_all rfl):QT X (.Compare a [op] [b] pos) (dTr (d2 G2' fa fb)):=⟨NO ho.1 ha.1 hb.1 hm⟩
theorem UY {op op':Uf}{g':G2}(ho:ZOp X (Cu op) G2')(ho':ZOp X (Cu op') g')(ha:QE X a fa)(hb:QE X b fb)(hc:QE X c fc)(hm:Yf [op,op'] [b,c]=false:=by with_unfolding_all rfl):QT X (.Compare a [op,op'] [b,c] pos) (dTr (wW G2' g' fa fb fc)):=⟨V4 ho.1 ho'.1 ha.1 hb.1 hc.1 hm⟩
theorem WD (ha:QE X a fa)(he:∀ whole,isTrue a X.env whole=(do let v <- whole;Tq a.pos;holding [v] (truthy v)):=by intro _;rfl):QT X a (dTr fa):=⟨NQ ha.1 he⟩
theorem FK (hN:X.N.Nodup)(hi:X.N[m]? = Ab x)(hx:Loc X.env.scope x)(hf:X.fn x=true\/X.env.scope.names.lookup x=Ab .local):QG X (.Name x pos) (gNm m):=⟨PF hN hi hx hf⟩
theorem i7:QGs X [] vA:=⟨PH⟩
theorem eM {h:DG}{gs:DGs}(h1:QG X e h)(h2:QGs X es gs)(hs:(Hf (e::es) X.env).map (·.2)=assign e X.env::(Hf es X.env).map (·.2):=by rfl):QGs X (e::es) (zR h gs):=⟨YX h1.1 h2.1 hs⟩
theorem W8 {kk:Ai}{gs:DGs}(hc:X.calm=true)(h:QGs X es gs)(hn:(Hf es X.env).length=n:=by rfl)(hst:(Hf es X.env).findIdx? (·.1)=none:=by rfl):QG X (.Tuple es kk pos) (gTp n gs):=⟨NB hc h.1 hn hst⟩
theorem RH {h:G3}(ho:QE X o fo)(hi:QE X i fi)(hs:ZSet X h)
  (ha:∀ v,assign (.Subscript o i pos) X.env v=(do
   let ov <- holding [v] (eval o X.env)
   let iv <- holding [v,ov] (eval i X.env)
   Tq pos
   holding [v,ov,iv] (setItem ov iv v)
   release [v,ov,iv] []):=by intro _;rfl):QG X (.Subscript o i pos) (gSb fo fi h):=⟨NA ho.1 hi.1 hs.1 ha⟩
theorem RJ {tg:Br}(ha:QE X e fa):QI X tg e (uL fa):=⟨NC ha.1⟩
theorem UU {tg:Br}(hg:Gl X "range")(hm:X.mg "range" = none)(ha:QA X (e::es) fA)(hs:Bl (e::es) X.env=(false,eval e X.env)::Bl es X.env:=by rfl)(hpl:(Ge pos (Bl es X.env)).any (·.1)=false:=by rfl):QI X tg (.Call (.Name "range" p) (e::es) [] pos) (yN fA):=⟨YY hg hm ha.1 hs hpl⟩
theorem WA {elts:Aa Br}{x1:Ai}{tpos:Ex}(hg:Gl X "zip")(hm:X.mg "zip" = none)(ha:QA X [e1,e2] fA)(hs:Bl [e1,e2] X.env=(false,eval e1 X.env)::Bl [e2] X.env:=by rfl)(hpl:(Ge pos (Bl [e2] X.env)).any (·.1)=false:=by rfl):QI X (.Tuple elts x1 tpos) (.Call (.Name "zip" p) [e1,e2] [] pos) (tO fA):=⟨ND hg hm ha.1 hs hpl⟩
theorem W0:QB X [] zL:=⟨NI⟩
theorem mV (h:QS X st f):QB X [st] f:=⟨NJ h.1⟩
theorem bJ (h1:QS X st f)(h2:QB X sts g):QB X (st::sts) (qM f g):=⟨PP h1.1 h2.1⟩
theorem FO (he:QE X e fa)(hs:Mw e none pos.line X.env=pure false:=by rfl):QS X (.Expr e pos) (wU fa):=⟨PQ he.1 hs⟩
theorem WB (he:QE X e fa):QS X (.Return (Ab e) pos) (zA fa):=⟨NL he.1⟩
theorem KR {as bs:Aa Fa}(hc:QT X c ta)(ha:QB X as f)(hb:QB X bs g):QS X (.If c as bs pos) (sIf ta f g):=⟨HE hc.1 ha.1 hb.1⟩
theorem UX (hp:ZPass X)(hc:QT X c ta)(hb:QB X body f):QS X (.While c body [] pos) (t7 ta f):=⟨V3 hp.1 hc.1 hb.1⟩
theorem RL {tg iter:Br}{fI:DI}{h:DG}(hp:ZPass X)(hc:X.calm=true)(hi:QI X tg iter fI)(hg:QG X tg h)(hb:QB X body f)(hs:∀ x,Fb iter X.env x=pure x:=by intro _;rfl):QS X (.For tg iter body [] pos) (vP fI h f):=⟨NH hp.1 hc hi.1 hg.1 hb.1 hs⟩
theorem RN {pos':Ex}(hN:X.N.Nodup)(he:QE X e fa)(hi:X.N[m]? = Ab x)(hx:Loc X.env.scope x)(hs:Mw e (Ab (.Name x pos')) pos.line X.env=pure false)(hf:X.fn x=true\/X.env.scope.names.lookup x=Ab .local):QS X (.Assign [.Name x pos'] e pos) (qV fa (gNm m)):=⟨NM hN he.1 hi hx hs hf⟩
theorem RK {tg:Br}{h:DG}(he:QE X e fa)(hg:QG X tg h)(hs:Ld [tg] e pos.line X.env=pure false:=by rfl)(hw:Lc [tg] e X.env=pure none:=by rfl)(h1:(Hf [tg] X.env).map (·.2)=[assign tg X.env]:=by rfl):QS X (.Assign [tg] e pos) (qV fa h):=⟨NG he.1 hg.1 hs hw h1⟩
theorem RM {l:Ai}{y:Av}{px py pt:Ex} {kt k2 pt2} (hc:X.calm=true) (hN:X.N.Nodup) (ha:QA X [a,b] fA) (hi:X.N[m]? = Ab x) (hj:X.N[l]? = Ab y) (hij:m≠l) (hx:X.env.scope.names.lookup x=Ab .local) (hy:X.env.scope.names.lookup y=Ab .local)
  (hw:Lc [.Tuple [.Name x px,.Name y py] kt pt] (.Tuple [a,b] k2 pt2) X.env=pure (Ab [x,y]):=by rfl) (hs:Ld [.Tuple [.Name x px,.Name y py] kt pt] (.Tuple [a,b] k2 pt2) pos.line X.env=pure false:=by rfl) :
  QS X (.Assign [.Tuple [.Name x px,.Name y py] kt pt] (.Tuple [a,b] k2 pt2) pos) (pP m l fA):=⟨NK hc hN ha.1 hi hj hij hx hy hw hs⟩
theorem UW {Ae:Af}{np cpos:Ex}(hc:X.calm=true)(hF:Fn1 X)(hg:Gl X x)(hm:X.mg x=Ab (.ref C))(hx:fE X.K C Ae=true)(ha:QA X (e::rest) fA)(hdb:(x == ("__debug__" : Av))=false)(he:Bl (e::rest) X.env=(false,eval e X.env)::Bl rest X.env:=by rfl)(hpl:(Ge cpos (Bl rest X.env)).any (·.1)=false:=by rfl) :
  QS X (.Raise (Ab (.Call (.Name x np) (e::rest) [] cpos)) none pos) (vX (.ref C) fA):=⟨V2 hc hF hg hm hx ha.1 hdb he hpl⟩
theorem RO {nm:Av}{C0:Af}{b₀:Fa}{suite:Aa Fa}{np hpos:Ex}{cs:Aa Ac}(hF:Fn1 X)(hb:∀ E pn,ZPass (Cx.tryIn X E pn)->QB (Cx.tryIn X E pn) body f)(hs:∀ e,QB (Cx.suite X e) (b₀::suite) g)(hg:Gl X x)(hm:X.mg x=Ab (.ref C0))(hcs:∀ c∈cs,Jf X.K c (.ref C0)=Ab true)(hN:X.N.Nodup)(hi:X.N[m]? = Ab nm)(hlo:X.env.scope.names.lookup nm=Ab .local)(hdb:(x == ("__debug__" : Av))=false)(hn:X.N.length=n) :
  QS X (.Try body [.ExceptHandler (Ab (.Name x np)) (Ab nm) (b₀::suite) hpos] [] [] pos) (fT n m cs f g):=⟨hn▸NN hF (λE pn hp=>(hb E pn ⟨hp⟩).1) (λe=>(hs e).1) hg hm hcs hN hi hlo hdb⟩
theorem AW:ZOp X (Ek .Add) zH:=⟨S8⟩
theorem II:ZOp X (Ek .Sub) wA:=⟨SE⟩
theorem ID:ZOp X (Ek .Mult) zU:=⟨aY⟩
theorem AX:ZOp X (Ek .FloorDiv) fJ:=⟨S9⟩
theorem IC:ZOp X (Ek .Mod) jJ:=⟨SC⟩
theorem IG:ZOp X (Ek .Pow) VH:=⟨SD⟩
theorem qAJ:ZOp X (Cu .Lt) gLt:=⟨KN⟩
theorem qAI:ZOp X (Cu .LtE) gLe:=⟨CY⟩
theorem qAG:ZOp X (Cu .Gt) gGt:=⟨CV⟩
theorem qAF:ZOp X (Cu .GtE) gGe:=⟨CU⟩
theorem EH:ZOp X (Cu .Is) gIs:=⟨CW⟩
theorem EG (hr:RoomC cm k X.A):ZOp X (Cu .Eq) gEq:=⟨CT hr.units⟩
theorem EM (hr:RoomC cm k X.A):ZOp X (Cu .NotEq) gNe:=⟨KO hr.units⟩
theorem IE (hr:RoomC cm k X.A):ZOp X (Cu .NotEq) (bD gNe):=⟨OpD.look (KO hr.units)⟩
theorem IF:ZUn X (Yv .USub) kR:=⟨E8⟩
theorem qAH:ZIx X gIx:=⟨OK⟩
theorem GF:ZCall X (.builtin "isinstance") zY:=⟨Z4⟩
theorem EI {cl:Aa Af}(h:ClsK X.K cl):ZCall X (.builtin "isinstance") (zO cl):=⟨GL h⟩
theorem GG:ZCall X (.builtin "len") xF:=⟨GN⟩
theorem GE (hc:X.calm=true):ZCall X (.builtin "all") (pA false):=⟨T3 false hc⟩
theorem IA:ZCall X (.type "int") oH:=⟨T4⟩
theorem MJ:ZCall X (.type "tuple") jV:=⟨YJ⟩
theorem EJ:ZCall X (.type "list") dX:=⟨GO⟩
theorem JL:ZMt X "list.append" y9:=⟨X9⟩
theorem AY (hr:RoomC cm k X.A):ZMt X "dict.get" pB:=⟨D4 (hu1 hr)⟩
theorem MG:ZMt X "list.count" mD:=⟨U2⟩
theorem MH:ZMt X "list.index" mE:=⟨U3⟩
theorem IH (hr:RoomC cm k X.A):ZSet X wQ:=⟨RW (hu1 hr)⟩
end
section
variable {P:Bd}{w:Bt}{K:Aj}{mg:Av->Al Ac}{base:Bj}{cm:Ar}
theorem iQ {qual:Av}{scope:Em}{f:Af}{cd:Ac}{A:Bo}{outer:Aa HT}{s:Ah}{H:Hp}{E:XK}:ZPass (cxC cm P w K mg base N qual scope f cd A outer s H E):=⟨YO⟩
theorem O6 {x:Av}{st:Fa}{ps:Aa Av}{k:Ai}{g:DS}(h:Src K mg x st ps)(S:FnScope N ps (qG st))(hbd:zF st=body)
  (hbody:∀ (f:Af) (cdv:Ac) (A:Bo) (outer:Aa HT) (s:Ah) (H:Hp) (E:XK),kH K x cdv->RoomC cm k (A.deeper (Gj x (qG st) s.heap.objs.size f cdv)) ->
   QB (cxC cm P w K mg base N x (qG st) f cdv A outer s H E) body g):Def P w K mg base cm (k+1) x ps.length (qT N.length g):=
 N9 h S λf cdv A outer s H E hc hr=>hbd▸(hbody f cdv A outer s H E hc hr).1
theorem HC {x:Av}{st:Fa}{ps:Aa Av}{k:Ai}{g:DS}(h:Src K mg x st ps)(S:FnScope N ps (qG st))(hbd:zF st=body)
  (hbody:∀ (f:Af) (cdv:Ac) (A:Bo) (outer:Aa HT) (s:Ah) (H:Hp) (E:XK),kH K x cdv->RoomC cm k (A.deeper (Gj x (qG st) s.heap.objs.size f cdv)) ->
   QB (cxC cm P w K mg base N x (qG st) f cdv A outer s H E) body g):sN P w K mg base cm (k+1) x ps (qT N.length g):=
 PD h S λf cdv A outer s H E hc hr=>hbd▸(hbody f cdv A outer s H E hc hr).1
theorem PC {x:Av}{st:Fa}{ps:Aa Av}(h:Src K mg x st ps):Def P w K mg base cm 0 x ps.length λ_ _=>.bad:=by
 obtain⟨f,fd,hm,F,hb⟩:=h;exact⟨f,fd,ps,rfl,hm,F.kp,hb,bC F,⟨λvs H Q E z=>z.1,λA outer s H args us vs Q E _ _ _ _ z=>by obtain⟨_,_,_,_,_,_,_,z⟩:=z;exact Ao z⟩⟩
end
structure QTs (X:Cx)(ifs:Aa Br)(t:DT):Prop where
 get:PTs X ifs t
section
variable {X:Cx}{elt tg iter e:Br}{ifs es:Aa Br}{scope:Em}{pos p:Ex}{N':Aa Av}{cap:Aa (Al Ai)}{fi:DI}{g:DG}{t u:DT}{fe:DE}{fa:DA}{x:Av}{cm:Ar}{k n:Ai}{F:DF}
theorem i9:QTs X [] xM:=⟨PR⟩
theorem UZ (h1:QT X e t)(h2:QTs X es u):QTs X (e::es) (u7 t u):=⟨V5 h1.1 h2.1⟩
theorem qcO (G:Def X.prog X.w X.K X.mg X.base cm k x n F)(hr:RoomC cm k X.A)(hg:Gl X x)(ha:QA X (e::es) fa)(hdb:(x == ("__debug__" : Av))=false)(he:Bl (e::es) X.env=(false,eval e X.env)::Bl es X.env:=by rfl)(hpl:(Ge pos (Bl es X.env)).any (·.1)=false:=by rfl) :
  QE X (.Call (.Name x p) (e::es) [] pos) (qN n (okO F) fa):=⟨dcO G hr hg ha.1 hdb he hpl⟩
end
def stn (o:Al (Ai × MO))(S:Sto):Prop:=match o with
 |none=>Kl
 |some p=>S[p.1]? = Ab p.2
open Classical in
def QL (o:Al (Ai × MO))(S:Sto):Ar:=decide (stn o S)
theorem j0 {o:Al (Ai × MO)}:QL o S=true↔stn o S:=by simp[QL]
structure ItD2 (K:Aj)(J:It)(P:Hp)(α : Aa Af)(o:Al (Ai × MO))(ds:Aa D):Prop where
 go:∀ i H P1 α1 S,i<ds.length->Rel K H P1 α1 S->stn o S->qF P P1->α<+:α1->J.go i H
 yld:∀ i H x H' P1 α1 S,i<ds.length->Rel K H P1 α1 S->stn o S->qF P P1->α<+:α1->J.yld i H x H'->∃ P2 d,ds[i]? = Ab d/\Rel K H' P2 α1 S/\qF P1 P2/\Rep K P2 α1 d x
 stop:∀ i H P1 α1 S,ds.length<=i->Rel K H P1 α1 S->stn o S->qF P P1->α<+:α1->J.stop i H
theorem ItD.two {K:Aj}{J:It}{P:Hp}(h:ItD K J P α ds):ItD2 K J P α none ds:=
 ⟨λi H P1 α1 S a b _ c d=>h.go i H P1 α1 S a b c d,λi H x H' P1 α1 S a b _ c d e=>h.yld i H x H' P1 α1 S a b c d e,λi H P1 α1 S a b _ c d=>h.stop i H P1 α1 S a b c d⟩
abbrev DI2:=qE->Sto->Res (Al (Ai × MO) × Aa D)
inductive tDI2 (X:Cx)(f:DI2)(σ : _L.St)(H:Hp)(R:It->Hp->Prop):Prop
 |mk (P:Hp) (α : Aa Af) (env:qE) (S:Sto) (r:Rel X.K H P α S) (re:qZ X.K P α σ env) (af:qK X P α (f env S) (λp S'=>∀ J H' P' α',Rel X.K H' P' α' S'->qF P P'->α<+:α'->ItD2 X.K J P' α' p.1 p.2->R J H')):tDI2 X f σ H R
def wR (f:DI):DI2:=λenv S=>(f env S).bind λds S1=>.ok (none,ds) S1
section
variable {X:Cx}{K:Aj}{tg e:Br}{fa:DE}{pos:Ex}
theorem PL {f:DI}(h:PI X tg e (tDI X f)):PI X tg e (tDI2 X (wR f)):=PI.weak h λσ H R ⟨P,α,env,S,r,re,af⟩=>by
 refine⟨P,α,env,S,r,re,?_⟩;unfold wR at af;cases q:f env S with
 |bad=>rw[q] at af;exact af
 |ex c x S'=>rw[q] at af;exact af
 |ok ds S1 =>
  rw[q] at af;exact λJ H' P' α' r' e1 e2 it=>af J H' P' α' r' e1 e2 it.two
theorem BB {P:Hp}{a:Af}{n:Ai}(hα:α[n]? = Ab a):ItD2 K (Itl K a) P α (Ab (n,.lst ds)) ds where
 go:=λi H P1 α1 S hi r st e e2=>by
  obtain⟨vs,z,t⟩:=r.at' n a _ (bH e2 hα) st;exact⟨vs,vs[i]'(by rw[<- t.length];exact hi),.of z,by simp⟩
 yld:=λi H x H' P1 α1 S hi r st e e2 y=>by
  obtain⟨rfl,y⟩:=y;obtain⟨vs,z,t⟩:=r.at' n a _ (bH e2 hα) st;have hx:=y vs (.of z);obtain⟨v,h1,h2⟩:=t.get (An hi);rw[hx] at h1;cases h1;exact⟨P1,_,An hi,r,qF.refl _,h2⟩
 stop:=λi H P1 α1 S hi r st e e2=>by
  obtain⟨vs,z,t⟩:=r.at' n a _ (bH e2 hα) st;exact⟨vs,.of z,by rw[<- t.length];exact hi⟩
def itD (d:D)(S:Sto):Res (Al (Ai × MO) × Aa D):=match d with
 |.tup xs=>.ok (none,xs) S
 |.lst xs=>.ok (none,xs) S
 |.loc n=>match S[n]? with
  |some (.lst xs)=>.ok (Ab (n,.lst xs),xs) S
  |_=>.bad
 |_=>.bad
def dIt (f:DE):DI2:=λenv S=>(f env S).bind λd S1=>itD d S1
theorem HD (ha:PE X e (tD X fa)):PI X tg e (tDI2 X (dIt fa)):=by
 intro pins s σ H R I h;obtain⟨P,α,env,S,r,re,af⟩:=h;refine thn (zK ha I r re af) λvv s1 ⟨v,H1,P1,α1,d,S1,G1,af1⟩=>?_;have seq:∀ ds,zV d=Ab ds->(∀ J H' P' α',Rel X.K H' P' α' S1->qF P P'->α<+:α'->ItD2 X.K J P' α' none ds->R J H')->Ap (As X.prog X.w) X.A (Nl vv) (PIE X pins σ tg R) X.xe s1:=λds e1 q =>
  rQ G1.inv G1.rel G1.val G1.rep e1 λJ H' P' α' r' h1 h2 it=>q J H' P' α' r' (G1.same.trans h1) (G1.pre.trans h2) it.two
 cases d with
 |tup xs=>exact seq xs rfl af1
 |lst xs=>exact seq xs rfl af1
 |loc n =>
  obtain⟨xs,hS,af1⟩:=uU (X:=X) (f:=λxs=>Res.ok (Ab (n,MO.lst xs),xs) S1) af1;have rp:=G1.rep;simp only[Rep] at rp;obtain⟨a,rfl,ha⟩:=rp;cases (show vv=Bs a from G1.val)
  obtain⟨vs,z,t⟩:=G1.rel.at' n a _ ha hS;obtain⟨its,rv,p,hz⟩:=G1.inv.list (SqL.of z);refine Fm p.isList ?_;refine⟨s1.heap.objs.size,[s1.heap.objs.size],_,_,H1,rfl,G1.inv.kept (t':=s1.toks) λb o e=>Ag _ e,dO a _,⟨_,Ba _ rfl,rfl,rfl⟩,λb hb=>?_,af1 _ _ P1 α1 G1.rel G1.same G1.pre (BB ha)⟩;have e:b=s1.heap.objs.size:=by simpa using hb
  subst e;exact G1.inv.fpOk (AT _) (G1.inv.hok.fresh (AT _))
 |_=>exact Ao af1
end
def zP (elt:Br)(gens:Aa Et)(scope:Em)(pos:Ex)(k:Ai)(acc:Ac)(env:HT):Oa Qm:=
 match gens[k+1]? with
 |some g'=>do
  let x <- eval g'.iter env
  Tq g'.iter.pos
  let x <- Fb g'.iter env x
  let it <- holding [x] (Nl x)
  let _ <- runOwn (.compStart (.ListComp elt gens scope pos) (k+1) it acc env) env
 |none=>do let _ <- call (.builtin "list.append") [acc,<- eval elt env]
theorem JJ (elt target iter:Br)(ifs:Aa Br)(gens:Aa Et)(scope:Em)(pos:Ex)(it acc:Ac)(env:HT)(k:Ai)(hg:gens[k]? = Ab ⟨target,iter,ifs,0⟩)(ha:∀ g',gens[k+1]? = Ab g'->g'.is_async=0) :
  compTurn (.ListComp elt gens scope pos) k it acc env=(do
   Tq iter.pos
   match <- Mk it with
   |none=>pure (.done .next)
   |some v =>
    Jv target it v
    assign target env v
    let mut ok:=true
    for c in ifs do
     if ok then ok <- isTrue c env (eval c env)
    if ok then zP elt gens scope pos k acc env
    again (.compLoop (.ListComp elt gens scope pos) k it acc env)):=by
 unfold compTurn zP;simp only[hg];cases q:gens[k+1]? with
 |none=>rfl
 |some g' =>
  have h0:=ha g' q;have e0:(g'.is_async != 0)=false:=by rw[h0];rfl
  simp only[e0,Bu,Eh,bind_assoc,pure_bind];rfl
abbrev DK:=qE->Sto->Aa D->Res (qE × Aa D)
def goL (o:Al (Ai × MO))(g:DG)(t:DT)(k:DK):Aa D->DK
 |[],env,S,acc=>if QL o S then .ok (env,acc) S else .bad
 |d::ds,env,S,acc=>if QL o S then (g d env S).bind λenv1 S1=>(t env1 S1).bind λb S2 =>
   if b then (k env1 S2 acc).bind λp S3=>goL o g t k ds p.1 S3 p.2 else goL o g t k ds env1 S2 acc
  else .bad
def zG (fe:DE):DK:=λenv S acc=>(fe env S).bind λx S1=>if acc.length<lim then .ok (env,acc++[x]) S1 else .bad
def kIn (fi:DI2)(g:DG)(t:DT)(k:DK):DK:=λenv S acc=>(fi env S).bind λp S1=>goL p.1 g t k p.2 env S1 acc
def iR (Y:Cx)(pins:Aa (Af × Ci))(P1:Hp)(α1:Aa Af)(acc:Af)(env:qE)(S:Sto)(ds:Aa D)(s:Ah):Prop:=
 ∃ σ H P α o,TurnSt Y pins P1 α1 [] acc env S ds s σ H P α o
def PK (Y:Cx)(step:Ac->Oa Qm)(k:DK):Prop:=
 ∀ (pins:Aa (Af × Ci)) (P1:Hp) (α1:Aa Af) (acc:Af) (env env':qE) (S S':Sto) (ds ds':Aa D) (s:Ah),(∀ H:Hp,H acc=none->x5 Y pins H acc)->iR Y pins P1 α1 acc env S ds s->k env S ds=.ok (env',ds') S' ->
  Ap (As Y.prog Y.w) Y.A (step (.ref acc)) (λ_ s'=>iR Y pins P1 α1 acc env' S' ds' s') (λ_ _=>Fh) s
section
variable {Y:Cx}{elt tg iter:Br}{ifs:Aa Br}{gens:Aa Et}{scope:Em}{pos:Ex}{k:Ai}{g:DG}{t:DT}{fe:DE}{it acc:Af}{fp:Aa Af}{J:It}{tn:Ai->Bj->Prop}{items:Aa D}{P1:Hp}{α1:Aa Af}{pins:Aa (Af × Ci)}
theorem ZT {X:Cx}{H:Hp}{b:Af}{h:Bj}(f:x5 X pins H b)(hn:b ∉ fp):x5 X (pins++vD fp h) H b:=by
 obtain⟨f0,f1,f2,f3,f4,f5⟩:=f;refine⟨f0,f1,f2,f3,f4,λp hp=>?_⟩;rcases Cp.mp hp with z|z
 .exact f5 p (Dh _ z)
 .rcases Cp.mp z with z|z
  .exact f5 p (Bp _ z)
  .rintro rfl
   exact hn (d7 z).1
theorem Res.bind_inv {β γ:Type}{r:Res β}{f:β->Sto->Res γ}{x:γ}(h:r.bind f=.ok x S):∃ b S1,r=.ok b S1/\f b S1=.ok x S:=by
 cases r with
 |ok b S1=>exact⟨b,S1,rfl,h⟩
 |_=>cases h
inductive GoC (o:Al (Ai × MO))(g:DG)(t:DT)(k:DK)(d:D)(ds acc:Aa D)(env:qE)(S SF:Sto)(x:qE × Aa D):Prop
 |no (env1:qE) (S1 S2:Sto) (z:stn o S) (q1:g d env S=.ok env1 S1) (q2:t env1 S1=.ok false S2) (r:goL o g t k ds env1 S2 acc=.ok x SF):GoC o g t k d ds acc env S SF x
 |yes (env1:qE) (S1 S2:Sto) (env5:qE) (ds5:Aa D) (S5:Sto) (z:stn o S) (q1:g d env S=.ok env1 S1) (q2:t env1 S1=.ok true S2) (q3:k env1 S2 acc=.ok (env5,ds5) S5) (r:goL o g t k ds env5 S5 ds5=.ok x SF):GoC o g t k d ds acc env S SF x
set_option tactic.hygienic true in
theorem VI {o:Al (Ai × MO)}{k:DK}{d:D}{acc:Aa D}{x:qE × Aa D}(h:goL o g t k (d::ds) env S acc=.ok x SF):GoC o g t k d ds acc env S SF x:=by
 simp only[goL] at h
 split at h
 .rename_i z
  obtain⟨env1,S1,q1,h⟩:=Res.bind_inv h;obtain⟨b,S2,q2,h⟩:=Res.bind_inv h;cases b with
  |false=>exact .no env1 S1 S2 (j0.mp z) q1 q2 h
  |true =>
   obtain⟨⟨env5,ds5⟩,S5,q3,h⟩:=Res.bind_inv h;exact .yes env1 S1 S2 env5 ds5 S5 (j0.mp z) q1 q2 q3 h
 .cases h
set_option tactic.hygienic true in
theorem B5 {o:Al (Ai × MO)}{k:DK}{acc:Aa D}(h:goL o g t k [] env S acc=.ok (envF,dsF) SF):stn o S/\env=envF/\acc=dsF/\S=SF:=by
 simp only[goL] at h
 split at h
 .rename_i z
  cases h;exact⟨j0.mp z,rfl,rfl,rfl⟩
 .cases h
inductive LpI (Y:Cx)(pins:Aa (Af × Ci))(P1:Hp)(α1:Aa Af)(fp:Aa Af)(acc:Af)(tn:Ai->Bj->Prop)(G:Aa D->DK)(items:Aa D)(x:qE × Aa D)(SF:Sto)(n:Ai)(s:Ah):Prop
 |mk (i:Ai) (σ : _L.St) (H P:Hp) (α : Aa Af) (o:Ci) (env:qE) (S:Sto) (ds:Aa D) (hn:n=items.length-i) (hi:i<=items.length) (st:TurnSt Y pins P1 α1 fp acc env S ds s σ H P α o) (st1:tn i s.heap) (run:G (items.drop i) env S ds=.ok x SF):LpI Y pins P1 α1 fp acc tn G items x SF n s
theorem MA {M:Mr}{A:Bo}{Q:Fin->Ah->Prop}{E:Ac->Ah->Prop}{s:Ah}{it acc:Ac}{en:HT}(hgk:gens[k]? = Ab ⟨tg,iter,ifs,0⟩)(has:∀ g',gens[k+1]? = Ab g'->g'.is_async=0)
  (ha:∀ s,Qa s->Q (.again (.compLoop (.ListComp elt gens scope pos) k it acc en)) s) (hd:∀ s,Qd s->Q (.done .next) s)
  (h:Ap M A (Mk it) (λr s1=>(r=none->Qd s1)/\∀ v,r=Ab v->Ap M A (Jv tg it v) (λ_ s2=>Ap M A (assign tg en v) (λ_ s3=>Ap M A (j7 ifs en) (λb s4=>(b=false->Qa s4)/\(b=true->Ap M A (zP elt gens scope pos k acc en) (λ_ s5=>Qa s5) E s4)) E s3) E s2) E s1) E s) :
  Ap M A (compTurn (.ListComp elt gens scope pos) k it acc en) Q E s:=by
 rw[JJ elt tg iter ifs gens scope pos it acc en k hgk has];refine Ad (Le (Ad (thn h λr s1 ⟨h0,h1⟩=>?_)));cases r with
 |none=>exact Ak (hd _ (h0 rfl))
 |some v =>
  refine Ad (thn (h1 v rfl) λ_ s2 h2=>Ad (thn h2 λ_ s3 h3=>Ad (thn h3 λb s4 h4=>?_)));cases b with
  |false=>exact Ak (ha _ (h4.1 rfl))
  |true=>exact Ad (thn (h4.2 rfl) λ_ s5 h5=>Ak (ha _ h5))
theorem B4 (hfp:∀ H:Hp,(∀ b∈fp,H b=none)->∀ b∈fp,x5 Y pins H b)(hne:acc ∉ fp)(o:Ci)(H':Hp)(hn:∀ b∈fp,H' b=none):∀ b∈fp,x5 Y (pins++[(acc,o)]) H' b:=λb hb=>by
 obtain⟨f0,f1,f2,f3,f4,f5⟩:=hfp H' hn b hb;refine⟨f0,f1,f2,f3,f4,λp hp=>?_⟩;rcases Cp.mp hp with z|z
 .exact f5 p (Dh _ z)
 .rcases Cp.mp z with z|z
  .exact f5 p (Bp _ z)
  .rw[Dl.mp z]
   rintro rfl;exact hne hb
theorem jF {i:Ai}{h:Bj}(T:Turn Y.prog Y.w Y.K tg J fp it tn)(st2:tn (i+1) h)(pl:∀ b∈fp,∃ o,h.get? b=Ab o/\∀ v,o.data≠.cell v){s5:Ah}{σ5:_L.St}{H5:Hp}(I5:Inv Y (pins++vD fp h) σ5 H5 s5):tn (i+1) s5.heap/\(∀ b∈fp,H5 b=none):=by
 refine⟨T.keep _ _ _ st2 λb hb o' e=>(I5.pin (b,o') (Bp _ (Bp _ (uA hb e)))).1,λb hb=>?_⟩;obtain⟨o',e,d'⟩:=pl b hb;exact(I5.pin (b,o') (Bp _ (Bp _ (uA hb e)))).2.1
theorem oB {kk:DK}{E:Ac->Ah->Prop}{s:Ah}{σ:_L.St}{H P:Hp}{o:Ci}{i:Ai}(hc:Y.calm=true)(hx:Y.xe=λ_ _=>Fh)
  (T:Turn Y.prog Y.w Y.K tg J fp it tn) (hit:ItD2 Y.K J P1 α1 o' items) (hg:PG Y tg (tDG Y g)) (ht:PTs Y ifs t) (he:PK Y (λacc=>zP elt gens scope pos k acc Y.env) kk) (hacc:∀ H:Hp,H acc=none->x5 Y pins H acc) (hfp:∀ H:Hp,(∀ b∈fp,H b=none)->∀ b∈fp,x5 Y pins H b) (hne:acc ∉ fp)
  (hi:i<=items.length) (st:TurnSt Y pins P1 α1 fp acc env S ds s σ H P α o) (st1:tn i s.heap) (run:goL o' g t kk (items.drop i) env S ds=.ok (envF,dsF) SF)
  (hA:∀ s' σ' H' P' α' o1 env1 S' ds',i<items.length->TurnSt Y pins P1 α1 fp acc env1 S' ds' s' σ' H' P' α' o1->tn (i+1) s'.heap->goL o' g t kk (items.drop (i+1)) env1 S' ds'=.ok (envF,dsF) SF->Qa s')
  (hD:∀ s' σ' H' P' α' o',TurnSt Y pins P1 α1 fp acc envF SF dsF s' σ' H' P' α' o'->Qd s') :
  Ap (As Y.prog Y.w) Y.A (Mk (.ref it)) (λr s1=>(r=none->Qd s1)/\∀ v,r=Ab v->Ap (As Y.prog Y.w) Y.A (Jv tg (.ref it) v) (λ_ s2=>Ap (As Y.prog Y.w) Y.A (assign tg Y.env v) (λ_ s3=>Ap (As Y.prog Y.w) Y.A (j7 ifs Y.env) (λb s4=>(b=false->Qa s4)/\(b=true->Ap (As Y.prog Y.w) Y.A (zP elt gens scope pos k (.ref acc) Y.env) (λ_ s5=>Qa s5) E s4)) E s3) E s2) E s1) E s:=by
 have I1:=_D.Inv.pin1 st.inv (hacc H st.acn) st.at' st.acc.cell;have fp1:=B4 hfp hne o;by_cases hlt:i<items.length
 .have hdr:items.drop i=items[i]::items.drop (i+1):=Qs hlt
  rw[hdr] at run;have run:=VI run;have hst:stn o' S:=by cases run with|no _ _ _ z=>exact z|yes _ _ _ _ _ _ z=>exact z
  refine gJ (T.item Y rfl rfl rfl hc i _ s σ H (λ_ _=>Fh) I1 (fp1 H st.fpn) st1 (hit.go i H P α S hlt st.rel hst st.same st.pre)) λr s1 ⟨u,hr,h1⟩=>⟨λz=>(by rw[hr] at z;cases z),λv hv=>?_⟩
  obtain rfl:v=u:=Co (hv.symm.trans hr);refine gJ h1 λ_ s2 ⟨x,H2,I2,rx,y,st2,fr2⟩=>?_;obtain⟨P2,d,hd,r2,e2,rp⟩:=hit.yld i H x H2 P α S hlt st.rel hst st.same st.pre y;cases (An hlt).symm.trans hd;have pl:=T.obj _ _ st2;have I2':=I2.pinned (fp1 _ fr2) pl;have two:∀ env1 S1 b S2,g items[i] env S=.ok env1 S1->t env1 S1=.ok b S2->(∀ s4 σ3 H4 P4 α4 (I4:Inv Y (pins++vD fp s2.heap) σ3 H4 s4),TurnSt Y pins P1 α1 fp acc env1 S2 ds s4 σ3 H4 P4 α4 o->tn (i+1) s4.heap->(b=false->Qa s4)/\(b=true->Ap (As Y.prog Y.w) Y.A (zP elt gens scope pos k (.ref acc) Y.env) (λ_ s5=>Qa s5) E s4))->Ap (As Y.prog Y.w) Y.A (assign tg Y.env v) (λ_ s3=>Ap (As Y.prog Y.w) Y.A (j7 ifs Y.env) (λb s4=>(b=false->Qa s4)/\(b=true->Ap (As Y.prog Y.w) Y.A (zP elt gens scope pos k (.ref acc) Y.env) (λ_ s5=>Qa s5) E s4)) E s3) E s2:=by
   intro env1 S1 b S2 q1 q2 next;refine gJ (hx▸OR hg I2' r2 (st.env.mono e2 (Bh _)) rx rp q1) λ_ s3 ⟨σ3,H3,P3,α3,I3,r3,re3,e3,e3'⟩=>?_;refine gJ (hx▸A6 ht I3 r3 re3 q2) λb' s4 ⟨hb,H4,P4,α4,I4,r4,re4,e4,e4'⟩=>?_;have I4':Inv Y (pins++vD fp s2.heap) σ3 H4 s4:=I4.pins_of λp hp=>I4.pin p (Bp _ ((Cp.mp hp).elim (λz=>Dh _ (Dh _ z)) λz=>Bp _ z));have a4:=I4.pin (acc,o) (Bp _ (Dh _ (Bp _ (Dl.mpr rfl))));rw[hb];exact next s4 σ3 H4 P4 α4 I4' ⟨I4'.unpinned,r4,re4,((st.same.trans e2).trans e3).trans e4,(st.pre.trans e3').trans e4',(jF T st2 pl I4').2,a4.2.1,a4.1,st.acc.mono ((e2.trans e3).trans e4) (e3'.trans e4')⟩ (jF T st2 pl I4').1
  cases run with
  |no env1 S1 S2 _ q1 q2 run=>exact two env1 S1 false S2 q1 q2 λs4 σ3 H4 P4 α4 I4 st4 tn4=>⟨λ_=>hA s4 σ3 H4 P4 α4 o env1 S2 ds hlt st4 tn4 run,λz=>(by cases z)⟩
  |yes env1 S1 S2 env5 ds5 S5 _ q1 q2 q3 run =>
   refine two env1 S1 true S2 q1 q2 λs4 σ3 H4 P4 α4 I4 st4 tn4=>⟨λz=>(by cases z),λ_=>?_⟩
   refine gJ (he (pins++vD fp s2.heap) P1 α1 acc env1 env5 S2 S5 ds ds5 s4 (λH hn=>ZT (hacc H hn) hne) ⟨σ3,H4,P4,α4,o,I4,st4.rel,st4.env,st4.same,st4.pre,λb hb=>(by cases hb),st4.acn,st4.at',st4.acc⟩ q3) λ_ s5 ⟨σ5,H5,P5,α5,o5,T5⟩=>?_
   exact hA s5 σ5 H5 P5 α5 o5 env5 S5 ds5 hlt ⟨T5.inv.unpinned,T5.rel,T5.env,T5.same,T5.pre,(jF T st2 pl T5.inv).2,T5.acn,T5.at',T5.acc⟩ (jF T st2 pl T5.inv).1 run
 .rw[Ts om] at run
  obtain⟨z,rfl,rfl,rfl⟩:=B5 run;refine gJ (T.done Y rfl rfl rfl hc i _ s σ H (λ_ _=>Fh) I1 (fp1 H st.fpn) st1 (hit.stop i H P α _ om st.rel z st.same st.pre)) λr s1 ⟨hr,I2⟩=>⟨λ_=>?_,λv hv=>(by rw[hr] at hv;cases hv)⟩
  have a:=_D.Inv.pinned1 I2;exact hD s1 σ H P α o ⟨I2.unpinned,st.rel,st.env,st.same,st.pre,st.fpn,a.2,a.1,st.acc⟩
theorem m6 {kk:DK}{R:Sa->Ah->Prop}{s:Ah}{σ:_L.St}{H P:Hp}{ds0:Aa D}{o:Ci}(hc:Y.calm=true)(hx:Y.xe=λ_ _=>Fh)(hgk:gens[k]? = Ab ⟨tg,iter,ifs,0⟩)(has:∀ g',gens[k+1]? = Ab g'->g'.is_async=0)
  (T:Turn Y.prog Y.w Y.K tg J fp it tn) (hit:ItD2 Y.K J P1 α1 o' items) (hg:PG Y tg (tDG Y g)) (ht:PTs Y ifs t) (he:PK Y (λacc=>zP elt gens scope pos k acc Y.env) kk) (hacc:∀ H:Hp,H acc=none->x5 Y pins H acc) (hfp:∀ H:Hp,(∀ b∈fp,H b=none)->∀ b∈fp,x5 Y pins H b) (hne:acc ∉ fp)
  (st:TurnSt Y pins P1 α1 fp acc env S ds0 s σ H P α o) (st0:tn 0 s.heap) (run:goL o' g t kk items env S ds0=.ok (envF,dsF) SF)
  (hR:∀ s' σ' H' P' α' o',TurnSt Y pins P1 α1 fp acc envF SF dsF s' σ' H' P' α' o'->R (.ok .next) s') :
  Go (As Y.prog Y.w) Y.A (.compLoop (.ListComp elt gens scope pos) k (.ref it) (.ref acc) Y.env) R s:=by
 refine codeAny_loop rfl (LpI Y pins P1 α1 fp acc tn (goL o' g t kk) items (envF,dsF) SF) (λn s hI=>?_) items.length ⟨0,σ,H,P,α,o,env,S,ds0,rfl,Gy _,st,st0,run⟩;obtain⟨i,σ,H,P,α,o,env,S,ds,hn,hi,st,st1,run⟩:=hI;subst hn;refine wpAny_noted (MA hgk has (Qa:=λs'=>∃ m,m<items.length-i/\LpI Y pins P1 α1 fp acc tn (goL o' g t kk) items (envF,dsF) SF m s') (Qd:=R (.ok .next)) (λ_ h=>⟨rfl,h⟩) (λ_ h=>h) ?_);exact oB hc hx T hit hg ht he hacc hfp hne hi st st1 run (λs' σ' H' P' α' o1 env1 S' ds' hlt st' tn' run'=>⟨_,Nat.sub_succ_lt_self _ _ hlt,i+1,σ',H',P',α',o1,env1,S',ds',rfl,hlt,st',tn',run'⟩) hR
set_option tactic.hygienic true in
theorem F8 (hx:Y.xe=λ_ _=>Fh)(hlast:gens[k+1]? = none)(he:PE Y elt (tD Y fe)):PK Y (λacc=>zP elt gens scope pos k acc Y.env) (zG fe):=by
 intro pins P1 α1 acc env env' S S' ds ds' s hacc ⟨σ,H,P,α,o,st⟩ run;show Ap _ _ (zP elt gens scope pos k (.ref acc) Y.env) _ _ s;unfold zP;rw[hlast];dsimp only;unfold zG at run;cases q3:fe env S with
 |bad=>rw[q3] at run;cases run
 |ex c z S'=>rw[q3] at run;cases run
 |ok d5 S5 =>
  rw[q3,Res.bind_ok] at run
  split at run
  .rename_i hlen
   cases run;have fA:=hacc H st.acn;have I1:=_D.Inv.pin1 st.inv fA st.at' st.acc.cell;refine Ad (gJ (hx▸OQ he I1 st.rel st.env q3) λu5 s5 ⟨v5,H5,P5,α5,G5⟩=>?_);have J:=_D.Inv.pinned1 G5.inv;have J1:=G5.inv.unpinned;obtain⟨J4,J5⟩:=J;obtain⟨its,n5,vs,ho,rvs,rps,hz⟩:=st.acc;subst ho;have hlen':vs.length=ds.length:=rps.length.symm;have hl2:=rvs.length;refine Ad (Lh WF ⟨_,J4,rfl⟩ We (Vm _ _) (Ye acc its.toArray n5 u5 (by rw[Ay];rw[<- zM];omega)) ⟨J4,?_⟩)
   have q:=Zd J4 (·.push u5)
   have fA5:=hacc H5 J5;have keep:∀ b o,b≠acc->s5.heap.get? b=Ab o->(s5.heap.update acc (Eg (·.push u5))).get? b=Ab o:=λb o hb e=>(Bg s5.heap _ (El hb)).trans e
   have I6:=J1.turned (t':=s5.toks) keep J5 fA5.2.1 fA5.2.2.2.1 fA5.2.2.2.2.1 fA5.2.2.2.2.2;refine Ak ⟨σ,H5,P5,α5,_,I6,G5.rel,G5.env,st.same.trans G5.same,st.pre.trans G5.pre,λb hb=>(by simp at hb),J5,q,?_⟩
   refine⟨its++[u5],_,vs++[v5],by simp <;> rfl,rvs.append (.cons G5.val .nil),?_,by simp;omega⟩
   exact(qD.mono G5.same G5.pre _ _ rps).append (.cons G5.rep .nil)
  .cases run
end
theorem sZ {prog:Bd}{w:Bt}{A:Bo}{R:Sa->Ah->Prop}{s:Ah}{elt:Br}{gens:Aa Et}{scope:Em}{pos:Ex}{k:Ai}{it acc:Ac}{env:HT}{g:Et}(hg:gens[k]? = Ab g)(ha:g.is_async=0)
  (h0:Go (As prog w) A (.compLoop (.ListComp elt gens scope pos) k it acc env) R s)
  (h:Ap (As prog w) A (Nl it) (λit' s'=>Go (As prog w) A (.compLoop (.ListComp elt gens scope pos) k it' acc env) R s') (notedBy (As prog w) A env λx s'=>R (.error x) s') s) :
  Go (As prog w) A (.compStart (.ListComp elt gens scope pos) k it acc env) R s:=by
 refine Oo ?_;show Ap _ _ ((compStart (.ListComp elt gens scope pos) k it acc env).onRaise (λx=>do Uj x env;Tq theWindowsPlace)) _ _ s
 refine wpAny_notedAt ?_;have hcl:clausesOf (.ListComp elt gens scope pos)=gens:=rfl;have e0:(g.is_async != 0)=false:=by rw[ha];rfl
 unfold compStart;simp only[hcl,hg,Option.elim,e0,Bu,Eh];refine Ad (Jn (wpAny_ite ?_))
 split
 .exact Ak (And.intro rfl h0)
 .refine Ad (Kb ?_)
  exact Ad (Le (Ad (Gn h (λit' s' h'=>Ak (And.intro rfl h')) λ_ _ x=>x)))
section
variable {Y:Cx}{elt tg iter:Br}{ifs:Aa Br}{gens:Aa Et}{scope:Em}{pos:Ex}{k:Ai}{g:DG}{t:DT}{fi:DI2}{kk:DK}
theorem ZS {X:Cx}{pins pl:Aa (Af × Ci)}{H:Hp}{b:Af}(f:x5 X (pins++pl) H b):x5 X pins H b:=by
 obtain⟨f0,f1,f2,f3,f4,f5⟩:=f;refine⟨f0,f1,f2,f3,f4,λp hp=>f5 p ?_⟩;rcases Cp.mp hp with z|z
 .exact Dh _ z
 .exact Bp _ (Dh _ z)
theorem A5 (hc:Y.calm=true)(hx:Y.xe=λ_ _=>Fh)(hgk:gens[k+1]? = Ab ⟨tg,iter,ifs,0⟩)(has:∀ g',gens[k+1+1]? = Ab g'->g'.is_async=0)(hi:PI Y tg iter (tDI2 Y fi))(hg:PG Y tg (tDG Y g))(ht:PTs Y ifs t)
  (he:PK Y (λacc=>zP elt gens scope pos (k+1) acc Y.env) kk) (hs:∀ x,Fb iter Y.env x=pure x):PK Y (λacc=>zP elt gens scope pos k acc Y.env) (kIn fi g t kk):=by
 intro pins P1 α1 acc env env' S S' ds ds' s hacc ⟨σ,H,P,α,o,st⟩ run;show Ap _ _ (zP elt gens scope pos k (.ref acc) Y.env) _ _ s;unfold zP;rw[hgk];dsimp only;unfold kIn at run;cases q:fi env S with
 |bad=>rw[q] at run;cases run
 |ex c z S'=>rw[q] at run;cases run
 |ok p S1 =>
  rw[q,Res.bind_ok] at run;have fA:=hacc H st.acn;have I1:=_D.Inv.pin1 st.inv fA st.at' st.acc.cell;have key:=hi (pins++[(acc,o)]) s σ H (λJ H1=>∃ P' α',Rel Y.K H1 P' α' S1/\qF P P'/\α<+:α'/\ItD2 Y.K J P' α' p.1 p.2) I1 ⟨P,α,env,S,st.rel,st.env,by rw[q];exact λJ H' P' α' r' e1 e2 it=>⟨P',α',r',e1,e2,it⟩⟩
  rw[hx] at key;refine Ad (gJ key λv s1 h1=>Ad (Le ?_));rw[hs];refine Ad (Ak (Ad (Ct (gJ h1 λitv s2 h2=>?_))));obtain⟨it,fp,tn,J,H2,rfl,I2,T,st0,hf,P',α',r2,e1,e2,hit⟩:=h2;have a2:=_D.Inv.pinned1 I2;have hne:acc ∉ fp:=λhm=>(hf acc hm).2.2.2.2.2 (acc,o) (Bp _ (Bp _ (by simp))) rfl
  have loop:Go (As Y.prog Y.w) Y.A (.compLoop (.ListComp elt gens scope pos) (k+1) (.ref it) (.ref acc) Y.env) (λr s'=>match r with
    |.ok f=>iR Y pins P1 α1 acc env' S' ds' s'
    |.error _=>Fh) s2:=by
   refine m6 (pins:=pins) (fp:=fp) (P1:=P') (α1:=α') (σ:=σ) (H:=H2) (P:=P') (α:=α') (o:=o) hc hx hgk has T hit hg ht he hacc (λH hn b hb=>?_) hne
    ⟨I2.unpinned,r2,st.env.mono e1 e2,qF.refl _,Bh _,λb hb=>(hf b hb).1,a2.2,a2.1,st.acc.mono e1 e2⟩ st0 run λs' σ' H' Pf αf o' T'=>?_
   .obtain⟨_,g1,g2,g3,g4,g5⟩:=ZS (hf b hb)
    exact⟨hn b hb,g1,g2,g3,g4,g5⟩
   .exact⟨σ',H',Pf,αf,o',T'.inv,T'.rel,T'.env,(st.same.trans e1).trans T'.same,(st.pre.trans e2).trans T'.pre,λb hb=>(by simp at hb),T'.acn,T'.at',T'.acc⟩
  refine Ad (wpAny_runOwn (Iq (sZ hgk rfl loop (T.self Y.A 0 _ _ _ st0 loop)) λr s' h=>?_));cases r with
  |error x=>exact Ao h
  |ok f=>exact Ak h
end
def mkM (m:Ar)(r:Res (qE × Aa D)):Res D:=match r with
 |.ok p S2=>if m then .ok (.loc S2.length) (S2++[.lst p.2]) else .ok (.lst p.2) S2
 |_=>.bad
def zD (m:Ar)(cap:Aa (Al Ai))(fi:DI2)(g:DG)(t:DT)(k:DK):DE:=λenv S=>(fi env S).bind λp S1=>mkM m (goL p.1 g t k p.2 (xJ cap env) S1 [])
section
variable {X:Cx}{elt tg iter:Br}{ifs:Aa Br}{scope:Em}{pos:Ex}{N':Aa Av}{cap:Aa (Al Ai)}{fi:DI2}{g:DG}{t:DT}{kk:DK}{rest:Aa Et}{mm:Ar}
theorem XC {P:Hp}{r:Res (qE × Aa D)}{Ok:D->Sto->Prop}(h:qK X P α (mkM mm r) Ok):∃ envF ds SF,r=.ok (envF,ds) SF/\(if mm then Ok (.loc SF.length) (SF++[.lst ds]) else Ok (.lst ds) SF):=by
 cases r with
 |ok p S =>
  obtain⟨envF,ds⟩:=p;refine⟨envF,ds,S,rfl,?_⟩;cases mm <;> exact h
 |ex c x S=>exact Ao h
 |bad=>exact Ao h
theorem V6 {pins:Aa (Af × Ci)}{σ:_L.St}{P1:Hp}{α1:Aa Af}{acc:Af}{s:Ah}{Q:VK}(c:pV X pins σ P1 α1 ds SF acc C s)(ok:if mm then OkV X P1 α1 Q (.loc SF.length) (SF++[.lst ds]) else OkV X P1 α1 Q (.lst ds) SF):EP X pins σ Q (.ref acc) s:=by
 cases mm with
 |false=>exact PX c ok
 |true =>
  obtain⟨H',P',α',vs,I,r,hn,e1,e2,rp,_⟩:=c;exact⟨.ref acc,_,I,rfl,jY r hn rp λv H2 P2 α2 r2 q1 q2 q3=>ok v H2 P2 α2 r2 (e1.trans q1) (e2.trans q2) q3⟩
theorem ZO {M:Mr}{A:Bo}{E:Ac->Ah->Prop}{s:Ah}{globals:Af}{closure:Aa (Av × Af)}{qual:Av}{env:HT}{Q:HT->Ah->Prop}
  (hQ:Q (newEnv scope s.heap.objs.size globals (Hq (s.heap.objs.size+1) scope.names closure) qual none .none (Ab env) Ow) { s with heap:=Yj (s.heap.push { cls:=.type "dict",data:=.dict #[] }) scope.names }) :
  Ap M A (Vb scope globals closure [] qual none .none (Ab env)) Q E s:=by
 simp only[Vb,WP,Dt];refine Ad (wpAny_alloc ?_);refine Ad (wpAny_layCells _ (λname kind cells=>by cases hkc:kind == Nt <;> simp[hkc]) _ _ _ _ ?_)
 rw[show ({ s with heap:=s.heap.push { cls:=.type "dict",data:=.dict #[] } } : Ah).heap.objs.size=s.heap.objs.size+1 from Dk ..]
 refine Ad ?_;rw[Mn];exact Ak (Ak hQ)
theorem bP {pins:Aa (Af × Ci)}{σ:_L.St}{H2 P1:Hp}{α1:Aa Af}{s2:Ah}{S1:Sto}{items:Aa D}{it:Af}{fp:Aa Af}{tn:Ai->Bj->Prop}{J:It}{E:Ac->Ah->Prop}{RR:Ac->Af->Sa->Ah->Prop}
  (hc:X.calm=true) (S:CompSc X.env.scope X.N scope N' cap) (has:∀ g',(⟨tg,iter,ifs,0⟩::rest:Aa Et)[0+1]? = Ab g'->g'.is_async=0)
  (hg:∀ cl C ex s₀ H₀,PG (qY X N' scope cl C ex s₀ H₀) tg (tDG (qY X N' scope cl C ex s₀ H₀) g))
  (ht:∀ cl C ex s₀ H₀,PTs (qY X N' scope cl C ex s₀ H₀) ifs t) (he:∀ cl C ex s₀ H₀,PK (qY X N' scope cl C ex s₀ H₀) (λacc=>zP elt (⟨tg,iter,ifs,0⟩::rest) scope pos 0 acc (qY X N' scope cl C ex s₀ H₀).env) kk)
  (I2:Inv X pins σ H2 s2) (r:Rel X.K H2 P1 α1 S1) (re:qZ X.K P1 α1 σ env) (T:Turn X.prog X.w X.K tg J fp it tn) (st0:tn 0 s2.heap) (hf:∀ b∈fp,x5 X pins H2 b) (hit:ItD2 X.K J P1 α1 o' items) (run:goL o' g t kk items (xJ cap env) S1 [] = .ok (envF,ds) SF)
  (hRR:∀ acc C s',s2.heap.objs.size<=acc->(∃ m,s'.heap.Ns C m)->s2.heap.objs.size<=C->acc≠C->(∀ h',Fd C s'.heap h'->pV X pins σ P1 α1 ds SF acc C { s' with heap:=h' }) -> RR (.ref acc) C (.ok .next) s') :
  Ap (As X.prog X.w) X.A (newList []) (λacc s₃=>Ap (As X.prog X.w) X.A (Vb scope X.env.globals (wN X.env.cells scope.names []) [] X.env.qual none .none (Ab X.env)) (λcenv s₄ =>
   Go (As X.prog X.w) X.A (.compStart (.ListComp elt (⟨tg,iter,ifs,0⟩::rest) scope pos) 0 (.ref it) acc { cenv with scope:=relabel scope X.env }) (RR acc cenv.locals) s₄) E s₃) E s2:=by
 have hlt:∀ b∈fp,b<s2.heap.objs.size:=λb hb=>by
  obtain⟨o,e,_⟩:=T.obj 0 _ st0 b hb;exact Ax e
 refine Dg (ZO ?_);dsimp only;generalize hH2:s2.heap.push { cls:=.type "list",dict:=none,data:=.seq ([] : Aa Ac).toArray } = Hh;have hsz:Hh.objs.size=s2.heap.objs.size+1:=by rw[<- hH2,Dk]
 have hC:s2.heap.objs.size<=Hh.objs.size:=by rw[hsz];exact Jk _
 have hne:s2.heap.objs.size≠Hh.objs.size:=by rw[hsz];exact Bv (Ib _)
 have kp:∀ b o,Hh.get? b=Ab o->(Yj (Hh.push { cls:=.type "dict",data:=.dict #[] }) scope.names).get? b=Ab o:=λb o e=>Zx _ _ b o (Ag _ e);have hns₁:(Yj (Hh.push { cls:=.type "dict",data:=.dict #[] }) scope.names).Ns Hh.objs.size (λ_=>none):=(Heap.Ns.new Hh (.type "dict")).keeps (Zx _ _);have co:=cellsFrom_ok scope.names (Hh.push { cls:=.type "dict",data:=.dict #[] }) (Hh.objs.size+1) [] ⟨λ_ _ hm=>(nomatch hm),Mv⟩ (by rw[Dk];exact AT _)
 rw[Dk] at co;generalize hh₁:Yj (Hh.push { cls:=.type "dict",data:=.dict #[] }) scope.names=h₁ at kp hns₁ co ⊢;have keep:∀ b o,s2.heap.get? b=Ab o->h₁.get? b=Ab o:=λb o e=>kp b o (hH2▸Ag _ e);have hacc:h₁.get? s2.heap.objs.size=Ab { cls:=.type "list",data:=.seq ([] : Aa Ac).toArray }:=kp _ _ (hH2▸Ba _ rfl);have I4:∀ tk,Inv (qY X N' scope (kJ X scope Hh.objs.size) Hh.objs.size fp s2 H2) [] (vG cap σ) H2 { s2 with heap:=h₁,toks:=tk }:=λtk =>
  YM (s4:={ s2 with heap:=h₁,toks:=tk }) S I2 hf hlt hC hns₁ rfl rfl keep co
 have loop:∀ tk,Go (As X.prog X.w) X.A (.compLoop (.ListComp elt (⟨tg,iter,ifs,0⟩::rest) scope pos) 0 (.ref it) (.ref s2.heap.objs.size) (compEnvC scope (kJ X scope Hh.objs.size) Hh.objs.size X.env)) (RR (.ref s2.heap.objs.size) Hh.objs.size) { s2 with heap:=h₁,toks:=tk }:=λtk=>by
  refine m6 (kk:=kk) (o':=o') (Y:=qY X N' scope (kJ X scope Hh.objs.size) Hh.objs.size fp s2 H2) (pins:=[]) (fp:=fp) (acc:=s2.heap.objs.size) (P1:=P1) (α1:=α1) (σ:=vG cap σ) (H:=H2) (P:=P1) (α:=α1) (o:={ cls:=.type "list",data:=.seq ([] : Aa Ac).toArray }) hc rfl rfl has T hit
   (hg _ _ _ _ _) (ht _ _ _ _ _) (he _ _ _ _ _) (λH hn=>?_) (λH hn b hb=>?_) (λhm=>Dp _ (hlt _ hm)) ⟨I4 tk,r,WK re cap,qF.refl _,Bh _,λb hb=>(hf b hb).1,I2.hok.fresh (AT _),hacc,⟨[],0,[],rfl,.nil,.nil,Gy _⟩⟩ (T.keep _ _ _ st0 λb hb o e=>keep b o e) run λs' σ' H' P' α' o' st=>?_
  .refine⟨hn,hne,λhm=>?_,.inr (AT _),λx c h z=>?_,λp hp=>absurd (show p∈([]:Aa (Af × Ci)) from hp) (by simp)⟩
   .obtain⟨_,o,ho,_⟩:=I2.stack.mem hm
    exact Dp _ (Ax ho)
   .rcases xC S I2.ok h with⟨m,_⟩|⟨m,_⟩
    .exact Dp _ (Py hC (z▸(co.empty x c m).2))
    .obtain⟨v,ob,hob,_⟩:=I2.cell x c m
     rw[z] at hob;exact Dp _ (Ax hob)
  .obtain⟨_,h1,h2,h3,h4,h5⟩:=hf b hb
   refine⟨hn b hb,Bv (Bm (hlt b hb) hC),λhm=>?_,.inl hb,λx c h=>(by
    rcases xC S I2.ok h with⟨m,_⟩|⟨m,_⟩
    .exact El (Bv (Mf (Bm (hlt b hb) hC) (co.empty x c m).2))
    .exact h4 x c m),λp hp=>absurd (show p∈([]:Aa (Af × Ci)) from hp) (by simp)⟩
   rcases Aw.mp (I2.stkSub b hm) with z|z
   .exact h1 z
   .exact h2 z
  .obtain⟨m,hm,_⟩:=st.inv.loc
   exact hRR _ _ s' (AT _) ⟨m,hm⟩ hC hne λh' sb=>YL I2 hf rfl hC (AT _) hne st sb
 exact codeAny_compStart_list (loop _) (T.self X.A 0 _ _ _ (T.keep _ _ _ st0 λb hb o e=>keep b o e) (loop _))
theorem YV (hc:X.calm=true)(S:CompSc X.env.scope X.N scope N' cap)(hi:PI X tg iter (tDI2 X fi))
  (hg:∀ cl C ex s₀ H₀,PG (qY X N' scope cl C ex s₀ H₀) tg (tDG (qY X N' scope cl C ex s₀ H₀) g))
  (ht:∀ cl C ex s₀ H₀,PTs (qY X N' scope cl C ex s₀ H₀) ifs t) (has:∀ g',(⟨tg,iter,ifs,0⟩::rest:Aa Et)[0+1]? = Ab g'->g'.is_async=0) (he:∀ cl C ex s₀ H₀,PK (qY X N' scope cl C ex s₀ H₀) (λacc=>zP elt (⟨tg,iter,ifs,0⟩::rest) scope pos 0 acc (qY X N' scope cl C ex s₀ H₀).env) kk)
  (hs:∀ x,Fb iter X.env x=pure x:=by intro _;rfl):PE X (.ListComp elt (⟨tg,iter,ifs,0⟩::rest) scope pos) (tD X (zD mm cap fi g t kk)):=by
 intro pins s σ H Q I h;obtain⟨P,α,env,S0,r,re,af⟩:=h;rw[eval_ListComp];have af':qK X P α ((fi env S0).bind λp S1=>mkM mm (goL p.1 g t kk p.2 (xJ cap env) S1 [])) (OkV X P α Q):=af;refine Ro (use:=none) rfl hs (cO S I.ok) S.kind S.names ?_;refine thn (hi pins s σ H (λJ H1=>∃ (P1:Hp) (α1:Aa Af) (p:Al (Ai × MO) × Aa _D.D) (S1:Sto),Rel X.K H1 P1 α1 S1/\qF P P1/\α<+:α1/\ItD2 X.K J P1 α1 p.1 p.2/\qK X P α (mkM mm (goL p.1 g t kk p.2 (xJ cap env) S1 [])) (OkV X P α Q)) I ⟨P,α,env,S0,r,re,?_⟩) λxv s1 h1=>thn h1 λitv s2 h2=>?_
 .cases q:fi env S0 with
  |bad=>rw[q] at af';exact af'
  |ex c x S'=>rw[q] at af';exact af'
  |ok p S1=>rw[q] at af';exact λJ H1 P1 α1 r1 e1 e2 it=>⟨P1,α1,p,S1,r1,e1,e2,it,af'⟩
 obtain⟨it,fp,tn,J,H2,rfl,I2,T,st0,hf,P1,α1,p,S1,r1,e1,e2,hit,af1⟩:=h2;obtain⟨envF,ds,SF,run,ok⟩:=XC af1;refine bP (RR:=λacc C=>compPost (As X.prog X.w) X.A X.xe none (EP X pins σ Q) acc C) hc S has hg ht he I2 r1 (re.mono e1 e2) T st0 hf hit run ?_;intro acc C s' hA ⟨m,hm⟩ hC hne fin;refine⟨m,hm,λh' sb=>V6 (mm:=mm) (fin h' sb) ?_⟩;cases mm with
 |false=>exact λv H3 P3 α3 r3 q1 q2 q3=>ok v H3 P3 α3 r3 (e1.trans q1) (e2.trans q2) q3
 |true=>exact λv H3 P3 α3 r3 q1 q2 q3=>ok v H3 P3 α3 r3 (e1.trans q1) (e2.trans q2) q3
theorem V1 {i:Ai}{y:Av}{py spos:Ex}(hc:X.calm=true)(hN:X.N.Nodup)(S:CompSc X.env.scope X.N scope N' cap)(hi:PI X tg iter (tDI2 X fi))
  (hg:∀ cl C ex s₀ H₀,PG (qY X N' scope cl C ex s₀ H₀) tg (tDG (qY X N' scope cl C ex s₀ H₀) g))
  (ht:∀ cl C ex s₀ H₀,PTs (qY X N' scope cl C ex s₀ H₀) ifs t) (has:∀ g',(⟨tg,iter,ifs,0⟩::rest:Aa Et)[0+1]? = Ab g'->g'.is_async=0) (he:∀ cl C ex s₀ H₀,PK (qY X N' scope cl C ex s₀ H₀) (λacc=>zP elt (⟨tg,iter,ifs,0⟩::rest) scope pos 0 acc (qY X N' scope cl C ex s₀ H₀).env) kk)
  (hy:X.N[i]? = Ab y:=by rfl) (hyl:Loc X.env.scope y:=by first|exact Aa3 rfl|exact Ze rfl) (hf:X.fn y=true\/X.env.scope.names.lookup y=Ab .local:=by first|exact .inl rfl|exact .inr rfl|assumption)
  (hsw:Mw (.ListComp elt (⟨tg,iter,ifs,0⟩::rest) scope pos) (Ab (.Name y py)) spos.line X.env=pure true:=by rfl)
  (hs:∀ x,Fb iter X.env x=pure x:=by intro _;rfl):PS X (.Assign [.Name y py] (.ListComp elt (⟨tg,iter,ifs,0⟩::rest) scope pos) spos) (tDS X (qV (zD mm cap fi g t kk) (gNm i))):=by
 intro pins s σ H D I h;obtain⟨P,α,env,S0,r,re,af⟩:=h;have af0:=w6 af;have af':qK X P α ((fi env S0).bind λp S1=>mkM mm (goL p.1 g t kk p.2 (xJ cap env) S1 [])) (λd S=>qX X P α (.nx (env.set i (Ab d)) S) D):=af0;rw[exec_Assign_Name_used _ _ _ _ hsw];refine Ad (Le (Ad ?_));show Ap _ X.A (do let _ <- comprehension (.ListComp elt (⟨tg,iter,ifs,0⟩::rest) scope pos) scope X.env _ (newList []) false (eval iter X.env) (Ab (assign (.Name y py) X.env))) _ _ s
 refine Ad (Gn (Ro (use:=Ab (assign (.Name y py) X.env)) (Q:=λ_ s'=>SP X pins D .next s') rfl hs (cO S I.ok) S.kind S.names ?_) (λ_ s' hq=>Ak (Ak hq)) λ_ _ e=>e);refine thn (hi pins s σ H (λJ H1=>∃ (P1:Hp) (α1:Aa Af) (p:Al (Ai × MO) × Aa _D.D) (S1:Sto),Rel X.K H1 P1 α1 S1/\qF P P1/\α<+:α1/\ItD2 X.K J P1 α1 p.1 p.2/\qK X P α (mkM mm (goL p.1 g t kk p.2 (xJ cap env) S1 [])) (λd S=>qX X P α (.nx (env.set i (Ab d)) S) D)) I ⟨P,α,env,S0,r,re,?_⟩) λxv s1 h1=>thn h1 λitv s2 h2=>?_
 .cases q:fi env S0 with
  |bad=>rw[q] at af';exact af'
  |ex c x S'=>rw[q] at af';exact af'
  |ok p S1=>rw[q] at af';exact λJ H1 P1 α1 r1 e1 e2 it=>⟨P1,α1,p,S1,r1,e1,e2,it,af'⟩
 obtain⟨it,fp,tn,J,H2,rfl,I2,T,st0,hfp,P1,α1,p,S1,r1,e1,e2,hit,af1⟩:=h2;obtain⟨envF,ds,SF,run,ok⟩:=XC af1;refine bP (RR:=λacc C=>compPost (As X.prog X.w) X.A X.xe (Ab (assign (.Name y py) X.env)) (λ_ s'=>SP X pins D .next s') acc C) hc S has hg ht he I2 r1 (re.mono e1 e2) T st0 hfp hit run ?_;intro acc C s' hA ⟨m,hm⟩ hC hne fin;show Ap _ X.A (assign (.Name y py) X.env (.ref acc)) _ _ s';obtain⟨H3,P3,α3,vs,I3,r3,hn3,q1,q2,rp,hCn⟩:=fin s'.heap (Ra _ _);obtain⟨r4,e4⟩:=r3.pure (o:=.lst vs) hn3;have hCn':(upd H3 acc (.lst vs)) C=none:=by rw[qJ (El hne)];exact hCn
 have fC:=I2.fpOk hC hCn';refine Xy (dI I3 hN hy hyl (show qI (V.ref acc) (Bs acc) from rfl) (λs5 I5 ⟨a,sb,ha⟩=>?_) hf)
 have hCa:C≠a:=by
  rcases ha with rfl|ha
  .exact fC.2.1
  .exact λz=>fC.2.2.2.2.1 _ _ ha z.symm
 refine⟨m,hm.sameBut sb hCa,λh' sb'=>?_⟩;have I6:Inv X pins (σ.set i (Ab (V.ref acc))) (upd H3 acc (.lst vs)) { s5 with heap:=h' }:=I5.turned (t':=s5.toks) (λb o hb e=>(sb'.2 b hb).trans e) hCn' fC.2.1 fC.2.2.2.1 fC.2.2.2.2.1 fC.2.2.2.2.2
 cases mm with
 |false =>
  refine⟨_,_,I6,ok _ _ (upd P3 acc (.lst vs)) α3 r4 ?_ ((e1.trans q1).trans e4) (e2.trans q2)⟩;exact((re.mono e1 e2).mono (q1.trans e4) q2).set i (nU (.inl (.inl qQ)) (qD.mono e4 (Bh _) _ _ rp))
 |true =>
  have hpre:α3<+:α3++[acc]:=Fq _ _;have r5:=r3.new (o:=.lst vs) (m:=.lst ds) hn3 ⟨vs,qQ,qD.mono (qF.refl _) hpre _ _ rp⟩;refine⟨_,_,I6,ok _ _ P3 (α3++[acc]) r5 ?_ (e1.trans q1) ((e2.trans q2).trans hpre)⟩;refine((re.mono e1 e2).mono q1 (q2.trans hpre)).set i ?_;simp only[Rep];exact⟨acc,rfl,by rw[<- r3.len];simp⟩
end
section
variable {prog:Bd}{w:Bt}{A:Bo}{E:Ac->Ah->Prop}{s:Ah}
theorem ZN {e it l:Af}{i:Ai}{x old:Ac}(he:Uk s.heap e it i old)(hit:zB tp s.heap it l i)(hl:xP tp s.heap l xs)(hx:xs[i]? = Ab x)(ne:e≠it)
  (hQ:∀ g,IsEnumOut g e it ((i:Am)+1) x s.heap.objs.size->zB tp g it l (i+1)->Im g s.heap.objs.size (.int i s.toks) x->g.objs.size=s.heap.objs.size+1->(∀ b o,b≠e->b≠it->s.heap.get? b=Ab o->g.get? b=Ab o)->Q (.ref s.heap.objs.size) { s with heap:=g,toks:=s.toks+1 }) :
  Ap (As prog w) A (Hl.«enumerate.__next__» ⟨[.ref e],[]⟩) (λfin s'=>∃ v,fin=.done (.ret v)/\Q v s') E s:=by
 obtain⟨hp,gn,dr,tk,os⟩:=s;show Ap _ _ (field (.ref e) 2 >>= _) _ _ _;refine Ad (Du he rfl (x:=.ref it) rfl (Ad (gA hit hl hx λg1 i1 s1=>?_)))
 replace s1:Fd it hp g1:=s1
 have e1:Uk g1 e it i old:=(s1.2 e ne).trans he;show Ap _ _ (field (.ref e) 3 >>= _) _ _ ⟨g1,gn,dr,tk,os⟩;refine Ad (Du e1 rfl (x:=Gf i) rfl ?_);show Ap _ _ (field (.ref e) 4 >>= _) _ _ ⟨g1,gn,dr,tk,os⟩;refine Ad (Du e1 rfl (x:=.none) rfl ?_);show Ap _ _ (mkInt i >>= _) _ _ ⟨g1,gn,dr,tk,os⟩;refine Ad (wpAny_mkInt ?_);show Ap _ _ (setField (.ref e) 3 (Gf ((i:Am)+1)) >>= _) _ _ ⟨g1,gn,dr,tk+1,os⟩;refine Ad (Fe e1 (by simp) λg2 e2 s2=>?_)
 replace s2:Fd e g1 g2:=s2
 replace e2:Uk g2 e it ((i:Am)+1) old:=e2
 show Ap _ _ (setField (.ref e) 4 .none >>= _) _ _ ⟨g2,gn,dr,tk+1,os⟩;refine Ad (Fe e2 (by simp) λg3 e3 s3=>?_)
 replace s3:Fd e g2 g3:=s3
 replace e3:Uk g3 e it ((i:Am)+1) old:=e3
 show Ap _ _ (newTuple [.int i tk,x] >>= _) _ _ ⟨g3,gn,dr,tk+1,os⟩;refine Ad (Uz ?_);have e4:Uk (g3.push { cls:=.type "tuple",data:=.seq #[.int i tk,x] }) e it ((i:Am)+1) old:=Ag _ e3;generalize q4:g3.push { cls:=.type "tuple",data:=.seq #[.int i tk,x] } = g4 at e4;have sz:g3.objs.size=hp.objs.size:=by rw[s3.1,s2.1,s1.1]
 have el:e<hp.objs.size:=Ax he;have t4:Im g4 hp.objs.size (.int i tk) x:=by rw[<- q4,<- sz];exact Ba _ rfl
 have z4:g4.objs.size=hp.objs.size+1:=by rw[<- q4,Dk,sz]
 have k4:∀ b o,b≠e->b≠it->hp.get? b=Ab o->g4.get? b=Ab o:=λb o b1 b2 q=>by
  rw[<- q4];exact Ag _ (s3.extBut b o b1 (s2.extBut b o b1 (s1.extBut b o b2 q)))
 have i4:zB tp g4 it l (i+1):=i1.keep λo q=>by rw[<- q4];exact Ag _ (s3.extBut _ o ne.symm (s2.extBut _ o ne.symm q))
 show Ap _ _ (Es (.ref e) >>= _) _ _ ⟨g4,gn,dr,tk+1,os⟩;rw[sz];refine Ad ?_;unfold Es;refine Ad (Du e4 rfl (x:=.none) rfl (Ak ?_));simp only[Dt];refine Ad (Kb (Ad (Du e4 rfl (x:=old) rfl (Ad (Fe e4 (by simp) λg5 e5 s5=>?_)))))
 replace s5:Fd e g4 g5:=s5
 replace e5:Uk g5 e it ((i:Am)+1) x:=e5
 show Ap _ _ (Gz (.ref e) (.ref hp.objs.size) >>= _) _ _ ⟨g5,gn,dr,tk+1,os⟩;refine Ad ?_;unfold Gz;refine Ad (Fe e5 (by simp) λg6 e6 s6=>?_)
 replace s6:Fd e g5 g6:=s6
 replace e6:IsEnumOut g6 e it ((i:Am)+1) x hp.objs.size:=e6
 refine Fe e6 (by simp) λg7 e7 s7=>?_
 replace s7:Fd e g6 g7:=s7
 replace e7:IsEnumOut g7 e it ((i:Am)+1) x hp.objs.size:=e7
 have up:∀ b o,b≠e->g4.get? b=Ab o->g7.get? b=Ab o:=λb o b1 q=>s7.extBut b o b1 (s6.extBut b o b1 (s5.extBut b o b1 q));exact Ad (Hs (Ak ⟨_,rfl,hQ g7 e7 (i4.keep λo q=>up _ o ne.symm q) (up _ _ (Gv el) t4) (by rw[s7.1,s6.1,s5.1,z4]) λb o b1 b2 q=>up b o b1 (k4 b o b1 b2 q)⟩))
set_option maxHeartbeats 4000000 in
set_option tactic.hygienic true in
theorem V9 (tp:Ar)(l:Af)(xs:Bn Ac) :
  Meets (Hl.«enumerate.__new__» ⟨[.type "enumerate",.ref l],[]⟩) (λ_ R s=>(∃ n dct sl,s.heap.get? l=Ab { cls:=.type (if tp then "tuple" else "list"),dict:=dct,data:=.seq xs n,slots:=sl }) /\ R (.ok (.ret (.ref (s.heap.push (vV tp l)).objs.size))) { s with heap:=(s.heap.push (vV tp l)).push { cls:=.type "enumerate",data:=.fields #[.none,.bool false,.ref s.heap.objs.size,Gf 0,.none,.none] } }):=
 .of_wp λprog w A R s h=>by
  obtain⟨hp,gn,dr,tk,os⟩:=s;obtain⟨⟨n,dct,sl,hl⟩,h⟩:=h;have hsub:=sub_enumerate;cases tp
  .have L1:Zg (Nu ⟨hp,gn,dr,tk,os⟩) l xs:=⟨_,hl,rfl,n,rfl⟩
   wp_walk using Ha hl
   refine Zy λst=>Ak ?_
   split
   .rename_i c _ _ _ _ _
    cases (c == Gk "enumerate") <;> (wp_walk using Ha hl,Fm L1;exact⟨_,rfl,h⟩)
   .wp_walk using Ha hl,Fm L1;exact⟨_,rfl,h⟩
  .have L1:Xq (Nu ⟨hp,gn,dr,tk,os⟩) l xs:=⟨_,hl,rfl,n,rfl⟩
   wp_walk using Ha hl
   refine Zy λst=>Ak ?_
   split
   .rename_i c _ _ _ _ _
    cases (c == Gk "enumerate") <;> (wp_walk using Ha hl,Hd L1;exact⟨_,rfl,h⟩)
   .wp_walk using Ha hl,Hd L1;exact⟨_,rfl,h⟩
theorem Z2 {tp:Ar}{l:Af}{xs:Bn Ac}{Q:Ac->Ah->Prop}(hl:∃ n dct sl,s.heap.get? l=Ab { cls:=.type (if tp then "tuple" else "list"),dict:=dct,data:=.seq xs n,slots:=sl })
  (h:∀ g,Uk g (s.heap.objs.size+1) s.heap.objs.size 0 .none->zB tp g s.heap.objs.size l 0->(∀ b o,s.heap.get? b=Ab o->g.get? b=Ab o)->Q (.ref (s.heap.objs.size+1)) { s with heap:=g }) :
  Ap (As prog w) A (call (.type "enumerate") [.ref l]) Q E s:=by
 refine callType_new F.called_enumerate (by decide) (F.typeCall_enumerate_1 _) (F.newCall_enumerate_1 _) (λobj=>F.args_object_init_2 obj _) F.entry_enumerate_new (V9 tp l xs) ⟨hl,?_⟩
 have hz:(s.heap.push (vV tp l)).objs.size=s.heap.objs.size+1:=Dk ..;show _/\_;have he:((s.heap.push (vV tp l)).push { cls:=.type "enumerate",data:=.fields #[.none,.bool false,.ref s.heap.objs.size,Gf 0,.none,.none] }).get? (s.heap.push (vV tp l)).objs.size=Ab _:=Ba _ rfl;rw[hz] at he ⊢;exact⟨⟨_,he,rfl⟩,h _ he (kY (Ag _ (Ba _ rfl))) λb o x=>Ag _ (Ag _ x)⟩
end
def Ite (tp:Ar)(K:Aj)(a:Af):It:=
  ⟨λi H=>∃ xs x,Sq tp K H a xs/\xs[i]? = Ab x,
   λi H v H'=>∃ T x,v=.ref T/\H T=none/\H'=upd H T (.tup [.int i,x])/\∀ xs,Sq tp K H a xs->xs[i]? = Ab x,
   λi H=>∃ xs,Sq tp K H a xs/\xs.length<=i⟩
def QQ (tp:Ar)(e it l:Af)(k:Ai)(h:Bj):Prop:=∃ old,Uk h e it k old/\zB tp h it l k
theorem WZ {P:Bd}{w:Bt}{K:Aj}{elts:Aa Br}{x1:Ai}{tpos:Ex}{e it a:Af}(ne:e≠it):Turn P w K (.Tuple elts x1 tpos) (Ite tp K a) [e,it] e (QQ tp e it a) where
 mem:=by simp
 obj:=λk h st c hc=>by
  obtain⟨old,s1,s2⟩:=st;simp only[Aw,Ca,Eu] at hc;rcases hc with rfl|rfl
  .exact⟨_,s1,λv y=>by cases y⟩
  .exact s2.there
 keep:=λk h h' st kp=>by
  obtain⟨old,s1,s2⟩:=st;exact⟨old,kp e (by simp) _ s1,s2.keep λo q=>kp it (by simp) o q⟩
 item:=by
  intro X hP hw hK hc k pins s σ H E Iv hf st hg;subst hP hw hK;obtain⟨old,s1,s2⟩:=st;obtain⟨xs,x,qa,hx⟩:=hg;obtain⟨ia,ra,ha⟩:=qa.at Iv;obtain⟨u,hu,ru⟩:=ra.get hx;have hT:s.TypeIs (.ref e) "enumerate":=⟨_,s1,rfl⟩;unfold Mk;refine Ad (Jb (Dy (name:=Fz "__next__") hT Kf (Dz Kf hT Tx
   (ZN s1 s2 ha (by simpa using hu) ne λh' a1 a2 a3 a4 a5=>Ak ?_) (Ss _))))
  refine⟨_,rfl,wpAny_letOwnedTupleGo_enum (s:={ s with heap:=h',toks:=s.toks+1 }) a1 λh2 b1 b2=>?_⟩
  have up:∀ c o,c≠e->h'.get? c=Ab o->h2.get? c=Ab o:=λc o n q=>(b2.2 c n).trans q;have el:e<s.heap.objs.size:=Ax s1;have T2:Im h2 s.heap.objs.size (.int k s.toks) u:=up _ _ (Gv el) a3;have st2:QQ tp e it a (k+1) h2:=⟨u,b1,a2.keep λo q=>up _ o ne.symm q⟩;refine⟨.ref s.heap.objs.size,upd H s.heap.objs.size (.tup [.int k,x]),?_,rfl,⟨_,x,rfl,Iv.hok.fresh (AT _),rfl,λzs qz=>by rw[qz.inj Iv qa];exact hx⟩,st2,λc hc=>?_⟩
  .have:=Inv.turnLay (fp:=[e,it]) (its:=[.int k s.toks,u]) (h':=h2) (xs:=[.int k,x]) Iv hf (λc o hc q=>by
    simp only[Aw,Ca,Eu,Sh] at hc;exact up c o hc.1 (a5 c o hc.1 hc.2 q)) (λc hc=>by
    obtain⟨old',t1,t2⟩:=st2;simp only[Aw,Ca,Eu] at hc;rcases hc with rfl|rfl
    .exact⟨_,t1⟩
    .obtain⟨o,q,_⟩:=t2.there;exact⟨o,q⟩) (AT _) (.cons ⟨_,rfl⟩ (.cons ru .nil)) ⟨_,T2,rfl,_,rfl⟩ (by show 2<=sizeLine;decide)
   exact this.tok (s.toks+1)
  .have hn:=(hf c hc).1
   rw[qJ ?_]
   .exact hn
   .rintro rfl
    obtain⟨o,q,_⟩:∃ o,s.heap.get? s.heap.objs.size=Ab o/\Kl:=by
     simp only[Aw,Ca,Eu] at hc;rcases hc with z|z
     .exact⟨_,z▸s1,trivial⟩
     .obtain⟨o,e',_⟩:=s2.there;exact⟨o,z▸e',trivial⟩
    exact absurd (Ax q) (Dp _)
 done:=by
  intro X hP hw hK hc k pins s σ H E Iv hf st hg;subst hP hw hK;obtain⟨old,s1,s2⟩:=st;obtain⟨xs,qa,hend⟩:=hg;obtain⟨ia,ra,ha⟩:=qa.at Iv;have hT:s.TypeIs (.ref e) "enumerate":=⟨_,s1,rfl⟩;have l1:=ra.length;unfold Mk;refine Ad (Jb (Dy (name:=Fz "__next__") hT Kf (Dz Kf hT Tx ?_ (Ss _))));show Ap _ _ (field (.ref e) 2 >>= _) _ _ _;refine Ad (Du s1 rfl (x:=.ref it) rfl (Ad (uR (Iv.ok.hd hc) s2 ha (by simp;omega) λh' x kp hx'=>?_)))
  obtain⟨o,ho,hcl⟩:=hx';refine Ad (Nv (T:="StopIteration") (b:=true) ⟨o,ho,hcl⟩ Va (Ak ⟨rfl,Inv.turnL (fp:=[e,it]) Iv hf λc o hc q=>?_⟩));simp only[Aw,Ca,Eu,Sh] at hc;exact kp c o hc.2 q
 self:=λ_ _ _ _ _ st h=>by
  obtain⟨old,s1,_⟩:=st;exact Yk s1 h
def yI (xs:Aa D):Aa D:=xs.mapIdx λi x=>D.tup [.int i,x]
def K0 (ds:Aa D):Al (Aa D):=match ds with
 |[.tup xs]=>Ab (yI xs)
 |[.lst xs]=>Ab (yI xs)
 |_=>none
def dW (f:DA):DI:=λenv S=>(f env S).bind λds S1=>vM (K0 ds) S1
theorem ZM (xs:Aa D)(i:Ai):(yI xs)[i]? = (xs[i]?).map λx=>D.tup [.int i,x]:=by
 unfold yI;rw[List.getElem?_mapIdx]
theorem p9 (xs:Aa D):(yI xs).length=xs.length:=by simp[yI]
theorem VO {K:Aj}{P:Hp}{a:Af}{xs:Aa D}(qa:Sq tp K P a vs)(ta:qD K P α xs vs):ItD K (Ite tp K a) P α (yI xs) where
 go:=λi H P1 α1 S hi r e _=>by
  rw[p9] at hi;have h1:i<vs.length:=by rw[<- ta.length];omega
  exact⟨vs,vs[i],qa.mono (e.trans r.sub),by simp⟩
 yld:=λi H x H' P1 α1 S hi r e e2 y=>by
  obtain⟨T,u,rfl,hT,rfl,hu⟩:=y;rw[p9] at hi;obtain⟨v1,z1,p1⟩:=ta.get (An hi);have eu:=hu vs (qa.mono (e.trans r.sub));rw[z1] at eu;cases eu;obtain⟨r1,s1⟩:=r.pure (o:=.tup [.int i,u]) hT;refine⟨_,.tup [.int i,xs[i]],?_,r1,s1,?_⟩
  .rw[ZM,An hi];rfl
  .exact nV (.of qQ) (.cons (by simp only[Rep]) (.cons (Rep.mono (e.trans s1) e2 _ _ p1) .nil))
 stop:=λi H P1 α1 S hi r e _=>by
  rw[p9] at hi;have l1:=ta.length;exact⟨vs,qa.mono (e.trans r.sub),by omega⟩
section
variable {X:Cx}{e1:Br}{elts:Aa Br}{x1:Ai}{tpos:Ex}{f:DA}{p pos:Ex}
theorem Sq.obj {pins:Aa (Af × Ci)}{σ:_L.St}{H:Hp}{s:Ah}{a:Af}{xs:Aa V}(I:Inv X pins σ H s)(q:Sq tp X.K H a xs):∃ its:Aa Ac,qH xs its/\∃ n dct sl,s.heap.get? a=Ab { cls:=.type (if tp then "tuple" else "list"),dict:=dct,data:=.seq its.toArray n,slots:=sl }:=by
 obtain⟨its,rv,h⟩:=q.at I;refine⟨its,rv,?_⟩;cases tp with
 |true =>
  obtain⟨o,ho,hc,n,hd⟩:=h;obtain⟨c,d,dt,sl⟩:=o;dsimp only at hc hd;subst hc;subst hd;exact⟨n,_,_,ho⟩
 |false =>
  obtain⟨o,ho,hc,n,hd⟩:=h;obtain⟨c,d,dt,sl⟩:=o;dsimp only at hc hd;subst hc;subst hd;exact⟨n,_,_,ho⟩
theorem cV {pins:Aa (Af × Ci)}{σ:_L.St}{H P:Hp}{s:Ah}{a:Af}{xs:Aa D}(I:Inv X pins σ H s)(r:Rel X.K H P α S)(qa:Sq tp X.K P a vs)(ta:qD X.K P α xs vs)
  (q:OkI X P α R (yI xs) S):Ap (As X.prog X.w) X.A (call (.type "enumerate") [.ref a]) (λv s1=>Ap (As X.prog X.w) X.A (Nl v) (PIE X pins σ (.Tuple elts x1 tpos) R) X.xe s1) X.xe s:=by
 obtain⟨ia,ra,ha⟩:=Sq.obj I (qa.mono r.sub);refine Z2 (tp:=tp) ha λh' z1 z2 z7=>?_;refine Yk (s:={ s with heap:=h' }) z1 ?_
 refine⟨_,[s.heap.objs.size+1,s.heap.objs.size],_,_,H,rfl,I.kept (t':=s.toks) z7,WZ (tp:=tp) (a:=a) (by intro z;simp at z),⟨_,z1,z2⟩,λc hc=>?_,q _ _ P α r (qF.refl _) (Bh _) (VO qa ta)⟩
 have hl:s.heap.objs.size<=c:=by
  simp only[Aw,Ca,Eu] at hc;rcases hc with rfl|rfl <;> simp
 exact I.fpOk hl (I.hok.fresh hl)
theorem tM:Gb "enumerate" = Ab (.type "enumerate"):=by decide +kernel
theorem V8 (h:K0 ds=Ab its):∃ d xs,ds=[d]/\ItV d xs/\its=yI xs:=by
 cases ds with
 |nil=>exact nn h
 |cons d ds =>
  cases ds with
  |cons _ _=>cases d <;> exact nn h
  |nil =>
   cases d with
   |tup xs=>exact⟨_,xs,rfl,.tup rfl,(Co h).symm⟩
   |lst xs=>exact⟨_,xs,rfl,.lst rfl,(Co h).symm⟩
   |_=>exact nn h
theorem PJ (hg:Gl X "enumerate")(hm:X.mg "enumerate" = none)(ha:PA X [e1] (tDA X f))(hs:Bl [e1] X.env=(false,eval e1 X.env)::Bl [] X.env:=by rfl)(hpl:(Ge pos (Bl [] X.env)).any (·.1)=false:=by rfl) :
  PI X (.Tuple elts x1 tpos) (.Call (.Name "enumerate" p) [e1] [] pos) (tDI X (dW f)):=by
 intro pins s σ H R I h;obtain⟨P,α,env,S,r,re,af⟩:=h;refine Call_ (yE I hg hm tM (Hi (thn (wK ha I r re af pos) λus s1 ⟨vs,H1,P1,α1,ds,S1,I1,rv,r1,re1,rp,e1,e2,af1⟩=>?_) hs hpl));obtain⟨its,hi,q⟩:=vN af1;obtain⟨d,xs,rfl,hd,rfl⟩:=V8 hi;obtain⟨v,u,rfl,rfl,p1,q1⟩:=wH rp rv;cases hd with
 |tup ed =>
  subst ed;simp only[Rep] at p1;obtain⟨a,va,rfl,qa,ta⟩:=p1;cases (show u=Bs a from q1)
  exact cV (tp:=true) I1 r1 qa ta (q.base e1 e2)
 |lst ed =>
  subst ed;simp only[Rep] at p1;obtain⟨a,va,rfl,qa,ta⟩:=p1;cases (show u=Bs a from q1)
  exact cV (tp:=false) I1 r1 qa.l ta (q.base e1 e2)
end
section
variable {X:Cx}
def qAL:D->Aa D->Sto->Res D:=λa ds S=>match a,ds with
 |.loc n,[i,x]=>match S[n]? with
  |some (.dct kvs)=>match yO i with
   |some k=>match xA kvs k with
    |some d=>.ok d S
    |none=>if kvs.length<lim then .ok x (S.set n (.dct (yB kvs k x))) else .bad
   |none=>.bad
  |_=>.bad
 |_,_=>.bad
def xV:Aa D->Al (Aa Am)
 |[]=>Ab []
 |.int i::r=>(xV r).map (i::·)
 |_::_=>none
theorem lQ (ns:Aa Am):xV (ns.map D.int)=Ab ns:=by
 induction ns with
 |nil=>rfl
 |cons n r ih=>exact congrArg (Option.map (n::·)) ih
theorem uO:∀ {ds:Aa D} {ns:Aa Am},xV ds=Ab ns->ds=ns.map D.int
 |[],ns,h=>by cases h;rfl
 |d::r,ns,h=>by
  cases d with
  |int i =>
   obtain⟨m,h1,rfl⟩:=De.mp (show (xV r).map (i::·)=Ab ns from h)
   rw[uO h1];rfl
  |_=>exact nn h
theorem yW {K:Aj}{P:Hp}:∀ {ns:Aa Am} {vs:Aa V},qD K P α (ns.map D.int) vs->vs=ns.map V.int
 |[],vs,r=>by rw[r.nil_inv];rfl
 |n::ns,vs,r=>by
  obtain⟨w,ws,rfl,p,t⟩:=r.cons_inv;simp only[Rep] at p;rw[p,yW t];rfl
def tW:G2:=λa b S=>match a,b with
 |.tup xs,.tup ys=>match xV xs,xV ys with
  |some ns,Ab ms=>.ok (.bl (_H.lexLt ns ms)) S
  |_,_=>.bad
 |_,_=>gLt a b S
end
section
variable {X:Cx}
theorem c5 {pins:Aa (Af × Ci)}{σ:_L.St}{H P:Hp}{s:Ah}{xs:Aa D}{v:V}{vv:Ac}{ns:Aa Am}(I:Inv X pins σ H s)(r:Rel X.K H P α S)(rv:qI v vv)(p:Rep X.K P α (.tup xs) v)(h:xV xs=Ab ns) :
  ∃ a its,vv=.ref a/\Nj s.heap a (Mh its)/\Ji its ns:=by
 have:=uO h;subst this;obtain⟨a,vs,its,rfl,q1,t1,rv1,h1,l1,_⟩:=yH I r p;have:=yW t1;subst this;exact⟨a,its,rv,h1,by simpa using kW rv1⟩
set_option tactic.hygienic true in
theorem SB (hu:X.A.units<Dw):OpD X (Cu .Lt) tW:=by
 intro pins σ H s P α S v u vv uu a b Q I r rv ru pa pb af;unfold tW at af
 split at af
 .rename_i xs ys
  split at af
  .rename_i ns ms h1 h2
   obtain⟨a,its,rfl,t1,i1⟩:=c5 I r rv pa h1;obtain⟨b,its2,rfl,t2,i2⟩:=c5 I r ru pb h2;exact _H.lt_tupInts t1 t2 (by simpa using i1) (by simpa using i2) hu ⟨.bl _,H,I,rfl,xr af r (by simp only[Rep])⟩
  .exact Ao af
 .exact KN pins σ H s P α S v u vv uu a b Q I r rv ru pa pb af
end
end _D
namespace _D
open PySem PySem.Spec PyProof.Rows _L PySem.SeqAt
section
variable {X:Cx}{pins:Aa (Af × Ci)}{σ : _L.St}{H P:Hp}{α : Aa Af}{S:Sto}{s:Ah}
inductive Same2 (X:Cx)(P:Hp)(α : Aa Af)(d d':D):Prop
 |eq (h:d=d')
 |tt (xs ys:Aa D) (its:Aa Ac) (ed:d=.tup xs) (ed':d'=.tup ys) (q:Seqs X P α xs ys its its)
 |ll (xs ys:Aa D) (its:Aa Ac) (ed:d=.lst xs) (ed':d'=.lst ys) (q:Seqs X P α xs ys its its)
theorem KY {d d':D}{u:Ac}(k1:Kd X P α s d u)(k2:Kd X P α s d' u):Same2 X P α d d':=by
 cases k1 with
 |non=>cases k2;exact .eq rfl
 |bl b=>cases k2;exact .eq rfl
 |int i t=>cases k2;exact .eq rfl
 |str x t=>cases k2;exact .eq rfl
 |tup a xs its vs rp rv h q =>
  cases k2 with
  |tup _ ys its2 ws rp2 rv2 h2 q2 =>
   cases n6 h h2;exact .tt xs ys its rfl rfl ⟨vs,ws,rp,rv,rp2,rv2⟩
  |lst _ ys its2 ws rp2 rv2 h2 q2=>exact(oM h h2).elim
 |lst a xs its vs rp rv h q =>
  cases k2 with
  |lst _ ys its2 ws rp2 rv2 h2 q2 =>
   cases aG h h2;exact .ll xs ys its rfl rfl ⟨vs,ws,rp,rv,rp2,rv2⟩
  |tup _ ys its2 ws rp2 rv2 h2 q2=>exact(oM h2 h).elim
theorem lI (I:Inv X pins σ H s)(r:Rel X.K H P α S){m:Ai}(ih:∀ (d d' e:D) (u:Ac),pl m d=true->pl m d'=true->Kd X P α s d u->Kd X P α s d' u->eqD d e=eqD d' e){xs ys zs:Aa D}{its:Aa Ac}(h1:xs.all (pl m)=true)(h2:ys.all (pl m)=true)(q:Seqs X P α xs ys its its):xE xs zs=xE ys zs:=by
 obtain⟨vs,ws,rp,rv,rp2,rv2⟩:=q;have l1:=rp.length.trans rv.length;have l2:=rp2.length.trans rv2.length;rw[wX,wX,l1,l2]
 congr 1
 have key:∀ j∈Cg (min its.length zs.length),eqD (xs.getD j .non) (zs.getD j .non)=eqD (ys.getD j .non) (zs.getD j .non):=λj hj=>by
  have hj':=Ei.mp hj;have hj:j<its.toArray.size:=by rw[Ay];omega
  obtain⟨w1,y1,z1,m1⟩:=wC rp rv hj;obtain⟨w2,y2,z2,m2⟩:=wC rp2 rv2 hj;exact ih _ _ _ _ (xW h1 m1) (xW h2 m2) (yJ I r (xW h1 m1) y1 z1) (yJ I r (xW h2 m2) y2 z2)
 rw[Tz,Be,Be];exact⟨λh j hj=>(key j hj)▸h j hj,λh j hj=>(key j hj).symm▸h j hj⟩
theorem PY (I:Inv X pins σ H s)(r:Rel X.K H P α S):∀ (n:Ai) (d d' e:D) (u:Ac),pl n d=true->pl n d'=true->Kd X P α s d u->Kd X P α s d' u->eqD d e=eqD d' e:=by
 intro n
 induction n with
 |zero =>
  intro d d' e u h1 h2 k1 k2;cases KY k1 k2 with
  |eq h=>rw[h]
  |tt _ _ _ ed=>subst ed;exact Cr h1
  |ll _ _ _ ed=>subst ed;exact Cr h1
 |succ m ih =>
  intro d d' e u h1 h2 k1 k2;cases KY k1 k2 with
  |eq h=>rw[h]
  |tt xs ys its ed ed' q =>
   subst ed ed';cases e with
   |tup zs=>exact lI I r ih h1 h2 q
   |_=>rfl
  |ll xs ys its ed ed' q =>
   subst ed ed';cases e with
   |lst zs=>exact lI I r ih h1 h2 q
   |_=>rfl
open Classical in
def eOf (X:Cx)(P:Hp)(α : Aa Af)(s:Ah)(xs:Aa D)(d:D)(y:Ac):Ar:=if h:∃ z,z∈xs/\Kd X P α s z y then eqD (Ky h) d else false
theorem ZL (I:Inv X pins σ H s)(r:Rel X.K H P α S){n:Ai}{xs:Aa D}{vs:Aa V}{its:Aa Ac}{d:D}(h:xs.all (pl n)=true)(rp:qD X.K P α xs vs)(rv:qH vs its){j:Ai}(hj:j<its.length):∃ z,z∈xs/\Kd X P α s z its[j]/\eOf X P α s xs d its[j]=eqD z d/\eqD z d=eqD (xs.getD j .non) d:=by
 obtain⟨w,y,z,m⟩:=wC rp rv (j:=j) (by rw[Ay];exact hj)
 have k:=yJ I r (xW h m) y z;have ex:∃ z,z∈xs/\Kd X P α s z its[j]:=⟨_,m,k⟩;have hs:=Ke ex;refine⟨Ky ex,hs.1,hs.2,?_,PY I r n _ _ d _ (xW h hs.1) (xW h m) hs.2 k⟩;unfold eOf;rw[dif_pos ex]
theorem PV (I:Inv X pins σ H s)(r:Rel X.K H P α S){n:Ai}{xs:Aa D}{vs:Aa V}{its:Aa Ac}{d:D}(h:xs.all (pl n)=true)(rp:qD X.K P α xs vs)(rv:qH vs its):its.map (eOf X P α s xs d)=xs.map λx=>eqD x d:=by
 have l:=rp.length.trans rv.length;refine Nw (by rw[Aq,Aq,l]) λj h1 h2=>?_
 rw[Aq] at h1 h2;rw[Ny,Ny];obtain⟨z,_,_,e1,e2⟩:=ZL (d:=d) I r h rp rv h1;rw[e1,e2];simp[Gs,h2]
theorem NT (I:Inv X pins σ H s)(r:Rel X.K H P α S){n:Ai}{A:Bo}{xs:Aa D}{vs:Aa V}{its:Aa Ac}{d:D}{v:V}{u:Ac}(hu:A.units+n<Dw)(h:xs.all (pl n)=true)(hd:pl n d=true)(rp:qD X.K P α xs vs)(rv:qH vs its)(p:Rep X.K P α d v)(q:qI v u):∀ y,y∈its.toArray->wE A s y u (eOf X P α s xs d y):=λy hy=>by
 obtain⟨j,hj,rfl⟩:=Cd.mp (show y∈its by simpa using hy)
 obtain⟨z,hz,k,e1,_⟩:=ZL (d:=d) I r h rp rv hj;rw[e1];exact(rE I r n A z d _ u hu (xW h hz) hd k (yJ I r hd p q)).eq
end
section
variable {X:Cx}
def jW:D->Aa D->Sto->Res D:=λa ds S=>match a,ds with
 |.lst xs,[d]=>if xs.all (pl zQ)&&pl zQ d then .ok (.int (xs.countP (λx=>eqD x d):Ai)) S else .bad
 |_,_=>.bad
inductive CpV (a:D)(ds:Aa D)(S:Sto):Prop
 |bad (e:jW a ds S=.bad)
 |of (xs:Aa D) (d:D) (ea:a=.lst xs) (ed:ds=[d])
theorem cpV (a:D)(ds:Aa D)(S:Sto):CpV a ds S:=by
 cases a with
 |lst xs =>
  cases ds with
  |nil=>exact .bad rfl
  |cons d ds =>
   cases ds with
   |cons _ _=>exact .bad rfl
   |nil=>exact .of xs d rfl rfl
 |_=>exact .bad rfl
theorem gT {β : Type}(f:β->Ar)(l:Aa β) : (l.map f).countP id=l.countP f:=by
 rw[Om];rfl
theorem XA (hu:X.A.units+64<Dw):MtD X "list.count" jW:=by
 intro pins σ H s P α S v vv vs us a ds Q I r rv p rvs rps af;cases cpV a ds S with
 |bad e=>rw[e] at af;exact Ao af
 |of xs d ea ed =>
  subst ea ed;obtain⟨hc,af1⟩:=xB (X:=X) af;clear af;have hc':=Fc.mp hc;obtain⟨vx,ux,rfl,rfl,px,qx⟩:=wH rps rvs;obtain⟨b,ws,its,n,rfl,sq,t,rvi,ht,hl,_⟩:=yF I r p;cases (show vv=Bs b from rv)
  refine Lh Mg ⟨_,ht,rfl⟩ Rm (Qy _ _) (Rn b its.toArray n none #[] ux (eOf X P α s xs d)) ⟨ht,NT I r (n:=zQ) (by show X.A.units+1+zQ<Dw;unfold zQ;omega) hc'.1 hc'.2 t rvi px qx,?_⟩
  refine⟨.int _,H,I.tok _,⟨_,rfl⟩,?_⟩;have e:=congrArg (λl=>l.countP id) (PV (d:=d) I r hc'.1 t rvi);have e':its.countP (eOf X P α s xs d)=xs.countP λx=>eqD x d:=(gT _ _).symm.trans (e.trans (gT _ _));rw[show its.toArray.toList=its from rfl,e']
  exact xr af1 r (by simp only[Rep])
end
end _D
namespace _D
open PySem PySem.Spec PyProof.Rows _L
variable {α:Aa Af}{P:Hp}
def qAW (f:DE):DI:=λenv S=>(f env S).bind λd S1=>match d with
 |.loc n=>match S1[n]? with
  |some (.dct kvs)=>.ok (kvs.map (·.2)) (S1.set n .dead)
  |_=>.bad
 |_=>.bad
section
variable {X:Cx}{tg o:Br}{fo:DE}{apos cpos:Ex}
theorem Y2 {S:Sto}{n:Ai}{kvs:Aa (Key × D)}(h:S[n]? = Ab (.dct kvs)):tyD (.loc n) S=Ab "dict":=by
 show (match S[n]? with|some (.lst _)=>Ab "list" | some (.dct _)=>Ab "dict" | _=>none)=_
 rw[h]
end
section
variable {X:Cx}
def b9:G2:=λa b S=>match a,b with
 |.lst xs,.int k=>if 0<=k/\k<2 ^ 62/\xs.length*k.toNat<=lim then .ok (.lst (Cw k.toNat xs).flatten) S else .bad
 |_,_=>zU a b S
theorem eU {K:Aj}{ds:Aa D}{vs:Aa V}(r:qD K P α ds vs):∀ k:Ai,qD K P α (Cw k ds).flatten (Cw k vs).flatten
 |0=>by simpa using qD.nil
 |k+1=>by
  rw[Gq,Gq,Hv,Hv];exact r.append (eU r k)
inductive MulV (a b:D)(S:Sto):Prop
 |old (e:b9 a b S=zU a b S)
 |of (xs:Aa D) (k:Am) (ea:a=.lst xs) (eb:b=.int k)
theorem OM (a b:D)(S:Sto):MulV a b S:=by
 cases a with
 |lst xs=>cases b with
  |int k=>exact .of xs k rfl rfl
  |_=>exact .old rfl
 |_=>exact .old rfl
theorem BZ:OpD X (Ek .Mult) b9:=by
 intro pins σ H s P α S v u vv uu a b Q I r rv ru pa pb af;cases OM a b S with
 |old e =>
  rw[e] at af;exact aY pins σ H s P α S v u vv uu a b Q I r rv ru pa pb af
 |of xs k ea eb =>
  subst ea eb;obtain⟨hk,af⟩:=xB (X:=X) af;obtain⟨h1,h2,hz⟩:=hk;obtain⟨l,vs,its,n,rfl,q1,t1,rv1,e,l1,_⟩:=yF I r pa;cases (show vv=Bs l from rv)
  have:=xG pb;subst this;obtain⟨t,rfl⟩:=ru;have hl:its.length=vs.length:=rv1.length.symm;have hlen:its.toArray.size*k.toNat<=sizeLine:=by rw[Ay,<- l1,<- zM];exact hz
  have hcap:¬ its.toArray.size*k.toNat>(2 ^ 63-1)/8:=by
   have:(sizeLine:Ai)<=(2 ^ 63-1)/8:=by decide
   omega
  have hfit:¬ (!Builtin.List.listFitsIndex k)=true:=by
   rw[fitsIndex_both om om];exact Gc
  have hlong:¬ Ma (its.toArray.size*k.toNat)=true:=by
   rw[UD hlen];exact Gc
  have hnew:v4 (λx1 x2=>x1++x2) #[] (Cw (if its.toArray.isEmpty=true then 0 else k.toNat) its.toArray)=(Cw k.toNat its).flatten.toArray:=by
   have f0:∀ m:Ai,v4 (λx1 x2=>x1++x2) #[] (Cw m its.toArray)=(Cw m its).flatten.toArray:=λm=>by
    have:=lN its m [];rw[Hn] at this;exact this
   rw[f0];cases its with
   |nil=>simp
   |cons a r'=>rw[Bc (by simp)]
  refine wpAny_binaryOp_repeat_ref (T:="list") (U:="int") (by decide) ⟨_,e,rfl⟩ (λs'=>u8 s' k t) noFill_list_mul F.fills_int_mul Zz repeat_list F.slot_int_index.lookup
   (Lh Zz (u8 s k t) F.entry_int_rmul (F.args_int_rmul_2 _ _) (int___rmul___int_list k t l its.toArray n)
    ⟨e,rfl,⟨_,e,rfl⟩,Lh F.slot_list_mul ⟨_,e,rfl⟩ F.entry_list_mul (F.args_list_mul_2 _ _) (AutoListH.list___mul___list_int_3 l its.toArray n k t hfit hcap hlong) ⟨e,?_⟩⟩)
  rw[hnew];exact fO I r (eU t1 k.toNat) (rv1.rep k.toNat) (by rw[BM,Nat.mul_comm];exact hz) af
theorem YF:Gb "set" = Ab (.type "set"):=by decide +kernel
variable {e:Br}{fa:DE}{p1 p2 pos1 pos2:Ex}
end
structure QI2 (X:Cx)(tg it:Br)(f:DI2):Prop where
 get:PI X tg it (tDI2 X f)
structure QK (Y:Cx)(step:Ac->Oa Qm)(k:DK):Prop where
 get:PK Y step k
section
variable {X Y:Cx}{tg it e o elt iter ie:Br}{es ifs rest:Aa Br}{fa fo fe fi:DE}{fA:DA}{fI:DI}{f2:DI2}{g:DG}{t:DT}{kk:DK}{p pos:Ex}{n k:Ai}{x:Av}{cm:Ar}{F:DF}{f:DS}{gens grest:Aa Et}{scope:Em}{N':Aa Av}{cap:Aa (Al Ai)}{mm:Ar}
theorem W9 (h:QI X tg it fI):QI2 X tg it (wR fI):=⟨PL h.1⟩
theorem RI (h:QE X e fa):QI2 X tg e (dIt fa):=⟨HD h.1⟩
theorem FL {e1:Br}{elts:Aa Br}{x1:Ai}{tpos:Ex}(hg:Gl X "enumerate")(hm:X.mg "enumerate" = none)(ha:QA X [e1] fA)(hs:Bl [e1] X.env=(false,eval e1 X.env)::Bl [] X.env:=by rfl)(hpl:(Ge pos (Bl [] X.env)).any (·.1)=false:=by rfl) :
  QI X (.Tuple elts x1 tpos) (.Call (.Name "enumerate" p) [e1] [] pos) (dW fA):=⟨PJ hg hm ha.1 hs hpl⟩
theorem i8 (hx:Y.xe=λ_ _=>Fh)(hlast:gens[k+1]? = none)(he:QE Y elt fe):QK Y (λacc=>zP elt gens scope pos k acc Y.env) (zG fe):=⟨F8 hx hlast he.1⟩
theorem AA (hc:Y.calm=true)(hx:Y.xe=λ_ _=>Fh)(hgk:gens[k+1]? = Ab ⟨tg,iter,ifs,0⟩)(has:∀ g',gens[k+1+1]? = Ab g'->g'.is_async=0)(hi:QI2 Y tg iter f2)(hg:QG Y tg g)(ht:QTs Y ifs t)(he:QK Y (λacc=>zP elt gens scope pos (k+1) acc Y.env) kk)(hs:∀ x,Fb iter Y.env x=pure x) :
  QK Y (λacc=>zP elt gens scope pos k acc Y.env) (kIn f2 g t kk):=⟨A5 hc hx hgk has hi.1 hg.1 ht.1 he.1 hs⟩
theorem US (hc:X.calm=true)(S:CompSc X.env.scope X.N scope N' cap)(hi:QI2 X tg iter f2)(hg:∀ cl C ex s₀ H₀,QG (qY X N' scope cl C ex s₀ H₀) tg g)(ht:∀ cl C ex s₀ H₀,QTs (qY X N' scope cl C ex s₀ H₀) ifs t)
  (has:∀ g',(⟨tg,iter,ifs,0⟩::grest:Aa Et)[0+1]? = Ab g'->g'.is_async=0)
  (he:∀ cl C ex s₀ H₀,QK (qY X N' scope cl C ex s₀ H₀) (λacc=>zP elt (⟨tg,iter,ifs,0⟩::grest) scope pos 0 acc (qY X N' scope cl C ex s₀ H₀).env) kk) (hs:∀ x,Fb iter X.env x=pure x) :
  QE X (.ListComp elt (⟨tg,iter,ifs,0⟩::grest) scope pos) (zD mm cap f2 g t kk):=
 ⟨YV hc S hi.1 (λcl C ex s H=>(hg cl C ex s H).1) (λcl C ex s H=>(ht cl C ex s H).1) has (λcl C ex s H=>(he cl C ex s H).1) hs⟩
theorem UV {m:Ai}{y:Av}{py spos:Ex}(hc:X.calm=true)(hN:X.N.Nodup)(S:CompSc X.env.scope X.N scope N' cap)(hi:QI2 X tg iter f2)(hg:∀ cl C ex s₀ H₀,QG (qY X N' scope cl C ex s₀ H₀) tg g)(ht:∀ cl C ex s₀ H₀,QTs (qY X N' scope cl C ex s₀ H₀) ifs t)
  (has:∀ g',(⟨tg,iter,ifs,0⟩::grest:Aa Et)[0+1]? = Ab g'->g'.is_async=0)
  (he:∀ cl C ex s₀ H₀,QK (qY X N' scope cl C ex s₀ H₀) (λacc=>zP elt (⟨tg,iter,ifs,0⟩::grest) scope pos 0 acc (qY X N' scope cl C ex s₀ H₀).env) kk) (hy:X.N[m]? = Ab y) (hyl:Loc X.env.scope y) (hf:X.fn y=true\/X.env.scope.names.lookup y=Ab .local)
  (hsw:Mw (.ListComp elt (⟨tg,iter,ifs,0⟩::grest) scope pos) (Ab (.Name y py)) spos.line X.env=pure true) (hs:∀ x,Fb iter X.env x=pure x):QS X (.Assign [.Name y py] (.ListComp elt (⟨tg,iter,ifs,0⟩::grest) scope pos) spos) (qV (zD mm cap f2 g t kk) (gNm m)):=
 ⟨V1 hc hN S hi.1 (λcl C ex s H=>(hg cl C ex s H).1) (λcl C ex s H=>(ht cl C ex s H).1) has (λcl C ex s H=>(he cl C ex s H).1) hy hyl hf hsw hs⟩
theorem IB (hr:RoomC cm k X.A):ZOp X (Cu .Lt) tW:=⟨SB (by have:=hu1 hr;omega)⟩
theorem EL:ZOp X (Ek .Mult) b9:=⟨BZ⟩
end
def xU (H:Hp):Aa (Af × HO)->Hp
 |[]=>H
 |p::ps=>xU (upd H p.1 p.2) ps
theorem bM {b:Af}:∀ {L:Aa (Af × HO)} {H:Hp},b ∉ L.map (·.1)->xU H L b=H b
 |[],_,_=>rfl
 |p::ps,H,h=>by
  simp only[Ee,Aw,Sh] at h;show xU (upd H p.1 p.2) ps b=H b;rw[bM h.2,qJ h.1]
theorem c8 {a:Af}{o:HO}:∀ {L:Aa (Af × HO)} {H:Hp},(L.map (·.1)).Nodup->(a,o)∈L->xU H L a=Ab o
 |p::ps,H,nd,h=>by
  simp only[Ee,Jw] at nd;show xU (upd H p.1 p.2) ps a=Ab o;rcases Aw.mp h with rfl|h
  .rw[bM nd.1,qQ]
  .exact c8 nd.2 h
theorem c7 {b:Af}{u:HO}:∀ {L:Aa (Af × HO)} {H:Hp},xU H L b=Ab u->(b,u)∈L\/H b=Ab u
 |[],_,h=>.inr h
 |p::ps,H,h=>by
  rcases c7 (L:=ps) (H:=upd H p.1 p.2) h with h|h
  .exact .inl (Cc _ h)
  .by_cases hb:b=p.1
   .subst hb
    rw[qQ] at h;cases h;exact .inl (Cz ..)
   .rw[qJ hb] at h
    exact .inr h
section
variable {K:Aj}
theorem Rel.pureL {S:Sto}:∀ {L:Aa (Af × HO)} {H P:Hp},(∀ p∈L,H p.1=none)->(L.map (·.1)).Nodup->Rel K H P α S->Rel K (xU H L) (xU P L) α S/\qF P (xU P L)
 |[],_,_,_,_,r=>⟨r,qF.refl _⟩
 |p::ps,H,P,hn,nd,r=>by
  simp only[Ee,Jw] at nd;obtain⟨r1,e1⟩:=r.pure (o:=p.2) (hn p (Cz ..));obtain⟨r2,e2⟩:=Rel.pureL (L:=ps) (λq hq=>by
   have:q.1≠p.1:=λe=>nd.1 (e▸Bz.mpr ⟨q,hq,rfl⟩);rw[qJ this];exact hn q (Cc _ hq)) nd.2 r1
  exact⟨r2,e1.trans e2⟩
end
section
variable {X:Cx}{pins:Aa (Af × Ci)}{σ : _L.St}{H:Hp}{s:Ah}
theorem Inv.laidL {L:Aa (Af × HO)}{h':Bj}{t':Ai}(I:Inv X pins σ H s)(k:∀ b u,s.heap.get? b=Ab u->h'.get? b=Ab u)(hp:∀ p∈L,s.heap.objs.size<=p.1)(new:∀ p∈L,z9 X.prog X.w (xU H L) h' p.1 p.2) :
  Inv X pins σ (xU H L) { s with heap:=h',toks:=t' }:=by
 have old:∀ b u,H b=Ab u->xU H L b=Ab u:=λb u e=>by
  rw[bM (L:=L)]
  .exact e
  .intro hb
   obtain⟨p,hp',rfl⟩:=Bz.mp hb;rw[I.hok.fresh (hp p hp')] at e;cases e
 have low:∀ b,b<s.heap.objs.size->xU H L b=H b:=λb hb=>bM λhm=>by
  obtain⟨p,hp',rfl⟩:=Bz.mp hm;exact absurd (Bm hb (hp p hp')) (Dp _)
 refine I.un ⟨λb u q _ _ _=>k b u q,λb u q _ _ _=>⟨u.slots,k b u q⟩,λb u q n _=>by rw[low b (Ax q)];exact n,λb u q _=>⟨u,k b u q⟩,λb xs q=>old b _ q,λb o xs q=>old b _ q,λb ps q=>⟨#[],by rw[old b _ q];simp⟩⟩ λb u e=>?_
 rcases c7 e with hm|hb
 .exact new (b,u) hm
 .exact(I.hok b u hb).stay (λc v _ q=>k c v q) (λc q=>old c _ q) λc xs q=>old c _ q
end
def kD:Key->D
 |.inl i=>.int i
 |.inr x=>.str x
theorem LD {K:Aj}(k:Key):Rep K P α (kD k) (kV k):=by
 cases k <;> simp only[kD,kV,Rep]
theorem HS {k:Key}{u:Ac}(h:kZ k u=true):qI (kV k) u:=by
 rcases zS h with⟨i,t,rfl,rfl⟩|⟨x,t,rfl,rfl⟩
 .exact⟨t,rfl⟩
 .exact⟨t,rfl⟩
def vH (as:Aa Af)(vs:Aa (Key × V)):Aa (Af × HO):=List.zipWith (λa p=>(a,HO.tup [kV p.1,p.2])) as vs
theorem hZ:∀ (as:Aa Af) (vs:Aa (Key × V)),as.length=vs.length->(vH as vs).map (·.1)=as
 |[],vs,h=>rfl
 |a::as,vs,h=>by
  cases vs with
  |nil=>exact Zv h
  |cons v vs=>exact congrArg (a::·) (hZ as vs (AaI h))
theorem c0:∀ {as:Aa Af} {vs:Aa (Key × V)} {p:Af × HO},p∈vH as vs->∃ (j:Ai) (q:Key × V),as[j]? = Ab p.1/\vs[j]? = Ab q/\p.2=HO.tup [kV q.1,q.2]
 |a::as,v::vs,p,h=>by
  rcases Aw.mp (show p∈(a,HO.tup [kV v.1,v.2])::vH as vs from h) with rfl|h
  .exact⟨0,v,rfl,rfl,rfl⟩
  .obtain⟨j,q,e1,e2,e3⟩:=c0 h
   exact⟨j+1,q,by simpa using e1,by simpa using e2,e3⟩
theorem dN {K:Aj}:∀ {as:Aa Af} {kvs:Aa (Key × D)} {vs:Aa (Key × V)},KVs K P α kvs vs->as.length=vs.length->(∀ p∈vH as vs,P p.1=Ab p.2)->qD K P α (kvs.map λp=>D.tup [kD p.1,p.2]) (as.map V.ref)
 |[],[],_,.nil,_,_=>.nil
 |a::as,_,_,.cons (a:=x) (b:=y) (l₁:=xs) (l₂:=ys) z t,hl,h=>by
  refine .cons ?_ (dN t (by simpa using hl) λp hp=>h p (Cc _ hp))
  have h0:=h (a,HO.tup [kV y.1,y.2]) (Cz ..);simp only[Rep];refine⟨a,[kV y.1,y.2],rfl,.inl (.inl h0),.cons ?_ (.cons z.2 .nil)⟩;rw[z.1];exact LD _
 |[],_::_,_,.cons _ _,hl,_=>by simp at hl
theorem mO {κ:Type}:∀ {vs:Aa (κ × V)} {us:Aa (κ × Ac)},KV vs us->∀ {j:Ai} {q:κ × V},vs[j]? = Ab q->∃ u,us[j]? = Ab (q.1,u)/\qI q.2 u
 |_,_,.nil,j,q,h=>by simp at h
 |_,_,.cons (a:=x) (b:=y) z t,j,q,h=>by
  cases j with
  |zero =>
   simp at h;subst h;exact⟨y.2,by simp;exact Zu z.1.symm rfl,z.2⟩
  |succ j =>
   obtain⟨u,e1,e2⟩:=mO t (j:=j) (q:=q) (by simpa using h)
   exact⟨u,by simpa using e1,e2⟩
theorem Y5 (as:Aa Af):qH (as.map V.ref) (as.map Bs):=by
 induction as with
 |nil=>exact .nil
 |cons a as ih=>exact .cons rfl ih
section
variable {X:Cx}{cm:Ar}{k:Ai}
theorem JM (hr:RoomC cm k X.A):ZMt X "list.count" jW:=⟨XA hr.units⟩
end
end _D
namespace _S
open PySem
variable {mask:Ai}{xs:Bn Ai}
def Rs (xs:Bn Ai):Prop:=xs.toList.Pairwise (· < ·)
theorem Rs.lt (h:Rs xs){a b:Ai}{x y:Ai}(hab:a<b)(ha:xs[a]? = Ab x)(hb:xs[b]? = Ab y):x<y:=by
 obtain⟨h1,e1⟩:=Dv.mp ha;obtain⟨h2,e2⟩:=Dv.mp hb;have:=Jc.mp h a b (by simpa using h1) (by simpa using h2) hab
 rw[<- e1,<- e2];simpa using this
theorem getD_some {i x d:Ai}(h:xs[i]? = Ab x):xs.getD i d=x:=by
 obtain⟨h1,e1⟩:=Dv.mp h;simp[Iu,h1,e1]
structure Bel (xs:Bn Ai)(j p:Ai):Prop where
 le:p<=xs.size
 lo:∀ i x,i<p->xs[i]? = Ab x->x<j
 hi:∀ i x,p<=i->xs[i]? = Ab x->j<=x
set_option tactic.hygienic true in
theorem f9 (h:Rs xs)(j:Ai):∀ (fuel lo hi:Ai),hi-lo<=fuel->lo<=hi->hi<=xs.size ->
  (∀ i x,i<lo->xs[i]? = Ab x->x<j)->(∀ i x,hi<=i->xs[i]? = Ab x->j<=x)->Bel xs j (Yl xs j fuel lo hi)
 |0,lo,hi,h1,h2,h3,h4,h5=>by
  have:lo=hi:=by omega
  subst this;exact⟨h3,h4,h5⟩
 |fuel+1,lo,hi,h1,h2,h3,h4,h5=>by
  unfold Yl;by_cases hlt:lo<hi
  .rw[Bb hlt]
   have hm:(lo+hi)/2<xs.size:=by omega
   have e:xs[(lo+hi)/2]? = Ab xs[(lo+hi)/2]:=Eb hm;simp only[getD_some e]
   split
   .rename_i hc
    refine f9 h j fuel _ hi (by omega) (by omega) h3 (λi x hi' ex=>?_) h5
    by_cases q:i=(lo+hi)/2
    .subst q;rw[e] at ex;cases ex;exact hc
    .exact Mf (h.lt (by omega) ex e) hc
   .rename_i hc
    refine f9 h j fuel lo _ (by omega) (by omega) (by omega) h4 (λi x hi' ex=>?_)
    by_cases q:i=(lo+hi)/2
    .subst q;rw[e] at ex;cases ex;omega
    .have:=h.lt (show (lo+hi)/2<i by omega) e ex
     omega
  .rw[Bc hlt]
   have:lo=hi:=by omega
   subst this;exact⟨h3,h4,h5⟩
theorem uI (h:Rs xs)(j:Ai):Bel xs j (Cf xs j):=
 f9 h j _ _ _ (by omega) (by omega) (AT _) (λi x hi=>by omega) λi x hi ex=>by
  have:=(Dv.mp ex).1;omega
theorem f7 (h:Rs xs){i j:Ai}(e:xs[i]? = Ab j):Cf xs j=i:=by
 have b:=uI h j;have hi:=(Dv.mp e).1;by_cases h1:Cf xs j<i
 .have e2:xs[Cf xs j]? = Ab xs[Cf xs j]:=Eb (by omega)
  have:=h.lt h1 e2 e;have:=b.hi _ _ (AT _) e2;omega
 .by_cases h2:i<Cf xs j
  .have:=b.lo _ _ h2 e
   omega
  .omega
theorem o7 (h:Rs xs){i j:Ai}(e:xs[i]? = Ab j):Cf xs (j+1)=i+1:=by
 have b:=uI h (j+1);have hi:=(Dv.mp e).1;have h1:i<Cf xs (j+1):=by
  apply Fv;intro q;have:=b.hi _ _ (by omega) e
  omega
 by_cases h2:i+1<Cf xs (j+1)
 .have hz:i+1<xs.size:=by have:=b.le;omega
  have e2:xs[i+1]? = Ab xs[i+1]:=Eb hz;have:=b.lo _ _ h2 e2;have:=h.lt (Ib i) e e2;omega
 .omega
theorem o8 (h:Rs xs):Cf xs 0=0:=by
 have b:=uI h 0;apply Fv;intro q;have hz:0<xs.size:=by have:=b.le;omega
 have e2:xs[0]? = Ab xs[0]:=Eb hz;have:=b.lo _ _ (by omega) e2
 omega
structure Tb (t:Fw):Prop where
 rs:Rs t.place
 dm:t.dummies=#[]
theorem a9 (j:Ai):Xr #[] j=false:=by simp[Xr]
theorem dE {t:Fw}(T:Tb t){i j:Ai}(e:t.place[i]? = Ab j):t.slot j=.live i:=by
 unfold AaA;simp only[f7 T.rs e,e];simp
theorem QC {t:Fw}(T:Tb t)(j:Ai):(∃ i,t.slot j=.live i/\t.place[i]? = Ab j)\/(t.slot j=.empty/\j ∉ t.place.toList):=by
 by_cases h:j∈t.place.toList
 .obtain⟨i,hi,e⟩:=Cd.mp h
  have e':t.place[i]? = Ab j:=by rw[<- By,An hi,e]
  exact .inl ⟨i,dE T e',e'⟩
 .refine .inr ⟨?_,h⟩
  unfold AaA;simp only[T.dm,a9];rw[Bc,Bc (by simp)]
  intro q;apply h;have:t.place[Cf t.place j]? = Ab j:=by simpa using q
  obtain⟨h1,e1⟩:=Dv.mp this;rw[<- e1];simp
theorem WO (h:Rs xs){j:Ai}(hj:j ∉ xs.toList):Rs (Bw xs (Cf xs j) j):=by
 have b:=uI h j;unfold Rs;rw[Rp];have key:∀ (i:Ai) (x:Ai),xs.toList[i]? = Ab x->(i<Cf xs j->x<j)/\(Cf xs j<=i->j<x):=λi x e=>by
  have e':xs[i]? = Ab x:=by rw[<- By];exact e
  refine⟨λq=>b.lo _ _ q e',λq=>?_⟩;have h1:=b.hi _ _ q e';have:x≠j:=by
   rintro rfl;exact hj (Bk e)
  omega
 have tk:∀ x∈xs.toList.take (Cf xs j),x<j:=λx hx=>by
  obtain⟨i,hi,e⟩:=Cd.mp hx;rw[Ia] at hi;rw[List.getElem_take] at e;exact(key i x (by rw[An (by omega),e])).1 (by omega)
 have dr:∀ x∈xs.toList.drop (Cf xs j),j<x:=λx hx=>by
  obtain⟨i,hi,e⟩:=Cd.mp hx;rw[Jj] at hi;rw[List.getElem_drop] at e;exact(key (Cf xs j+i) x (by rw[An (by omega),e])).2 (by omega)
 rw[Kv,Ej];refine⟨List.Pairwise.take h,⟨dr,List.Pairwise.drop h⟩,λx hx y hy=>?_⟩;rcases Aw.mp hy with rfl|hy
 .exact tk x hx
 .exact Mf (tk x hx) (dr y hy)
theorem mF {α:Type}(xs:Bn α){p:Ai}(hp:p<=xs.size)(x:α)(i:Ai):(Bw xs p x)[i]? = if i<p then xs[i]? else if i=p then Ab x else xs[i-1]?:=by
 rw[<- By,Rp];have hl:(xs.toList.take p).length=p:=by simp;omega
 by_cases h1:i<p
 .rw[Bb h1,Cb (by omega),Rj h1,By]
 .rw[Bc h1,Di (by omega),hl]
  by_cases h2:i=p
  .subst h2;simp
  .rw[Bc h2]
   obtain⟨k,hk⟩:∃ k,i-p=k+1:=⟨i-p-1,by omega⟩
   rw[hk,List.getElem?_cons_succ,List.getElem?_drop,By]
   congr 1;omega
theorem vT {α:Type}(xs:Bn α)(p:Ai)(x:α):(Bw xs p x).size=xs.size+1:=by
 have:=(Ic xs p x).length_eq;simpa using this
theorem R6 {t:Fw}(T:Tb t){j:Ai}(hj:j ∉ t.place.toList):Tb (t.put j).1:=by
 refine⟨WO T.rs hj,?_⟩;show (if Xr t.dummies j then _ else t.dummies)=#[]
 rw[T.dm,a9];rfl
open PySem.SetTable (Probe leap runEnd turns bits)
def adv (mask:Ai)(p:Mx):Mx:=if p.more>0 then { p with j:=p.j+1,more:=p.more-1 } else { p with j:=(leap mask p.i p.perturb).1,more:=Ho mask (leap mask p.i p.perturb).1-(leap mask p.i p.perturb).1,i:=(leap mask p.i p.perturb).1,perturb:=(leap mask p.i p.perturb).2 }
theorem MW (t:Fw)(p:Mx):t.advance p=adv t.mask p:=rfl
def it (mask:Ai):Ai->Mx->Mx
 |0,p=>p
 |n+1,p=>it mask n (adv mask p)
theorem bA (mask:Ai):∀ (n:Ai) (p:Mx),it mask (n+1) p=adv mask (it mask n p)
 |0,p=>rfl
 |n+1,p=>bA mask n (adv mask p)
theorem mI (mask:Ai):∀ (m n:Ai) (p:Mx),it mask (m+n) p=it mask n (it mask m p)
 |0,n,p=>by rw[Xs];rfl
 |m+1,n,p=>by rw[Pz];exact mI mask m n (adv mask p)
def rs (mask i pert:Ai):Mx:={ j:=i,more:=Ho mask i-i,i,perturb:=pert,dummy:=none }
def st (mask:Ai)(h:Am):Mx:=rs mask (bits h % (mask+1)) (bits h)
theorem AM (t:Fw)(h:Am):t.probeStart h=st t.mask h:=rfl
theorem pG (mask i pert:Ai):∀ k,k<=Ho mask i-i->it mask k (rs mask i pert)={ j:=i+k,more:=Ho mask i-i-k,i,perturb:=pert,dummy:=none }
 |0,_=>rfl
 |k+1,hk=>by
  rw[bA,pG mask i pert k (by omega)]
  unfold adv;rw[Bb (by show Ho mask i-i-k>0;omega)]
  simp only[Probe.mk.injEq,and_true,true_and];omega
theorem aI (mask i pert:Ai):it mask (Ho mask i-i+1) (rs mask i pert)=rs mask (leap mask i pert).1 (leap mask i pert).2:=by
 rw[bA,pG mask i pert _ (AT _)];unfold adv;rw[Bc (by show ¬ (Ho mask i-i-(Ho mask i-i)>0);omega)]
 rfl
theorem RT (mask i:Ai):Ho mask i-i+1<=10:=by
 unfold Ho
 split <;> omega
def lp (mask:Ai):Ai->Ai × Ai->Ai × Ai
 |0,q=>q
 |n+1,q=>lp mask n (leap mask q.1 q.2)
theorem X6 (mask:Ai):∀ (m n:Ai) (q:Ai × Ai),lp mask (m+n) q=lp mask n (lp mask m q)
 |0,n,p=>by rw[Xs];rfl
 |m+1,n,p=>by rw[Pz];exact X6 mask m n _
theorem KA (mask:Ai):∀ (n i pert:Ai),∃ k,k<=10*n/\it mask k (rs mask i pert)=rs mask (lp mask n (i,pert)).1 (lp mask n (i,pert)).2
 |0,i,pert=>⟨0,by omega,rfl⟩
 |n+1,i,pert=>by
  obtain⟨k,hk,e⟩:=KA mask n (leap mask i pert).1 (leap mask i pert).2;refine⟨(Ho mask i-i+1)+k,by have:=RT mask i;omega,?_⟩
  rw[mI,aI,e];rfl
theorem aR (mask:Ai):∀ (n i pert:Ai),(lp mask n (i,pert)).2=pert/32 ^ n
 |0,i,pert=>by simp[lp]
 |n+1,i,pert=>by
  show (lp mask n ((leap mask i pert).1,pert/32)).2=_;rw[aR mask n _ (pert/32),Nat.div_div_eq_div_mul,<- Nat.pow_succ']
theorem nE (mask i pert:Ai):(leap mask i pert).1<=mask:=Kg (Pd _ (Mi _))
theorem KD (mask:Ai):∀ (n i pert:Ai),i<=mask->(lp mask n (i,pert)).1<=mask
 |0,i,pert,h=>h
 |n+1,i,pert,h=>KD mask n _ _ (nE mask i pert)
theorem cL (h:Am):bits h<2 ^ 64:=by
 unfold bits;have h1:(0:Am)<=h % 2 ^ 64:=Lw _ (by decide)
 have h2:h % 2 ^ 64<(2 ^ 64:Am):=Ju _ (by decide)
 omega
def cyc (mask:Ai):Ai->Ai->Ai
 |0,i=>i
 |n+1,i=>cyc mask n ((i*5+1) % (mask+1))
theorem pZ (mask:Ai):∀ (m n i:Ai),cyc mask (m+n) i=cyc mask n (cyc mask m i)
 |0,n,p=>by rw[Xs];rfl
 |m+1,n,p=>by rw[Pz];exact pZ mask m n _
theorem X7 (mask:Ai):∀ (n i:Ai),(lp mask n (i,0)).1=cyc mask n i
 |0,i=>rfl
 |n+1,i=>by
  show (lp mask n (leap mask i 0)).1=_;have:leap mask i 0=((i*5+1) % (mask+1),0):=by simp[leap]
  rw[this,X7 mask n];rfl
def Msk (mask:Ai):Prop:=mask=7\/mask=31\/mask=127\/mask=511\/mask=2047
def orb (mask:Ai):Ai->Ai->Ai->Ai
 |0,_,acc=>acc
 |n+1,i,acc=>orb mask n ((i*5+1) % (mask+1)) (acc ||| 1 <<< i)
def Z9 (mask:Ai):Ar:=orb mask (mask+1) 0 0 == 2 ^ (mask+1)-1&&cyc mask (mask+1) 0 == 0
theorem ZC (h:Msk mask):Z9 mask=true:=by
 rcases h with rfl|rfl|rfl|rfl|rfl <;> decide +kernel
theorem aZ (mask e:Ai):∀ (n i acc:Ai),(orb mask n i acc).testBit e=true->acc.testBit e=true\/∃ m,m<n/\cyc mask m i=e
 |0,i,acc,h=>.inl h
 |n+1,i,acc,h=>by
  rcases aZ mask e n _ _ h with q|⟨m,hm,q⟩
  .rw[Nat.testBit_or,Ol] at q
   rcases q with q|q
   .exact .inl q
   .rw[Nat.one_shiftLeft,Nat.testBit_two_pow,Ce] at q
    exact .inr ⟨0,by omega,q⟩
  .exact .inr ⟨m+1,by omega,q⟩
theorem YQ (h:Msk mask){i e:Ai}(hi:i<=mask)(he:e<=mask):∃ n,n<=mask/\cyc mask n i=e:=by
 have a:=ZC h;unfold Z9 at a;rw[Au] at a;obtain⟨a1,a2⟩:=a;have a1:orb mask (mask+1) 0 0=2 ^ (mask+1)-1:=by simpa using a1
 have g:∀ e,e<=mask->∃ n,n<=mask/\cyc mask n 0=e:=λe he=>by
  have q:(orb mask (mask+1) 0 0).testBit e=true:=by rw[a1,Nat.testBit_two_pow_sub_one];simp;omega
  rcases aZ mask e _ _ _ q with q|⟨n,hn,q⟩
  .simp at q
  .exact⟨n,by omega,q⟩
 have a3:cyc mask (mask+1) 0=0:=by simpa using a2
 obtain⟨m,hm,em⟩:=g i hi;obtain⟨n,hn,en⟩:=g e he;by_cases q:m<=n
 .refine⟨n-m,by omega,?_⟩
  rw[<- em,<- pZ,show m+(n-m)=n by omega]
  exact en
 .refine⟨n+(mask+1)-m,by omega,?_⟩
  rw[<- em,<- pZ,show m+(n+(mask+1)-m)=(mask+1)+n by omega,pZ,a3]
  exact en
theorem rY (h:Msk mask){i pert e:Ai}(hi:i<=mask)(hp:pert<2 ^ 64)(he:e<=mask):∃ n,n<=mask+13/\(lp mask n (i,pert)).1=e:=by
 have h0:(lp mask 13 (i,pert)).2=0:=by
  rw[aR];apply Nat.div_eq_of_lt;exact Mf hp (by decide)
 obtain⟨n,hn,q⟩:=YQ h (KD mask 13 i pert hi) he;refine⟨13+n,by omega,?_⟩
 rw[X6];have:lp mask 13 (i,pert)=((lp mask 13 (i,pert)).1,0):=by rw[<- h0]
 rw[this,X7];exact q
theorem rP (h:Msk mask)(hs:Am){e:Ai}(he:e<=mask):∃ n,n<10*turns mask/\(it mask n (st mask hs)).j=e:=by
 obtain⟨n,hn,q⟩:=rY h (i:=bits hs % (mask+1)) (Kg (Pd _ (Mi _))) (cL hs) he;obtain⟨k,hk,e1⟩:=KA mask n (bits hs % (mask+1)) (bits hs);refine⟨k,by unfold turns;omega,?_⟩
 show (it mask k (rs mask _ _)).j=e;rw[e1];exact q
theorem fM (mask:Ai):∀ (n:Ai) (p:Mx),(it mask n p).dummy=p.dummy
 |0,p=>rfl
 |n+1,p=>by
  show (it mask n (adv mask p)).dummy=_;rw[fM mask n];unfold adv
  split <;> rfl
def Way (t:Fw)(p:Mx)(n:Ai):Prop:=∀ m,m<n->(it t.mask m p).j∈t.place.toList
inductive Meets (t:Fw)(hashAt:Ai->Am)(h:Am)(p:Mx)(fuel:Ai):Al SetTable.Met->Prop
 |emp (n:Ai) (hn:n<fuel) (w:Way t p n) (e:(it t.mask n p).j ∉ t.place.toList) (q:∀ m i,m<n->t.place[i]? = Ab (it t.mask m p).j->hashAt i≠h):Meets t hashAt h p fuel (Ab (.empty (it t.mask n p).j none))
 |cand (n i:Ai) (hn:n<fuel) (w:Way t p n) (e:t.place[i]? = Ab (it t.mask n p).j) (hh:hashAt i=h) (q:∀ m i,m<n->t.place[i]? = Ab (it t.mask m p).j->hashAt i≠h):Meets t hashAt h p fuel (Ab (.candidate (it t.mask n p).j i (it t.mask (n+1) p)))
theorem WN (h:Rs xs){a b x:Ai}(ha:xs[a]? = Ab x)(hb:xs[b]? = Ab x):a=b:=by rw[<- f7 h ha,f7 h hb]
set_option tactic.hygienic true in
theorem kS {t:Fw}(T:Tb t)(hashAt:Ai->Am)(h:Am):∀ (fuel:Ai) (p:Mx),p.dummy=none->(∃ n,n<fuel/\(it t.mask n p).j ∉ t.place.toList)->Meets t hashAt h p fuel (Kh t hashAt h fuel p)
 |0,p,_,⟨n,hn,_⟩=>by omega
 |fuel+1,p,hd,⟨n,hn,hne⟩=>by
  unfold Kh;rcases QC T p.j with⟨i,e,ei⟩|⟨e,q⟩
  .rw[e]
   simp only
   split
   .rename_i hh
    exact Meets.cand 0 i (by omega) (λm hm=>by omega) ei (by simpa using hh) λm i hm=>by omega
   .rename_i hh
    have hh':hashAt i≠h:=by simpa using hh
    have hn0:n≠0:=by
     rintro rfl;exact hne (Bk (by rw[By];exact ei))
    obtain⟨n',rfl⟩:∃ n',n=n'+1:=⟨n-1,by omega⟩
    have ih:=kS T hashAt h fuel (adv t.mask p) (by rw[<- hd];exact fM t.mask 1 p) ⟨n',by omega,hne⟩
    rw[MW];have mem0:p.j∈t.place.toList:=Bk (by rw[By];exact ei)
    have up:∀ {k:Ai},Way t (adv t.mask p) k->Way t p (k+1):=λ{k} w m hm=>by
     cases m with
     |zero=>exact mem0
     |succ m=>exact w m (by omega)
    have upq:∀ {k:Ai},(∀ m i,m<k->t.place[i]? = Ab (it t.mask m (adv t.mask p)).j->hashAt i≠h)->∀ m i,m<k+1->t.place[i]? = Ab (it t.mask m p).j->hashAt i≠h:=λ{k} q m i' hm e'=>by
     cases m with
     |zero=>rw[WN T.rs e' ei];exact hh'
     |succ m=>exact q m i' (by omega) e'
    generalize hg:Kh t hashAt h fuel (adv t.mask p)=r at ih;cases ih with
    |emp k hk w e1 q1=>exact Meets.emp (p:=p) (k+1) (by omega) (up w) e1 (upq q1)
    |cand k i' hk w e1 hh1 q1=>exact Meets.cand (p:=p) (k+1) i' (by omega) (up w) e1 hh1 (upq q1)
  .rw[e]
   simp only[hd];exact Meets.emp (p:=p) 0 (by omega) (λm hm=>by omega) q λm i hm=>by omega
end _S
namespace _S
open PySem
open PySem.SetTable (Probe leap runEnd turns bits)
variable {us:Aa Ai}{mask:Ai}{owner:Bn (Al Ai)}
structure Own (mask:Ai)(owner:Bn (Al Ai))(us:Aa Ai):Prop where
 size:owner.size=mask+1
 nd:us.Nodup
 le:∀ u∈us,u<=mask
 at':∀ j k,j<=mask->(owner.getD j (Ab 0)=Ab k↔us[k]? = Ab j)
theorem nY {i:Ai}(hi:i<=mask):Ho mask i<=mask:=by
 unfold Ho
 split <;> omega
theorem nZ (mask i:Ai):i<=Ho mask i:=by
 unfold Ho
 split <;> omega
theorem Own.none (O:Own mask owner us){j:Ai}(hj:j<=mask):(owner.getD j (Ab 0)).isNone=true↔j ∉ us:=by
 constructor
 .intro h hm
  obtain⟨k,hk,e⟩:=Cd.mp hm;have:=(O.at' j k hj).mpr (by rw[An hk,e])
  rw[this] at h;cases h
 .intro h
  cases q:owner.getD j (Ab 0) with
  |none=>rfl
  |some k=>exact absurd (Bk ((O.at' j k hj).mp q)) h
theorem lO (O:Own mask owner us):∀ (fuel i pert:Ai),i<=mask->(∃ L,L<fuel/\(lp mask L (i,pert)).1 ∉ us) ->
  ∃ n,Ie mask owner fuel i pert=Ab (it mask n (rs mask i pert)).j/\(it mask n (rs mask i pert)).j<=mask/\(it mask n (rs mask i pert)).j ∉ us/\∀ m,m<n->(it mask m (rs mask i pert)).j∈us
 |0,i,pert,hi,⟨L,hL,_⟩=>by omega
 |fuel+1,i,pert,hi,⟨L,hL,hne⟩=>by
  unfold Ie;have hmx:=nY hi;have hmn:=nZ mask i;cases hf:(Cg (Ho mask i+1-i)).find? λk=>(owner.getD (i+k) (Ab 0)).isNone with
  |some k =>
   obtain⟨h1,h2,h3⟩:=List.find?_range_eq_some.mp hf;have hk:k<Ho mask i+1-i:=Ei.mp h2;have ej:(it mask k (rs mask i pert)).j=i+k:=by rw[pG mask i pert k (by omega)]
   refine⟨k,?_,?_,?_,λm hm=>?_⟩
   .rw[ej]
   .rw[ej];omega
   .rw[ej];exact(O.none (by omega)).mp h1
   .rw[pG mask i pert m (by omega)]
    have:=h3 m hm;apply Fv;intro q;rw[(O.none (show i+m<=mask by omega)).mpr q] at this
    cases this
  |none =>
   have hall:∀ k,k<Ho mask i+1-i->i+k∈us:=λk hk=>by
    have:=List.find?_eq_none.mp hf k (Ei.mpr hk);apply Fv;intro q;exact this ((O.none (show i+k<=mask by omega)).mpr q)
   have hL0:L≠0:=by
    rintro rfl;exact hne (hall 0 (by omega))
   obtain⟨L',rfl⟩:∃ L',L=L'+1:=⟨L-1,by omega⟩
   obtain⟨n,q1,q2,q3,q4⟩:=lO O fuel (leap mask i pert).1 (leap mask i pert).2 (nE mask i pert) ⟨L',by omega,hne⟩
   have e:∀ m,it mask (Ho mask i-i+1+m) (rs mask i pert)=it mask m (rs mask (leap mask i pert).1 (leap mask i pert).2):=λm=>by rw[mI,aI]
   refine⟨Ho mask i-i+1+n,?_,?_,?_,λm hm=>?_⟩
   .rw[e];exact q1
   .rw[e];exact q2
   .rw[e];exact q3
   .by_cases hlt:m<Ho mask i-i+1
    .rw[pG mask i pert m (by omega)]
     exact hall m (by omega)
    .obtain⟨m',rfl⟩:∃ m',m=Ho mask i-i+1+m':=⟨m-(Ho mask i-i+1),by omega⟩
     rw[e];exact q4 m' (by omega)
theorem gap (h:us.length<=mask):∃ e,e<=mask/\e ∉ us:=by
 apply Fv;intro q;have:Cg (mask+1) ⊆ us:=λe he=>by
  apply Fv;intro r;exact q ⟨e,by have:=Ei.mp he;omega,r⟩
 have:=List.Nodup.length_le_of_subset Zj this;rw[Hw] at this;omega
theorem F3 (mask:Ai):Own mask (Array.replicate (mask+1) none) []:=by
 refine⟨by simp,Aa0,λu hu=>by simp at hu,λj k hj=>?_⟩
 have:j<mask+1:=by omega
 simp[Iu,this]
theorem UK (O:Own mask owner us){j:Ai}(hj:j<=mask)(hn:j ∉ us):Own mask (owner.setIfInBounds j (Ab us.length)) (us++[j]):=by
 refine⟨by simp[O.size],?_,λu hu=>?_,λi k hi=>?_⟩
 .rw[Ja]
  refine⟨O.nd,by simp,λa ha b hb=>?_⟩
  simp at hb;rintro rfl;subst hb;exact hn ha
 .rcases Cp.mp hu with h|h
  .exact O.le u h
  .simp at h;omega
 .have hsz:=O.size
  have hi':i<owner.size:=by omega
  have hk:∀ {k},us[k]? = Ab i->k<us.length:=λq=>(Az.mp q).1;by_cases hij:j=i
  .subst hij
   have e1:(owner.setIfInBounds j (Ab us.length)).getD j (Ab 0)=Ab us.length:=by simp[Iu,hi']
   rw[e1];constructor
   .intro q;cases q;simp
   .intro q
    by_cases h1:k<us.length
    .rw[Cb h1] at q
     exact absurd (Bk q) hn
    .rw[Di (by omega)] at q
     have:k-us.length=0:=by
      cases hz:k-us.length with
      |zero=>rfl
      |succ z=>rw[hz] at q;simp at q
     congr 1;omega
  .have e1:(owner.setIfInBounds j (Ab us.length)).getD i (Ab 0)=owner.getD i (Ab 0):=by
    simp[Iu,hi',Array.getElem_setIfInBounds,hij]
   rw[e1,O.at' i k hi];constructor
   .intro q;rw[Cb (hk q)];exact q
   .intro q
    by_cases h1:k<us.length
    .rw[Cb h1] at q;exact q
    .rw[Di (by omega)] at q
     cases hz:k-us.length with
     |zero=>rw[hz] at q;simp at q;exact absurd q hij
     |succ z=>rw[hz] at q;simp at q
def iU (mask:Ai)(us:Aa Ai)(hs:Aa Am):Prop:=∀ (k:Ai) (h:Am),hs[k]? = Ab h->∃ n,us[k]? = Ab (it mask n (st mask h)).j/\∀ m,m<n->(it mask m (st mask h)).j∈us
theorem lM (hM:Msk mask):∀ (hs done:Aa Am) (owner:Bn (Al Ai)) (us:Aa Ai),Own mask owner us->us.length=done.length->done.length+hs.length<=mask->iU mask us done ->
  ∃ owner' us',hs.foldl (λacc h=>do
   let (owner,k) <- acc
   let j <- Ie mask owner (turns mask) (bits h % (mask+1)) (bits h)
   pure (owner.setIfInBounds j (Ab k),k+1)) (Ab (owner,us.length))=Ab (owner',us'.length)/\Own mask owner' us'/\us'.length=done.length+hs.length/\iU mask us' (done++hs)
 |[],done,owner,us,O,hl,_,hL=>⟨owner,us,rfl,O,by simpa using hl,by simpa using hL⟩
 |h::hs,done,owner,us,O,hl,hlen,hL=>by
  rw[Ch] at hlen;obtain⟨e,he,hne⟩:=gap (mask:=mask) (us:=us) (by omega)
  obtain⟨L,hLn,hLe⟩:=rY hM (i:=bits h % (mask+1)) (Kg (Pd _ (Mi _))) (cL h) he;obtain⟨n,q1,q2,q3,q4⟩:=lO O (turns mask) (bits h % (mask+1)) (bits h) (Kg (Pd _ (Mi _))) ⟨L,by unfold turns;omega,by rw[hLe];exact hne⟩
  have O':=UK O q2 q3;have hL':iU mask (us++[(it mask n (rs mask (bits h % (mask+1)) (bits h))).j]) (done++[h]):=λk h' e'=>by
   by_cases hk:k<done.length
   .rw[Cb hk] at e'
    obtain⟨n',w1,w2⟩:=hL k h' e';exact⟨n',by rw[Cb (by omega)];exact w1,λm hm=>Dh _ (w2 m hm)⟩
   .rw[Di (by omega)] at e'
    cases hz:k-done.length with
    |succ z=>rw[hz] at e';simp at e'
    |zero =>
     rw[hz] at e';simp at e';subst e';refine⟨n,?_,λm hm=>Dh _ (q4 m hm)⟩;rw[Di (by omega),hl,hz]
     rfl
  obtain⟨owner',us',r1,r2,r3,r4⟩:=lM hM hs (done++[h]) _ _ O' (by simp[hl]) (by simp;omega) hL'
  refine⟨owner',us',?_,r2,by simpa [Nat.add_assoc,Nat.add_comm 1] using r3,by simpa using r4⟩
  rw[Lr];rw[Cj] at r1;have e0:(do
   let (owner,k) <- Ab (owner,us.length)
   let j <- Ie mask owner (turns mask) (bits h % (mask+1)) (bits h)
   pure (owner.setIfInBounds j (Ab k),k+1))=Ab (owner.setIfInBounds (it mask n (rs mask (bits h % (mask+1)) (bits h))).j (Ab us.length),us.length+1):=by
   show (Ie mask owner (turns mask) (bits h % (mask+1)) (bits h)).bind _=_;rw[q1];rfl
  rw[e0];exact r1
theorem dP (hM:Msk mask)(hs:Bn Am)(hlen:hs.size<=mask):∃ owner us,Ym mask hs=Ab owner/\Own mask owner us/\us.length=hs.size/\iU mask us hs.toList:=by
 obtain⟨owner',us',r1,r2,r3,r4⟩:=lM hM hs.toList [] _ [] (F3 mask) rfl (by simpa using hlen) (λk h e=>by simp at e)
 refine⟨owner',us',?_,r2,by simpa using r3,by simpa using r4⟩
 unfold Ym;rw[<- Array.foldl_toList];have:(([]:Aa Ai).length)=0:=rfl;rw[this] at r1
 erw [r1]
 rfl
structure Laid (mask:Ai)(hs:Bn Am)(t:Fw)(qO:Bn Ai):Prop where
 msk:t.mask=mask
 tb:Tb t
 size:t.place.size=hs.size
 le:∀ x∈t.place.toList,x<=mask
 perm:qO.toList.Perm (Cg hs.size)
 way:∀ (i k:Ai) (h:Am),qO[i]? = Ab k->hs[k]? = Ab h->∃ n,t.place[i]? = Ab (it mask n (st mask h)).j/\Way t (st mask h) n
theorem X2 (hM:Msk mask)(hs:Bn Am)(hlen:hs.size<=mask)(finger moves:Ai)(led plain:Ar) :
  ∃ t qO,Wj mask finger moves led plain hs=Ab (t,qO)/\t.led=led/\t.plain=plain/\Laid mask hs t qO:=by
 obtain⟨owner,us,e,O,hl,hL⟩:=dP hM hs hlen;have hg:∀ j,j<=mask->owner.getD j none=owner.getD j (Ab 0):=λj hj=>by
  have:j<owner.size:=by rw[O.size];omega
  simp[Iu,this]
 generalize hlv:((Cg (mask+1)).filterMap λj=>(owner.getD j none).map (j,·))=live
 have mem:∀ (j k:Ai),(j,k)∈live↔us[k]? = Ab j:=λj k=>by
  rw[<- hlv,Hc];constructor
  .rintro⟨j',hj',q⟩
   have hj'':j'<=mask:=by have:=Ei.mp hj';omega
   rw[hg j' hj''] at q;cases hz:owner.getD j' (Ab 0) with
   |none=>rw[hz] at q;cases q
   |some k' =>
    rw[hz] at q;simp at q;obtain⟨rfl,rfl⟩:=q;exact(O.at' _ _ hj'').mp hz
  .intro q
   have hj:j<=mask:=O.le j (Bk q);refine⟨j,Ei.mpr (by omega),?_⟩
   rw[hg j hj,(O.at' j k hj).mpr q];rfl
 have hfst:live.map (·.1)=(Cg (mask+1)).filter λj=>(owner.getD j none).isSome:=by
  rw[<- hlv,List.map_filterMap];generalize owner.getD=f
  induction Cg (mask+1) with
  |nil=>rfl
  |cons a l ih =>
   rw[Gm,List.filter_cons];cases hz:f a none with
   |none=>simpa using ih
   |some k=>simpa using ih
 have hR:(live.map (·.1)).Pairwise (· < ·):=by
  rw[hfst];exact List.Pairwise.filter _ List.pairwise_lt_range
 have ndl:(live.map (·.2)).Nodup:=by
  unfold Wk;rw[Dr];have h1:=Dr.mp hR;refine Rq (λ{a b} ha hb hab=>?_) h1;intro q;have ea:=(mem a.1 a.2).mp ha;have eb:=(mem b.1 b.2).mp hb;rw[<- q,ea] at eb;simp at eb;omega
 have pm:(live.map (·.2)).Perm (Cg hs.size):=by
  rw[Qg ndl Zj];intro k;rw[Bz,Ei,<- hl];constructor
  .rintro⟨⟨j,k'⟩,h1,rfl⟩
   exact(Az.mp ((mem j k').mp h1)).1
  .intro hk
   exact⟨(us[k],k),(mem _ _).mpr (An hk),rfl⟩
 have hmem:∀ j,j∈live.map (·.1)↔j∈us:=λj=>by
  rw[Bz];constructor
  .rintro⟨⟨j',k⟩,h1,rfl⟩
   exact Bk ((mem _ _).mp h1)
  .intro h1
   obtain⟨k,hk,e⟩:=Cd.mp h1;exact⟨(j,k),(mem _ _).mpr (by rw[An hk,e]),rfl⟩
 refine⟨{ mask,place:=(live.map (·.1)).toArray,dummies:=#[],finger,led,moves,plain },(live.map (·.2)).toArray,?_,rfl,rfl,rfl,⟨?_,rfl⟩,?_,λx hx=>?_,?_,λi k h e1 e2=>?_⟩
 .unfold Wj
  rw[e,<- hlv];rfl
 .exact hR
 .have:=pm.length_eq
  simp at this ⊢;exact this
 .exact O.le x ((hmem x).mp hx)
 .exact pm
 .have e1':(live.map (·.2))[i]? = Ab k:=by simpa using e1
  rw[Dc] at e1';cases hz:live[i]? with
  |none=>rw[hz] at e1';cases e1'
  |some jk =>
   rw[hz] at e1';simp at e1';have hin:=Bk hz;have hu:=(mem jk.1 jk.2).mp hin;obtain⟨n,w1,w2⟩:=hL k h (by rw[By];exact e2)
   rw[<- e1'] at w1;rw[hu] at w1;refine⟨n,?_,λm hm=>?_⟩
   .rw[<- w1]
    simp[hz]
   .have:=(hmem _).mpr (w2 m hm)
    simpa using this
theorem FY {t:Fw}{hs:Bn Am}{w:Ai}:SetTable.relaid t hs w=Wj (Ff w-1) t.finger (t.movedTo (Ff w-1)) t.led t.plain hs:=rfl
end _S
namespace _S
open PySem
open PySem.SetTable (Probe leap runEnd turns bits)
structure Set0 {K:Type}(is:K->Ac->Prop)(hash:K->Am)(es:Bn (Am × Ac))(seen:Aa K):Prop where
 good:∀ e∈es.toList,∃ k,e.1=hash k/\is k e.2
 nd:es.toList.Pairwise λa b=>∀ k,is k a.2->¬ is k b.2
 mem:∀ k,k∈seen↔∃ e∈es.toList,is k e.2
section
variable {K:Type}{is:K->Ac->Prop}{hash:K->Am}{es es':Bn (Am × Ac)}{seen seen':Aa K}
theorem Set0.perm (Z:Set0 is hash es seen)(p:es'.toList.Perm es.toList):Set0 is hash es' seen:=
 ⟨λe he=>Z.good e (p.mem_iff.mp he),(p.pairwise_iff λ{x y} h k hy hx=>h k hx hy).mpr Z.nd,λk=>(Z.mem k).trans ⟨λ⟨e,he,q⟩=>⟨e,p.mem_iff.mpr he,q⟩,λ⟨e,he,q⟩=>⟨e,p.mem_iff.mp he,q⟩⟩⟩
theorem Set0.nil:Set0 is hash #[] []:=⟨λe he=>by simp at he,by simp,λk=>by simp⟩
theorem Set0.push (Z:Set0 is hash es seen)(inj:∀ {k k':K} {v:Ac},is k v->is k' v->k=k'){k:K}{x:Ac}(hk:is k x)(hn:k ∉ seen)(p:es'.toList.Perm (es.toList++[(hash k,x)])):Set0 is hash es' (k::seen):=by
 refine Set0.perm (es:=es.push (hash k,x)) ⟨λe he=>?_,?_,λk'=>?_⟩ (by simpa using p)
 .rw[Hx] at he
  rcases Cp.mp he with he|he
  .exact Z.good e he
  .simp at he;subst he;exact⟨k,rfl,hk⟩
 .rw[Hx,Kv]
  refine⟨Z.nd,by simp,λa ha b hb k' h1 h2=>?_⟩
  simp at hb;subst hb;have:=inj hk h2;subst this;exact hn ((Z.mem k).mpr ⟨a,ha,h1⟩)
 .rw[Aw,Z.mem,Hx]
  constructor
  .rintro (rfl|⟨e,he,q⟩)
   .exact⟨(hash k',x),by simp,hk⟩
   .exact⟨e,Dh _ he,q⟩
  .rintro⟨e,he,q⟩
   rcases Cp.mp he with he|he
   .exact .inr ⟨e,he,q⟩
   .simp at he;subst he;exact .inl (inj q hk)
theorem Set0.again (Z:Set0 is hash es seen){k:K}(hk:k∈seen):Set0 is hash es (k::seen):=
 ⟨Z.good,Z.nd,λk'=>by rw[Aw,Z.mem];exact⟨λh=>h.elim (λe=>by subst e;exact(Z.mem _).mp hk) id,.inr⟩⟩
end
section
open Classical in
theorem fP {K:Type}{is:K->Ac->Prop}:∀ (L:Aa (Am × Ac)) (U:Aa K),L.Pairwise (λa b=>∀ k,is k a.2->¬ is k b.2)->(∀ e∈L,∃ k∈U,is k e.2)->L.length<=U.length
 |[],U,_,_=>Gy _
 |e::L,U,nd,h=>by
  rw[Ej] at nd;obtain⟨k0,hk0,q0⟩:=h e (by simp)
  have ih:=fP L (U.erase k0) nd.2 λe' he'=>by
   obtain⟨k,hk,q⟩:=h e' (by simp[he'])
   have:k≠k0:=λz=>nd.1 e' he' k0 q0 (z▸q);exact⟨k,(Vo this).mpr hk,q⟩
  rw[Rr hk0] at ih;have:0<U.length:=T0 hk0;rw[Ch];omega
open Classical in
theorem Set0.few {K:Type}{is:K->Ac->Prop}{hash:K->Am}{es:Bn (Am × Ac)}{seen U:Aa K}{k:K}(Z:Set0 is hash es seen)(hU:∀ k'∈seen,k'∈U)(hk:k∈U)(hn:k ∉ seen):es.size<U.length:=by
 have:=fP es.toList (U.erase k) Z.nd λe he=>by
  obtain⟨k',_,q⟩:=Z.good e he;have hs:=(Z.mem k').mpr ⟨e,he,q⟩;have hne:k'≠k:=λz=>hn (z▸hs);exact⟨k',(Vo hne).mpr (hU k' hs),q⟩
 rw[Rr hk,Df] at this;have:0<U.length:=T0 hk;omega
end
structure TabT (t:Fw)(es:Bn (Am × Ac)):Prop where
 tb:Tb t
 msk:Msk t.mask
 size:t.place.size=es.size
 le:∀ x∈t.place.toList,x<=t.mask
 few:es.size*5<t.mask*3
 way:∀ (i:Ai) (e:Am × Ac),es[i]? = Ab e->∃ n,t.place[i]? = Ab (it t.mask n (st t.mask e.1)).j/\Way t (st t.mask e.1) n
 plain:t.plain=true
theorem TabT.fits {t:Fw}{es:Bn (Am × Ac)}(T:TabT t es):t.fits es.size=true:=by
 have h1:=T.size;have h2:=T.few;have h3:t.fill=es.size:=by unfold Lj;rw[T.tb.dm,h1];rfl
 unfold Wl;rw[h3,h1];rcases T.msk with h|h|h|h|h <;> rw[h] at h2 ⊢ <;> simp <;> omega
theorem TabT.gap {t:Fw}{es:Bn (Am × Ac)}(T:TabT t es):∃ e,e<=t.mask/\e ∉ t.place.toList:=by
 apply _S.gap;rw[Df,T.size];have h2:=T.few;rcases T.msk with h|h|h|h|h <;> rw[h] at h2 ⊢ <;> omega
theorem TabT.odd {t:Fw}{es:Bn (Am × Ac)}(T:TabT t es):t.gaveWay=false:=by
 unfold SetTable.gaveWay;rcases T.msk with h|h|h|h|h <;> rw[h] <;> rfl
theorem TabT.put {t:Fw}{es:Bn (Am × Ac)}(T:TabT t es){h:Am}{x:Ac}{n:Ai}(w:Way t (st t.mask h) n)(hn:(it t.mask n (st t.mask h)).j ∉ t.place.toList)(hle:(it t.mask n (st t.mask h)).j<=t.mask) :
  let es':=Bw es (t.put (it t.mask n (st t.mask h)).j).2 (h,x)
  Tb (t.put (it t.mask n (st t.mask h)).j).1/\(t.put (it t.mask n (st t.mask h)).j).1.place.size=es'.size/\(∀ y∈(t.put (it t.mask n (st t.mask h)).j).1.place.toList,y<=t.mask) /\
  (∀ (i:Ai) (e:Am × Ac),es'[i]? = Ab e->∃ m,(t.put (it t.mask n (st t.mask h)).j).1.place[i]? = Ab (it t.mask m (st t.mask e.1)).j/\Way (t.put (it t.mask n (st t.mask h)).j).1 (st t.mask e.1) m):=by
 generalize hj:(it t.mask n (st t.mask h)).j=j at *;have pm:∀ y,y∈(t.put j).1.place.toList↔y=j\/y∈t.place.toList:=λy=>by
  show y∈(Bw t.place (Cf t.place j) j).toList↔_;rw[(Ic _ _ _).mem_iff];simp[or_comm]
 have hb:Cf t.place j<=t.place.size:=(uI T.tb.rs j).le;have wm:∀ {p:Mx} {m:Ai},Way t p m->Way (t.put j).1 p m:=λ{p m} w q hq=>(pm _).mpr (.inr (w q hq));refine⟨R6 T.tb hn,?_,λy hy=>?_,λi e he=>?_⟩
 .show (Bw t.place _ j).size=(Bw es _ (h,x)).size
  rw[vT,vT,T.size]
 .rcases (pm y).mp hy with rfl|hy
  .exact hle
  .exact T.le y hy
 .have he':(if i<Cf t.place j then es[i]? else if i=Cf t.place j then Ab (h,x) else es[i-1]?)=Ab e:=by
   rw[<- mF es (by rw[<- T.size];exact hb)]
   exact he
  have pl:(t.put j).1.place[i]? = if i<Cf t.place j then t.place[i]? else if i=Cf t.place j then Ab j else t.place[i-1]?:=mF t.place hb j i
  rw[pl];by_cases h1:i<Cf t.place j
  .rw[Bb h1] at he' ⊢
   obtain⟨m,q1,q2⟩:=T.way i e he';exact⟨m,q1,wm q2⟩
  .rw[Bc h1] at he' ⊢
   by_cases h2:i=Cf t.place j
   .rw[Bb h2] at he' ⊢
    cases he';exact⟨n,by rw[hj],wm w⟩
   .rw[Bc h2] at he' ⊢
    obtain⟨m,q1,q2⟩:=T.way _ e he';exact⟨m,q1,wm q2⟩
theorem K9 {mask:Ai}(p:Mx)(hp:p.j+p.more<=mask):∀ n,(it mask n p).j+(it mask n p).more<=mask
 |0=>hp
 |n+1=>by
  rw[bA];have ih:=K9 p hp n;unfold adv
  split
  .show (it mask n p).j+1+((it mask n p).more-1)<=mask
   omega
  .show (leap mask _ _).1+(Ho mask (leap mask _ _).1-(leap mask _ _).1)<=mask
   have h1:=nY (nE mask (it mask n p).i (it mask n p).perturb);have h2:=nZ mask (leap mask (it mask n p).i (it mask n p).perturb).1;omega
theorem G0 (mask:Ai)(h:Am)(n:Ai):(it mask n (st mask h)).j<=mask:=by
 have h0:bits h % (mask+1)<=mask:=Kg (Pd _ (Mi _));have:=K9 (mask:=mask) (st mask h) (by
  show bits h % (mask+1)+(Ho mask (bits h % (mask+1))-bits h % (mask+1))<=mask;have h1:=nY h0;have h2:=nZ mask (bits h % (mask+1));omega) n
 omega
theorem bU {t:Fw}{es:Bn (Am × Ac)}(hM:Msk t.mask)(hp:t.plain=true)(h1:t.place.size=es.size)(h2:es.size<=1001)(hf:t.tooFull=true)(hd:t.dummies=#[])(h3:(es.size-1)*5<t.mask*3)(h4:0<es.size) :
  Ff (Hj es.size)<=2048/\∃ t' qO,t.relaid (es.map (·.1)) (Hj es.size)=Ab (t',qO)/\t'.led=t.led/\(qO.filterMap (es[·]?)).toList.Perm es.toList/\TabT t' (qO.filterMap (es[·]?))/\qO.toList.Perm (Cg es.size):=by
 have hfill:t.fill=es.size:=by unfold Lj;rw[hd,h1];rfl
 have hful:t.mask*3<=es.size*5:=by
  unfold Si at hf;rw[hfill] at hf;simpa using hf
 have hcase:(es.size=5/\Ff (Hj es.size)=32)\/(es.size=19/\Ff (Hj es.size)=128)\/(es.size=77/\Ff (Hj es.size)=512)\/(es.size=307/\Ff (Hj es.size)=2048):=by
  rcases hM with h|h|h|h|h <;> rw[h] at hful h3
  .have:es.size=5:=by omega
   exact .inl ⟨this,by rw[this];decide⟩
  .have:es.size=19:=by omega
   exact .inr (.inl ⟨this,by rw[this];decide⟩)
  .have:es.size=77:=by omega
   exact .inr (.inr (.inl ⟨this,by rw[this];decide⟩))
  .have:es.size=307:=by omega
   exact .inr (.inr (.inr ⟨this,by rw[this];decide⟩))
  .omega
 have hM':Msk (Ff (Hj es.size)-1):=by
  rcases hcase with⟨_,h⟩|⟨_,h⟩|⟨_,h⟩|⟨_,h⟩ <;> rw[h]
  .exact .inr (.inl rfl)
  .exact .inr (.inr (.inl rfl))
  .exact .inr (.inr (.inr (.inl rfl)))
  .exact .inr (.inr (.inr (.inr rfl)))
 have hle:(es.map (·.1)).size<=Ff (Hj es.size)-1:=by
  rw[Vc];rcases hcase with⟨h5,h⟩|⟨h5,h⟩|⟨h5,h⟩|⟨h5,h⟩ <;> rw[h,h5] <;> omega
 obtain⟨t',qO,e,l1,l2,L⟩:=X2 hM' (es.map (·.1)) hle t.finger (t.movedTo (Ff (Hj es.size)-1)) t.led t.plain
 have hosz:qO.size=es.size:=by
  have:=L.perm.length_eq;simpa using this
 have hord:∀ i k,qO[i]? = Ab k->k<es.size:=λi k q=>by
  have:k∈Cg (es.map (·.1)).size:=L.perm.mem_iff.mp (Bk (by rw[By];exact q))
  simpa using this
 have hfm:(qO.filterMap (es[·]?)).toList=qO.toList.map λk=>es.toList.getD k (0,.none):=by
  rw[Array.toList_filterMap];have:∀ l:Aa Ai,(∀ k∈l,k<es.size)->l.filterMap (es[·]?)=l.map λk=>es.toList.getD k (0,.none):=by
   intro l
   induction l with
   |nil=>intro _;rfl
   |cons a l ih =>
    intro hl;have ha:=hl a (by simp)
    rw[Gm,Ee,ih λk hk=>hl k (by simp[hk])]
    rw[Eb ha];simp[ha]
  refine this _ λk hk=>?_;obtain⟨i,hi,q⟩:=Cd.mp hk;exact hord i k (by rw[<- By,An hi,q])
 have hperm:(qO.filterMap (es[·]?)).toList.Perm es.toList:=by
  rw[hfm];have p1:=L.perm.map λk=>es.toList.getD k (0,Er);refine p1.trans ?_;have e2:(Cg (es.map (·.1)).size).map (λk=>es.toList.getD k (0,Er))=es.toList:=by
   apply Nw
   .simp
   .intro i a1 a2
    have a3:i<es.size:=by simpa using a2
    simp[a3]
  rw[e2]
 have hsz:(qO.filterMap (es[·]?)).size=es.size:=by rw[<- Df,hperm.length_eq,Df]
 have hentry:∀ i,(qO.filterMap (es[·]?))[i]? = (qO[i]?).map λk=>es.toList.getD k (0,.none):=λi=>by
  rw[<- By,hfm,Dc,By]
 refine⟨by rcases hcase with⟨_,h⟩|⟨_,h⟩|⟨_,h⟩|⟨_,h⟩ <;> rw[h] <;> decide,t',qO,by rw[FY];exact e,l1,hperm,⟨L.tb,by rw[L.msk];exact hM',by rw[L.size,hsz,Vc],by rw[L.msk];exact L.le,?_,λi en q=>?_,by rw[l2];exact hp⟩,by have:=L.perm;rwa [Vc] at this⟩
 .rw[hsz,L.msk]
  rcases hcase with⟨h5,h⟩|⟨h5,h⟩|⟨h5,h⟩|⟨h5,h⟩ <;> rw[h,h5] <;> omega
 .rw[hentry] at q
  cases hz:qO[i]? with
  |none=>rw[hz] at q;cases q
  |some k =>
   rw[hz] at q;simp only[Op,Option.some.injEq] at q;have hk:=hord i k hz;have:(es.map (·.1))[k]? = Ab en.1:=by
    rw[Array.getElem?_map,Eb hk];rw[<- q];simp[hk]
   rw[L.msk];exact L.way i k en.1 hz this
end _S
namespace _S
open PySem
open PySem.SetTable (Probe leap runEnd turns bits)
variable {Q:Ar->Ah->Prop}
def Sup (h0 h:Bj):Prop:=∀ b o,h0.get? b=Ab o->h.get? b=Ab o
def isT (prog:Bd)(w:Bt)(h0:Bj)(ks:Aa Am)(v:Ac):Prop:=∃ a,v=.ref a/\Pe (Bi prog w) h0 ks a
section
variable {prog:Bd}{w:Bt}{h0:Bj}
theorem isT.inj {x y:Aa Am}{v:Ac}(hx:isT prog w h0 x v)(hy:isT prog w h0 y v):x=y:=by
 obtain⟨a,rfl,h1⟩:=hx;obtain⟨b,e,h2⟩:=hy;cases e;exact h1.inj h2
theorem vY {h:Bj}{ks:Aa Am}{a:Af}(hS:Sup h0 h)(hx:Pe (Bi prog w) h0 ks a):Pe (Bi prog w) h ks a:=by
 obtain⟨o,items,n,ho,r⟩:=hx;exact⟨o,items,n,hS _ _ ho,r⟩
variable {A:Bo}{E:Ac->Ah->Prop}{s:Ah}
theorem HN {k:Aa Am}{v:Ac}{Q:Am->Ah->Prop}(hu:A.units<Dw)(hS:Sup h0 s.heap)(hx:isT prog w h0 k v)(h:Q (Bq (Bi prog w) k) { s with toks:=s.toks+(k.length+1) }) : Ap (As prog w) A (pyHash v) Q E s:=by
 obtain⟨a,rfl,hx⟩:=hx;exact wpAny_pyHash_tuple hu (vY hS hx) h
theorem eqT {k k':Aa Am}{v v':Ac}(hu:A.units<Dw)(hS:Sup h0 s.heap)(hx:isT prog w h0 k v)(hy:isT prog w h0 k' v')(h:Q (decide (k=k')) s):Ap (As prog w) A (eqBool v v') Q E s:=by
 obtain⟨a,rfl,hx⟩:=hx;obtain⟨b,rfl,hy⟩:=hy;exact wpAny_eqBool_tuple hu (vY hS hx) (vY hS hy) h
theorem mJ:∀ {ks:Aa Am} {vs:Aa Ac},ItemsAre (Bi prog w) ks vs->∀ v∈vs,∃ i t,v=.int i t:=by
 intro ks vs h
 induction h with
 |nil=>intro v hv;simp at hv
 |@cons k v' ks vs h1 _ ih =>
  intro v hv;rcases Aw.mp hv with rfl|hv
  .cases v <;> first|exact⟨_,_,rfl⟩|exact absurd h1 (by rintro⟨⟩)
  .exact ih v hv
theorem IV {k:Aa Am}{v:Ac}(hS:Sup h0 s.heap)(hx:isT prog w h0 k v)(h:Q true s):Ap (As prog w) A (Qh 8 v) Q E s:=by
 obtain⟨a,rfl,hx⟩:=hx;have hx:=vY hS hx;have hT:=hx.typeIs;obtain⟨o,items,n,ho,_,hd,hi⟩:=hx;unfold Qh;refine Ad (To hT F.slot_tuple_hash.lookup ?_);show Ap _ _ (seqItems? (.ref a) >>= _) Q E s;refine Ad (Ep ho hd ?_);refine Ad ?_;show Ap _ _ (forIn items _ _) _ _ s;rw[<- Xd];refine Kw _ (λrest r s'=>r.1=none/\s'=s/\∀ v∈rest,∃ i t,v=.int i t) _ ?_ ?_ _ _ ⟨rfl,rfl,mJ hi⟩
 .rintro v rest r s' ⟨hr,rfl,hall⟩
  obtain⟨i,t,rfl⟩:=hall v Cz;show Ap _ _ (Qh 7 (.int i t) >>= _) _ _ _;rw[show Qh 7 (.int i t)=pure true from rfl]
  refine Ad (Ak ?_);simp only[Ll,Bu,Eh];exact Ak ⟨rfl,rfl,λu hu'=>hall u (Cc _ hu')⟩
 .rintro⟨r1,r2⟩ s' ⟨hr,rfl,_⟩
  simp only at hr;subst hr;exact Ak h
theorem Z6 {k:Aa Am}{v:Ac}(hS:Sup h0 s.heap)(hx:isT prog w h0 k v)(h:Q false s):Ap (As prog w) A (My 8 v) Q E s:=by
 obtain⟨a,rfl,hx⟩:=hx;have hx:=vY hS hx;have hT:=hx.typeIs;obtain⟨o,items,n,ho,_,hd,hi⟩:=hx;unfold My;refine Ad (Ks hT ?_);dsimp only;refine Ad (Ak ?_);simp only[Ll,Bu,Eh];refine Ad (Ep ho hd ?_);refine Ad ?_;show Ap _ _ (forIn items _ _) _ _ s;rw[<- Xd];refine Kw _ (λrest r s'=>r.1=none/\s'=s/\∀ v∈rest,∃ i t,v=.int i t) _ ?_ ?_ _ _ ⟨rfl,rfl,mJ hi⟩
 .rintro v rest r s' ⟨hr,rfl,hall⟩
  obtain⟨i,t,rfl⟩:=hall v Cz;show Ap _ _ (My 7 (.int i t) >>= _) _ _ _;rw[show My 7 (.int i t)=pure false from rfl]
  refine Ad (Ak ?_);simp only[Bu,Eh];exact Ak ⟨rfl,rfl,λu hu'=>hall u (Cc _ hu')⟩
 .rintro⟨r1,r2⟩ s' ⟨hr,rfl,_⟩
  simp only at hr;subst hr;exact Ak h
theorem WE {k:Aa Am}{v:Ac}(hS:Sup h0 s.heap)(hx:isT prog w h0 k v)(h:Q true s):Ap (As prog w) A (eqIsQuiet 8 v) Q E s:=by
 obtain⟨a,rfl,hx⟩:=hx;exact wpAny_eqIsQuiet_tuple (vY hS hx) h
theorem oO {α:Type}{c:Prop}[Mq c]{M:Mr}{t u:Oa α}{Q:α->Ah->Prop}(h1:c->Ap M A t Q E s)(h2:¬ c->Ap M A u Q E s):Ap M A (if c then t else u) Q E s:=by
 by_cases h:c
 .rw[Bb h];exact h1 h
 .rw[Bc h];exact h2 h
theorem AI {k:Aa Am}{x:Ac}{ys:Aa Ac}(hS:Sup h0 s.heap)(hx:isT prog w h0 k x)(hy:∀ y∈ys,∃ k',isT prog w h0 k' y)(h:Q false s):Ap (As prog w) A (Yn x ys) Q E s:=by
 unfold Yn;refine Ad ?_;refine Kw _ (λrest r s'=>r.1=none/\s'=s/\∀ v∈rest,∃ k',isT prog w h0 k' v) _ ?_ ?_ _ _ ⟨rfl,rfl,hy⟩
 .rintro v rest r s' ⟨hr,rfl,hall⟩
  obtain⟨k',hv⟩:=hall v Cz;have hrest:∀ u∈rest,∃ k',isT prog w h0 k' u:=λu hu'=>hall u (Cc _ hu');dsimp only;refine oO (λ_=>Ak ⟨rfl,rfl,hrest⟩) λ_=>?_
  .refine Ad (WE hS hx ?_)
   simp only[Ll,Bu,Eh];refine Ad (WE hS hv ?_);simp only[Ll,Bu,Eh];refine Ad (Z6 hS hx ?_);simp only[Bu,Eh];refine Ad (Z6 hS hv ?_);simp only[Bu,Eh];exact Ak ⟨rfl,rfl,hrest⟩
 .rintro⟨r1,r2⟩ s' ⟨hr,rfl,_⟩
  simp only at hr;subst hr;exact Ak h
theorem AG {k:Aa Am}{v:Ac}(hx:isT prog w h0 k v)(h:Q true s):Ap (As prog w) A (isSame v v) Q E s:=by
 obtain⟨a,rfl,hx⟩:=hx;unfold isSame;simp only[Gg,Dt];exact Ak h
theorem K3 {k:Aa Am}{x:Ac}{S:Af}{o:Ci}{es:Bn (Am × Ac)}{ep:Ai}{t:Fw}{seen:Aa (Aa Am)}(hu:A.units<Dw)(hS:Sup h0 s.heap)(ho:s.heap.get? S=Ab o)(hd:o.data=.set es ep t)
  (T:TabT t es) (Z:Set0 (isT prog w h0) (Bq (Bi prog w)) es seen) (hx:isT prog w h0 k x) (N:Ai) (hNw:Way t (st t.mask (Bq (Bi prog w) k)) N)
  (hNe:(it t.mask N (st t.mask (Bq (Bi prog w) k))).j ∉ t.place.toList) (hNf:N<10*turns t.mask) {Q:SetFound->Ah->Prop}
  (h1:k∈seen->Q (.there none) s) (h2:k ∉ seen->Q (.free (it t.mask N (st t.mask (Bq (Bi prog w) k))).j false) s) :
  ∀ (fuel n:Ai) (stand:Al Mx),stand.getD (t.probeStart (Bq (Bi prog w) k))=it t.mask n (st t.mask (Bq (Bi prog w) k))->n<=N->N-n<fuel ->
   (∀ (m i:Ai) (e:Am × Ac),m<n->t.place[i]? = Ab (it t.mask m (st t.mask (Bq (Bi prog w) k))).j->es[i]? = Ab e->¬ isT prog w h0 k e.2) ->
   Ap (As prog w) A (Rb S x (Bq (Bi prog w) k) true fuel stand) Q E s
 |0,n,stand,_,_,hf,_=>by omega
 |fuel+1,n,stand,hst,hn,hf,hq=>by
  unfold Rb;refine Ad (Ga ho hd T.fits ?_);dsimp only;rw[T.odd];simp only[Bu,Eh];rw[hst];generalize hg:t.probe _ (Bq (Bi prog w) k) (it t.mask n (st t.mask (Bq (Bi prog w) k)))=r;obtain⟨H,hH,hg⟩:∃ H:Ai->Am,(∀ i,H i=(es[i]?.map (·.1)).getD 0)/\t.probe H (Bq (Bi prog w) k) (it t.mask n (st t.mask (Bq (Bi prog w) k)))=r:=⟨_,λi=>rfl,hg⟩
  have itn:∀ m,it t.mask m (it t.mask n (st t.mask (Bq (Bi prog w) k)))=it t.mask (n+m) (st t.mask (Bq (Bi prog w) k)):=λm=>(mI _ _ _ _).symm;have gm:Meets t H (Bq (Bi prog w) k) (it t.mask n (st t.mask (Bq (Bi prog w) k))) (10*turns t.mask) r:=by
   rw[<- hg];refine kS T.tb H _ _ _ (by rw[fM];rfl) ⟨N-n,by omega,?_⟩
   rw[itn,show n+(N-n)=N by omega]
   exact hNe
  have miss:∀ j:Ai,(∀ m i:Ai,m<j->t.place[i]? = Ab (it t.mask m (it t.mask n (st t.mask (Bq (Bi prog w) k)))).j->H i≠Bq (Bi prog w) k) ->
    ∀ (m i:Ai) (e:Am × Ac),m<n+j->t.place[i]? = Ab (it t.mask m (st t.mask (Bq (Bi prog w) k))).j->es[i]? = Ab e->¬ isT prog w h0 k e.2:=λj qj m i e hm ei ee hk=>by
   by_cases hmn:m<n
   .exact hq m i e hmn ei ee hk
   .refine qj (m-n) i (by omega) (by rw[itn,show n+(m-n)=m by omega];exact ei) ?_
    rw[hH,ee];obtain⟨k',e1,e2⟩:=Z.good e (Bk (by rw[By];exact ee))
    rw[isT.inj hk e2];simpa using e1
  cases gm with
  |emp j hj w' e' q =>
   rw[itn] at e';have hjN:n+j=N:=by
    rcases Ki (n+j) N with h|h|h
    .exact absurd (hNw _ h) e'
    .exact h
    .have:=w' (N-n) (by omega)
     rw[itn,show n+(N-n)=N by omega] at this
     exact absurd this hNe
   dsimp only;rw[itn,hjN];refine Ak (h2 λhk=>?_);obtain⟨e,he,hke⟩:=(Z.mem k).mp hk;obtain⟨i,hi,ei⟩:=Cd.mp he;have ei':es[i]? = Ab e:=by rw[<- By,An hi,ei]
   obtain⟨m,w1,w2⟩:=T.way i e ei';obtain⟨k',g1,g2⟩:=Z.good e he;have:=isT.inj hke g2;subst this;rw[g1] at w1 w2;have hmN:m<N:=by
    apply Fv;intro hc;by_cases hmN:m=N
    .subst hmN
     exact hNe (Bk (by rw[By];exact w1))
    .exact hNe (w2 N (by omega))
   exact miss j q m i e (by omega) w1 ei' hke
  |cand j i hj w' e' hh q =>
   rw[itn] at e';have hi:i<es.size:=by
    rw[<- T.size];exact(Dv.mp e').1
   have ei:es[i]? = Ab es[i]:=Eb hi;have hjN:n+j<N:=by
    rcases Ki (n+j) N with h|h|h
    .exact h
    .rw[h] at e'
     exact absurd (Bk (by rw[By];exact e')) hNe
    .have:=w' (N-n) (by omega)
     rw[itn,show n+(N-n)=N by omega] at this
     exact absurd this hNe
   obtain⟨k',g1,g2⟩:=Z.good es[i] (by simp)
   dsimp only;have main:Ap (As prog w) A (do
     let Ab (_,y):=es[i]?|unsupported "internal:set-entry"
     let equal <- holding [y] (eqBool y x)
     let (es',_,t') <- Wu S
     if true&&equal then return .there none
     let Ab same:=t'.sameMemory t.moves t.mask|unsupported "set.changed-during-lookup:is-the-new-block-at-the-old-address"
     let still <- match (if same then t'.slot (it t.mask j (it t.mask n (st t.mask (Bq (Bi prog w) k)))).j else .empty) with
      |.live i'=>match es'[i']? with
       |some (_,y')=>do pure (if <- isSame y' y then Ab i' else none)
       |none=>pure none
      |_=>pure none
     match still with
     |none=>rule "set.search.anew";Rb S x (Bq (Bi prog w) k) true fuel none
     |some i'=>if equal then return .there (Ab i') else Rb S x (Bq (Bi prog w) k) true fuel (Ab (it t.mask (j+1) (it t.mask n (st t.mask (Bq (Bi prog w) k)))))) Q E s:=by
    rw[ei];dsimp only;refine Ad (Ct (eqT hu hS g2 hx ?_));refine Ad (Ga ho hd T.fits ?_);by_cases hkk:k'=k
    .subst hkk
     simp only[decide_true,Bool.and_self,Dt];exact Ak (h1 ((Z.mem k').mpr ⟨es[i],by simp,g2⟩))
    .simp only[hkk,decide_false,Kq,Bu,Eh]
     have hm:t.sameMemory t.moves t.mask=Ab true:=by simp[SetTable.sameMemory]
     rw[hm];dsimp only;rw[itn,dE T.tb e'];simp only[Dt,ei];refine Ad (AG g2 ?_);simp only[Dt];refine Ad (Ak ?_);dsimp only;refine K3 hu hS ho hd T Z hx N hNw hNe hNf h1 h2 fuel (n+j+1) _ ?_ (by omega) (by omega) λm i' e hm ei' ee hk=>?_
     .rw[Nr,itn]
      rfl
     .by_cases hmj:m<n+j
      .exact miss j q m i' e hmj ei' ee hk
      .have:m=n+j:=by omega
       subst this;have:=WN T.tb.rs ei' e';subst this;rw[ei] at ee;cases ee;exact hkk (isT.inj g2 hk)
   refine oO (λ_=>?_) λ_=>?_
   .refine Ad (AI hS hx (λy hy=>?_) ?_)
    .obtain⟨e,he,rfl⟩:=Bz.mp hy
     have:e∈es.toList:=by
      have:=(Ob.mp he);exact Ob.mpr (Array.mem_filter.mp this).1
     obtain⟨k2,_,g⟩:=Z.good e this;exact⟨k2,g⟩
    .simp only[Bu,Eh]
     exact main
   .exact main
end
end _S
namespace _S
open PySem
open PySem.SetTable (Probe leap runEnd turns bits)
@[reducible] def setO (es:Bn (Am × Ac))(ep:Ai)(t:Fw):Ci:={ cls:=.type "set",dict:=none,data:=.set es ep t }
theorem bI {h:Bj}{S:Af}{es es':Bn (Am × Ac)}{ep:Ai}{t t':Fw}(ho:h.get? S=Ab (setO es ep t)):(h.update S (wP es' t')).get? S=Ab (setO es' (ep+1) t'):=DL _ ho rfl
structure SetK {K:Type}(is:K->Ac->Prop)(hash:K->Am)(S:Af)(led:Ar)(V:Aa Ac)(seen:Aa K)(h:Bj):Prop where
 ex:∃ es ep t,h.get? S=Ab (setO es ep t)/\Set0 is hash es seen/\TabT t es/\t.led=led/\∀ e∈es.toList,e.2∈V
section
variable {prog:Bd}{w:Bt}{h0:Bj}{A:Bo}{E:Ac->Ah->Prop}{s:Ah}{S:Af}{led:Ar}{V:Aa Ac}
theorem J7 (a:Af)(wanted:Ai):setRelay a wanted=(do
  let (es,_,t) <- Wu a
  if Ff wanted>sizeLine then unsupported "set:memory"
  let (es,t) <- (do
   let Ab (t,qO):=t.relaid (es.map (·.1)) wanted|unsupported "internal:set-table-without-room"
   let es':=qO.filterMap (es[·]?)
   if es'.size != es.size then unsupported "internal:set-table-lost-an-element"
   pure (es',t))
  storeSet a es t):=rfl
theorem IS {seen:Aa (Aa Am)}{k:Aa Am}{x:Ac}{Q:Ar->Ah->Prop}(hu:A.units<Dw)(hS:Sup h0 s.heap)(Z:SetK (isT prog w h0) (Bq (Bi prog w)) S led V seen s.heap)(hx:isT prog w h0 k x)(hV:x∈V){U:Aa (Aa Am)}(hU:U.length<=1000)(hU1:∀ k'∈seen,k'∈U)(hU2:k∈U)
  (h:∀ (b:Ar) (h':Bj) (tk:Ai),s.toks<=tk->Fd S s.heap h'->SetK (isT prog w h0) (Bq (Bi prog w)) S led V (k::seen) h'->Q b { s with heap:=h',toks:=tk }) : Ap (As prog w) A (Zk S x) Q E s:=by
 obtain⟨es,ep,t,ho,Z,T,hl,hm⟩:=Z;unfold Zk;refine Ct (Ad (HN hu hS hx ?_));unfold setAddHashed setAddHashedIn;refine Ct (Ad (Ga (s:={ s with toks:=s.toks+(k.length+1) }) ho rfl T.fits ?_))
 dsimp only;have hsc:byScan x es=false:=by
  obtain⟨a,rfl,_⟩:=hx;rfl
 rw[hsc];simp only[Bu,Eh];obtain⟨e,he,hne⟩:=T.gap;have first:∃ N,Way t (st t.mask (Bq (Bi prog w) k)) N/\(it t.mask N (st t.mask (Bq (Bi prog w) k))).j ∉ t.place.toList/\N<10*turns t.mask:=by
  obtain⟨N,hN,eN⟩:=rP T.msk (Bq (Bi prog w) k) he;have gm:=kS T.tb (λ_=>Bq (Bi prog w) k+1) (Bq (Bi prog w) k) (10*turns t.mask) (st t.mask (Bq (Bi prog w) k)) rfl ⟨N,hN,by rw[eN];exact hne⟩
  generalize Kh t _ _ _ _=r at gm;cases gm with
  |emp j hj w' e' q=>exact⟨j,w',e',hj⟩
  |cand j i hj w' e' hh q=>exact absurd hh (by omega)
 obtain⟨N,hNw,hNe,hNf⟩:=first
 have hNt:N<100000:=by
  have:turns t.mask<=2200:=by
   unfold turns;rcases T.msk with h|h|h|h|h <;> rw[h] <;> omega
  omega
 refine Ad (K3 (s:={ s with toks:=s.toks+(k.length+1) }) hu hS ho rfl T Z hx N hNw hNe hNf (λhk=>?_) (λhk=>?_) 100000 0 none rfl (by omega) (by omega) λm i e hm=>by omega)
 .exact Ak (h _ s.heap _ (by omega) (Ra _ _) ⟨es,ep,t,ho,Z.again hk,T,hl,hm⟩)
 .have hle:es.size<1000:=Bm (Z.few hU1 hU2 hk) hU
  dsimp only;refine Ad (Ga (s:={ s with toks:=s.toks+(k.length+1) }) ho rfl T.fits ?_)
  obtain⟨p1,p2,p3,p4⟩:=T.put (h:=Bq (Bi prog w) k) (x:=x) hNw hNe (G0 _ _ _);generalize hj:(it t.mask N (st t.mask (Bq (Bi prog w) k))).j=j at *;have m1:(t.put j).1.mask=t.mask:=rfl;have m2:(t.put j).1.plain=true:=T.plain;have m3:(t.put j).1.led=led:=hl;generalize hp:t.put j=tp at *;obtain⟨t1,p⟩:=tp;dsimp only at p1 p2 p3 p4 m1 m2 m3 ⊢;rw[m2];simp only[Dt];refine Ad (IV (s:={ s with toks:=s.toks+(k.length+1) }) hS hx ?_)
  simp only[Dt,Aa1,AaB];have hsz:(Bw es p (Bq (Bi prog w) k,x)).size=es.size+1:=vT _ _ _;have hline:es.size+1<=sizeLine:=by rw[Ev];omega
  refine Ad (Mz (s:={ s with toks:=s.toks+(k.length+1) }) ho rfl ?_ (by rw[hsz];exact hline))
  have Z1:Set0 (isT prog w h0) (Bq (Bi prog w)) (Bw es p (Bq (Bi prog w) k,x)) (k::seen):=by
   refine Z.push (λa b=>isT.inj a b) hx hk ?_;have:=Ic es p (Bq (Bi prog w) k,x);rw[Hx] at this;exact this
  have hm1:∀ e∈(Bw es p (Bq (Bi prog w) k,x)).toList,e.2∈V:=λe he=>by
   have:=(Ic es p (Bq (Bi prog w) k,x)).mem_iff.mp he;rw[Hx] at this;rcases Cp.mp this with h1|h1
   .exact hm e h1
   .simp at h1;subst h1;exact hV
  have ho1:=bI (es':=Bw es p (Bq (Bi prog w) k,x)) (t':=t1) ho;have sb1:=Hm s.heap S (wP (Bw es p (Bq (Bi prog w) k,x)) t1);have hfit:t1.fits (Bw es p (Bq (Bi prog w) k,x)).size=true:=by
   have h3:t1.fill=es.size+1:=by unfold Lj;rw[p1.dm,p2,hsz];rfl
   have h2:=T.few;unfold Wl;rw[h3,p2,hsz,m1];rcases T.msk with h|h|h|h|h <;> rw[h] at h2 ⊢ <;> simp <;> omega
  refine oO (λhf=>?_) λhf=>?_
  .have hM1:Msk t1.mask:=by rw[m1];exact T.msk
   have h3:((Bw es p (Bq (Bi prog w) k,x)).size-1)*5<t1.mask*3:=by rw[hsz,m1];exact T.few
   obtain⟨q1,t2,qO,q2,q3,q4,q5,_⟩:=bU hM1 m2 p2 (by rw[hsz];omega) (by simpa using hf) p1.dm h3 (by rw[hsz];omega)
   rw[hsz] at q1 q2;rw[J7];refine Ad ?_;refine Ad (Ga (s:={ s with heap:=_,toks:=s.toks+(k.length+1) }) ho1 rfl hfit ?_)
   dsimp only;rw[Bc (by rw[Ev];omega)]
   refine Ad ?_;rw[q2];dsimp only;have hs2:(qO.filterMap λx_1=>(Bw es p (Bq (Bi prog w) k,x))[x_1]?).size=es.size+1:=by rw[<- Df,q4.length_eq,Df,hsz]
   rw[Bc (by rw[hs2,hsz];simp)]
   refine Ak ?_;refine Mz (s:={ s with heap:=_,toks:=s.toks+(k.length+1) }) ho1 rfl ?_ (by rw[hs2];exact hline)
   refine Ak (h _ _ _ (Jm _ _) (sb1.trans (Hm _ S _)) ⟨_,_,t2,bI ho1,Z1.perm q4,q5,by rw[q3];exact m3,λe he=>hm1 e (q4.mem_iff.mp he)⟩)
  .refine Ak (h _ _ _ (Jm _ _) sb1 ⟨_,_,t1,ho1,Z1,⟨p1,by rw[m1];exact T.msk,p2,by rw[m1];exact p3,?_,by rw[m1];exact p4,m2⟩,m3,hm1⟩)
   have h3:t1.fill=es.size+1:=by unfold Lj;rw[p1.dm,p2,hsz];rfl
   unfold Si at hf;rw[h3] at hf;rw[hsz];simpa using hf
end
end _S
namespace _S
open PySem
open PySem.SetTable (Probe leap runEnd turns bits)
variable {seen:Aa Am}
def isI (prog:Bd)(w:Bt)(k:Am)(v:Ac):Prop:=(Bi prog w).is k v=true
section
variable {prog:Bd}{w:Bt}{A:Bo}{E:Ac->Ah->Prop}{s:Ah}{S:Af}{led:Ar}{V:Aa Ac}
set_option tactic.hygienic true in
theorem wM {k:Am}{v:Ac}(h:isI prog w k v):∃ t,v=.int k t:=by
 cases v <;> first|(exact absurd h (by rintro⟨⟩)) | skip
 rename_i i t;refine⟨t,?_⟩;have:i=k:=(Bi prog w).inj (.int i t) i k (Wm _ _ _ _) h;rw[this]
theorem rC {es:Bn (Am × Ac)}(Z:Set0 (isI prog w) (Bi prog w).hash es seen):ElemsOf (Bi prog w) es.toList:=λe he=>by
 obtain⟨k,h1,h2⟩:=Z.good e he;refine⟨⟨k,h2,h1⟩,?_⟩;obtain⟨t,q⟩:=wM h2;rw[q];rfl
theorem IR {k:Am}{x:Ac}{Q:Ar->Ah->Prop}(Z:SetK (isI prog w) (Bi prog w).hash S led V seen s.heap)(hx:isI prog w k x)(hV:x∈V){U:Aa Am}(hU:U.length<=1000)(hU1:∀ k'∈seen,k'∈U)(hU2:k∈U)
  (h:∀ (b:Ar) (h':Bj) (tk:Ai),s.toks<=tk->Fd S s.heap h'->SetK (isI prog w) (Bi prog w).hash S led V (k::seen) h'->Q b { s with heap:=h',toks:=tk }) : Ap (As prog w) A (Zk S x) Q E s:=by
 obtain⟨es,ep,t,ho,Z,T,hl,hm⟩:=Z;have hsc:x.scannable=true:=by
  obtain⟨tk,q⟩:=wM hx;rw[q];rfl
 have hf:=T.fits;have hb:es.size<scanBound:=by
  have h1:=T.few;have:scanBound=4096:=rfl;rcases T.msk with h|h|h|h|h <;> rw[h] at h1 <;> omega
 unfold Zk;refine Ct (Ad ((Bi prog w).pyHash (k:=k) hx ?_));unfold setAddHashed setAddHashedIn;refine Ct (Ad (Ga (s:={ s with toks:=s.toks+1 }) ho rfl hf ?_))
 dsimp only;rw[byScan_of hsc hb (rC Z)];simp only[Dt];unfold setAddByScan;refine Ad (Ad (Kb (Ad (wpAny_setScan_of (s:={ s with toks:=s.toks+1 }) hx ho rfl hf (rC Z) ?_))))
 cases hr:es.toList.findIdx? (λe=>(Bi prog w).is k e.2) with
 |some j =>
  dsimp only;obtain⟨hj,hpj,_⟩:=List.findIdx?_eq_some_iff_getElem.mp hr;have hk:k∈seen:=(Z.mem k).mpr ⟨es.toList[j],Hr hj,hpj⟩;exact Ak (Ak (h _ s.heap _ (Jm _ _) (Ra _ _) ⟨es,ep,t,ho,Z.again hk,T,hl,hm⟩))
 |none =>
  dsimp only;have hk:k ∉ seen:=λhk=>by
   obtain⟨e,he,q⟩:=(Z.mem k).mp hk;have:=List.findIdx?_eq_none_iff.mp hr e he;rw[show (Bi prog w).is k e.2=true from q] at this
   cases this
  have hle:es.size<1000:=Bm (Z.few hU1 hU2 hk) hU;obtain⟨e,he,hne⟩:=T.gap;have first:∃ N,Way t (st t.mask ((Bi prog w).hash k)) N/\(it t.mask N (st t.mask ((Bi prog w).hash k))).j ∉ t.place.toList/\t.freeSlot ((Bi prog w).hash k)=Ab ((it t.mask N (st t.mask ((Bi prog w).hash k))).j,false):=by
   obtain⟨N,hN,eN⟩:=rP T.msk ((Bi prog w).hash k) he;have gm:=kS T.tb (λ_=>(Bi prog w).hash k+1) ((Bi prog w).hash k) (10*turns t.mask) (st t.mask ((Bi prog w).hash k)) rfl ⟨N,hN,by rw[eN];exact hne⟩
   unfold SetTable.freeSlot SetTable.probe;rw[AM];generalize Kh t _ _ _ _=r at gm;cases gm with
   |emp j hj w' e' q=>exact⟨j,w',e',rfl⟩
   |cand j i hj w' e' hh q=>exact absurd hh (by omega)
  obtain⟨N,hNw,hNe,hfs⟩:=first
  obtain⟨p1,p2,p3,p4⟩:=T.put (h:=(Bi prog w).hash k) (x:=x) hNw hNe (G0 _ _ _);generalize hj:(it t.mask N (st t.mask ((Bi prog w).hash k))).j=j at *;have m1:(t.put j).1.mask=t.mask:=rfl;have m2:(t.put j).1.plain=true:=T.plain;have m3:(t.put j).1.led=led:=hl;generalize hp:t.put j=tp at *;obtain⟨t1,p⟩:=tp;dsimp only at p1 p2 p3 p4 m1 m2 m3 ⊢;have hsz:(Bw es p ((Bi prog w).hash k,x)).size=es.size+1:=vT _ _ _;have hfit:t1.fits (Bw es p ((Bi prog w).hash k,x)).size=true:=by
   have h3:t1.fill=es.size+1:=by unfold Lj;rw[p1.dm,p2,hsz];rfl
   have h2:=T.few;unfold Wl;rw[h3,p2,hsz,m1];rcases T.msk with h|h|h|h|h <;> rw[h] at h2 ⊢ <;> simp <;> omega
  have lay:layNew t es ((Bi prog w).hash k) x=(Bw es p ((Bi prog w).hash k,x),t1,false,false):=by
   unfold layNew;rw[hfs];dsimp only;rw[hp];dsimp only;unfold SetTable.orStandIn;rw[hfit];rfl
  rw[lay];dsimp only;refine Ad (Ak (a:=()) ?_);have hbv:Qh 8 x=pure true:=by
   rw[hashByValue_scannable 8 hsc];obtain⟨tk,q⟩:=wM hx;subst q;rfl
  rw[hbv,ite_self];refine Ad (Ak ?_);simp only[Dt];have hline:es.size+1<=sizeLine:=by rw[Ev];omega
  refine Ad (Mz (s:={ s with toks:=s.toks+1 }) ho rfl ?_ (by rw[hsz];exact hline))
  have pm:(Bw es p ((Bi prog w).hash k,x)).toList.Perm (es.toList++[((Bi prog w).hash k,x)]):=by
   have:=Ic es p ((Bi prog w).hash k,x);rw[Hx] at this;exact this
  have Z1:Set0 (isI prog w) (Bi prog w).hash (Bw es p ((Bi prog w).hash k,x)) (k::seen):=Z.push (λa b=>(Bi prog w).inj _ _ _ a b) hx hk pm;have hm1:∀ e∈(Bw es p ((Bi prog w).hash k,x)).toList,e.2∈V:=λe he=>by
   rcases Cp.mp (pm.mem_iff.mp he) with h1|h1
   .exact hm e h1
   .simp at h1;subst h1;exact hV
  have ho1:=bI (es':=Bw es p ((Bi prog w).hash k,x)) (t':=t1) ho;have sb1:=Hm s.heap S (wP (Bw es p ((Bi prog w).hash k,x)) t1);refine oO (λhf=>?_) λhf=>?_
  .have hM1:Msk t1.mask:=by rw[m1];exact T.msk
   have h3:((Bw es p ((Bi prog w).hash k,x)).size-1)*5<t1.mask*3:=by rw[hsz,m1];exact T.few
   obtain⟨q1,t2,qO,q2,q3,q4,q5,q6⟩:=bU hM1 m2 p2 (by rw[hsz];omega) (by simpa using hf) p1.dm h3 (by rw[hsz];omega)
   have hs2:(qO.filterMap λx_1=>(Bw es p ((Bi prog w).hash k,x))[x_1]?).size=es.size+1:=by rw[<- Df,q4.length_eq,Df,hsz]
   have rl:relayAll t1 (Bw es p ((Bi prog w).hash k,x)) (Hj (Bw es p ((Bi prog w).hash k,x)).size)=(qO.filterMap λx_1=>(Bw es p ((Bi prog w).hash k,x))[x_1]?,t2,false):=by
    unfold relayAll;rw[q2];dsimp only;have c1:coversAll qO (Bw es p ((Bi prog w).hash k,x)).size=true:=by
     unfold coversAll;exact List.isPerm_iff.mpr q6
    rw[c1,q5.fits];rfl
   rw[rl];dsimp only;refine Ad (Ak (a:=()) ?_);refine Ad (Mz (s:={ s with heap:=_,toks:=s.toks+1 }) ho1 rfl ?_ (by rw[hs2];exact hline))
   exact Ak (Ak (h _ _ _ (Jm _ _) (sb1.trans (Hm _ S _)) ⟨_,_,t2,bI ho1,Z1.perm q4,q5,by rw[q3];exact m3,λe he=>hm1 e (q4.mem_iff.mp he)⟩))
  .refine Ak (Ak (h _ _ _ (Jm _ _) sb1 ⟨_,_,t1,ho1,Z1,⟨p1,by rw[m1];exact T.msk,p2,by rw[m1];exact p3,?_,by rw[m1];exact p4,m2⟩,m3,hm1⟩))
   have h3:t1.fill=es.size+1:=by unfold Lj;rw[p1.dm,p2,hsz];rfl
   unfold Si at hf;rw[h3] at hf;rw[hsz];simpa using hf
end
end _S
namespace _S
open PySem
variable {Q:Ac->Ah->Prop}{i:Ai}
structure AddS (prog:Bd)(w:Bt){K:Type}(is:K->Ac->Prop)(hash:K->Am)(h0:Bj):Prop where
 add:∀ {A:Bo} {E:Ac->Ah->Prop} {s:Ah} {S:Af} {led:Ar} {V:Aa Ac} {seen U:Aa K} {k:K} {x:Ac} {Q:Ar->Ah->Prop},A.units<Dw->Sup h0 s.heap->SetK is hash S led V seen s.heap->is k x->x∈V->U.length<=1000->(∀ k'∈seen,k'∈U)->k∈U ->
  (∀ (b:Ar) (h':Bj) (tk:Ai),s.toks<=tk->Fd S s.heap h'->SetK is hash S led V (k::seen) h'->Q b { s with heap:=h',toks:=tk }) -> Ap (As prog w) A (Zk S x) Q E s
theorem MT {prog:Bd}{w:Bt}(h0:Bj):AddS prog w (isT prog w h0) (Bq (Bi prog w)) h0:=⟨λhu hS Z hx hV h1 h2 h3 h=>IS hu hS Z hx hV h1 h2 h3 h⟩
theorem MS {prog:Bd}{w:Bt}(h0:Bj):AddS prog w (isI prog w) (Bi prog w).hash h0:=⟨λ_ _ Z hx hV h1 h2 h3 h=>IR Z hx hV h1 h2 h3 h⟩
def y8 {K:Type}(key:Ai->K):Ai->Aa K
 |0=>[]
 |i+1=>key i::y8 key i
theorem jC {K:Type}{key:Ai->K}{k:K}:∀ {n:Ai},k∈y8 key n↔∃ i,i<n/\key i=k
 |0=>by simp[y8]
 |n+1=>by
  rw[y8,Aw,jC];constructor
  .rintro (rfl|⟨i,h,e⟩)
   .exact⟨n,by omega,rfl⟩
   .exact⟨i,by omega,e⟩
  .rintro⟨i,h,e⟩
   by_cases hi:i=n
   .subst hi;exact .inl e.symm
   .exact .inr ⟨i,by omega,e⟩
section
variable {prog:Bd}{w:Bt}{A:Bo}{R:Sa->Ah->Prop}{I:Af}{fp wr:Aa Af}{G:Bn Zs->Bn Zs->Prop}{n:Ai}{P:Ai->Ac->Prop}{St:Ai->Ah->Prop}
variable {K:Type}{is:K->Ac->Prop}{hash:K->Am}{h0:Bj}{led:Ar}{V:Aa Ac}{U:Aa K}
theorem SetK.sup {S:Af}{seen:Aa K}{h h':Bj}(Z:SetK is hash S led V seen h)(e:∀ o,h.get? S=Ab o->h'.get? S=Ab o):SetK is hash S led V seen h':=by
 obtain⟨es,ep,t,ho,r⟩:=Z;exact⟨es,ep,t,e _ ho,r⟩
theorem iJ (a:AddS prog w is hash h0)(W:WalksS prog w A.in1 I fp wr G n P St)(S:Af)(hSf:S ∉ fp)(hu:A.in1.units<Dw)(key:Ai->K)(hkey:∀ i v,P i v->is (key i) v/\v∈V)(hU:U.length<=1000)(hUk:∀ i,i<n->key i∈U)
  (hS0:h0.get? S=none) (hw0:∀ b∈wr,h0.get? b=none):∀ (k i:Ai) (s:Ah),n-i=k->i<=n->St i s->Sup h0 s.heap->SetK is hash S led V (y8 key i) s.heap ->
   (∀ s',Moved (S::wr) G s s'->SetK is hash S led V (y8 key n) s'.heap->R (.ok (.ret .none)) s')->Go (As prog w) A (.builtin "set.update.loop" ⟨[.ref S,.ref I],[]⟩) R s:=by
 have hSw:S ∉ wr:=λh=>hSf (W.sub _ h);have hsub:∀ b∈wr,b∈S::wr:=λb hb=>Cc _ hb;intro k
 induction k with
 |zero =>
  intro i s hk hi hst hS Z hR;have hin:i=n:=by omega
  subst hin;refine EQ Lx ?_;rw[Eo Ig _];show Ap _ A.in1 (Mk (.ref I) >>= _) _ _ s;refine Ad (W.done s _ _ hst λs' hm=>?_);exact Ak (hR s' (hm.mono hsub) (Z.sup λo e=>hm.heap S _ hSw e))
 |succ k ih =>
  intro i s hk hi hst hS Z hR;have hlt:i<n:=by omega
  refine EQ Lx ?_;rw[Eo Ig _];show Ap _ A.in1 (Mk (.ref I) >>= _) _ _ s;refine Ad (W.item i s _ _ hlt hst λv s' hP hst' hm=>?_);obtain⟨q1,q2⟩:=hkey i v hP;have hS':Sup h0 s'.heap:=λb o e=>hm.heap b o (λhb=>by rw[hw0 b hb] at e;cases e) (hS b o e)
  show Ap _ A.in1 (holding [v] (Zk S v) >>= _) _ _ s';refine Ad (Ct (a.add hu hS' (Z.sup λo e=>hm.heap S _ hSw e) q1 q2 hU (λk' hk'=>?_) (hUk i hlt) λb h' tk htk hsb Z'=>?_))
  .obtain⟨j,hj,e⟩:=jC.mp hk'
   exact e▸hUk j (by omega)
  .refine Ak ⟨Gu Ig _,ih (i+1) _ (by omega) hlt (W.frame _ s' _ _ hst' htk λb hb o e=>?_) (λb o e=>?_) Z' λs'' hm'' Z''=>?_⟩
   .rw[hsb.2 b (λh:b=S=>hSf (by rw[<- h];exact hb))];exact e
   .rw[hsb.2 b (λh:b=S=>by rw[h,hS0] at e;cases e)];exact hS' b o e
   .refine hR s'' (Moved.trans W.gtrans ((hm.mono hsub).then_heap htk λb o hb e=>?_) hm'') Z''
    rw[hsb.2 b (λh:b=S=>hb (by rw[h];exact Cz))];exact e
end
section
variable {prog:Bd}{w:Bt}{A:Bo}{E:Ac->Ah->Prop}{s:Ah}
def wL (w:Bt):Ar:=!w.params.followText "set-order"
@[reducible] def set0 (w:Bt):Ci:=setO #[] 0 (.fresh 0 0 (wL w))
theorem bT (a:Ac){Q₁:Ac->Ah->Prop}(h:Q₁ (.ref s.heap.objs.size) { s with heap:=s.heap.push (set0 w) }) : Go (As prog w) A (.call (.builtin "set.__new__") ⟨[.type "set",a],[]⟩) (wants Q₁ E) s:=by
 refine Oo ?_;show Ap _ A.in1 (do Se "set.__new__" ⟨[.type "set",a],[]⟩;again (.builtin "set.__new__" ⟨[.type "set",a],[]⟩)) _ _ s
 refine Ad (Lu (PySem.F.newCall_set_1 a) (Ak ⟨Gu Ul _,EQ PySem.F.entry_set_new ?_⟩));rw[Eo Ul _];unfold Hl.«set.__new__» Aa5;have hsub:=PySem.sub_set_self;obtain⟨hp,g,d,tk,os⟩:=s;dsimp only
 wp_walk
 refine Jn (Ak ?_);dsimp only;simp only[newObj];exact Ad (wpAny_alloc (Ak (Ak h)))
theorem dJ (w:Bt):TabT (.fresh 0 0 (wL w)) #[]:=⟨⟨by unfold Rs;exact Mv,rfl⟩,.inl rfl,rfl,λx hx=>(by cases hx),(show 0*5<7*3 by decide),λi e h=>(by simp at h),rfl⟩
variable {K:Type}{is:K->Ac->Prop}{hash:K->Am}{U:Aa K}
theorem YH (a:AddS prog w is hash s.heap){l:Af}{items:Bn Ac}{Q:Ac->Ah->Prop}(hh:A.handled=none)(hu:A.units+8<Dw)(hl:s.heap.IsList l items)(key:Ai->K)(hkey:∀ i v,items[i]? = Ab v->is (key i) v)(hU:U.length<=1000)(hUk:∀ i,i<items.size->key i∈U)
  (h:∀ (h':Bj) (tk:Ai),SetK is hash s.heap.objs.size (wL w) items.toList (y8 key items.size) h'->(∀ b o,s.heap.get? b=Ab o->h'.get? b=Ab o)->Q (.ref s.heap.objs.size) { s with heap:=h',toks:=tk }) :
  Ap (As prog w) A (call (.type "set") [.ref l]) Q E s:=by
 obtain⟨c,tl,hmro⟩:=Dm.mro;have hmade:=Dm.made;have hsub:=Dm.sub;refine Nd (Oo ?_);show Ap _ _ (callAny (.type "set") _) _ _ _;refine Ak ⟨Px _ (by decide +kernel),EQ Su ?_⟩
 rw[Xe (Um "set" [.ref l] []) rfl];have h1:=Dm.notType;have h2:=Dm.canCreate;have hct:=TD (.ref l)
 repeat (any_goals (first|assumption|wp_step))
 refine Iq (bT (.ref l) (E:=E) (Q₁:=λobj s₁=>obj=.ref s.heap.objs.size/\s₁={ s with heap:=s.heap.push (set0 w) }) ⟨rfl,rfl⟩) λr s₁ hr=>?_
 cases r with
 |error e=>exact hr
 |ok fl =>
  cases fl with
  |ret obj =>
   obtain⟨rfl,rfl⟩:=hr;have hS:(s.heap.push (set0 w)).get? s.heap.objs.size=Ab (set0 w):=Ba _ rfl;have hT:Re { s with heap:=s.heap.push (set0 w) } (.ref s.heap.objs.size) "set":=⟨_,hS,rfl⟩
   have hli:=Dm.init.lookup;have hbi:=Dm.init.bind (.ref s.heap.objs.size)
   repeat (any_goals (first|assumption|wp_step))
   refine Iq (Ku (R:=wants (λr s₂=>r=.none/\∃ h' tk,s₂={ s with heap:=h',toks:=tk } /\ SetK is hash s.heap.objs.size (wL w) items.toList (y8 key items.size) h'/\∀ b o,s.heap.get? b=Ab o->h'.get? b=Ab o) E) Dm.init.plain TW (Zl hT ?_)) λr₂ s₂ hr₂=>?_
   .obtain⟨ol,hol,hcl,nl,hdl⟩:=hl
    obtain⟨ocls,odict,odata,oslots⟩:=ol;simp only at hcl hdl;subst hcl;subst hdl;have hol':(s.heap.push (set0 w)).get? l=Ab { cls:=.type "list",dict:=odict,data:=.seq items nl,slots:=oslots }:=Ag _ hol;have hsls:=PySem.F.sub_list_set;have hslf:=PySem.F.sub_list_frozenset;have hne:(Gk "list" == Gk "dict")=false:=by decide
    have hl1:(s.heap.push (set0 w)).IsList l items:=⟨_,hol',rfl,nl,rfl⟩;unfold Hl.«set.__init__» noKeywords Pg;generalize hPI:Nl=PI
    wp_walk
    subst hPI;refine Fm hl1 ?_;refine Ad (Vd ?_);have hlS:l<s.heap.objs.size:=Ax hol;have hneI:l≠(s.heap.push (set0 w)).objs.size:=by
     rw[Dk];exact Bv (Kj hlS)
    have nS:s.heap.get? s.heap.objs.size=none:=Jd (AT _);have nI:s.heap.get? (s.heap.push (set0 w)).objs.size=none:=Jd (by rw[Dk];exact Jk _)
    refine iJ (led:=wL w) (V:=items.toList) a ((Wi (A:=A.in1.in1.in1) (by simp[hh]) _ l hneI items).toS) s.heap.objs.size ?_ (by show A.units+3<Dw;omega) key (λi v hv=>⟨hkey i v hv,?_⟩) hU hUk nS (λb hb=>?_) (items.size-0) 0 _ (by omega) (Gy _)
     ⟨⟨_,Ba _ rfl,rfl,rfl⟩,hl1.push _⟩ (λb o e=>Ag _ (Ag _ e)) ?_ λs' hm hS'=>?_
    .rw[Dk];simp only[Aw,Dl,Ca,Eu,Sh]
     exact⟨Bv (Ib _),Gv hlS⟩
    .exact Bk (by rw[By];exact hv)
    .rw[Dl.mp hb];exact nI
    .exact⟨#[],0,_,Ag _ hS,Set0.nil,dJ w,rfl,λe he=>by simp at he⟩
    .obtain⟨h',g',d',tk',os'⟩:=s'
     have eg:g'=s.gens:=hm.gens;have ed:d'=s.drawn:=hm.drawn;have eo:os'=s.os:=hm.os;subst eg;subst ed;subst eo;refine Ak (Ak ⟨rfl,h',tk',rfl,hS',λb o e=>?_⟩);refine hm.heap b o (λhb=>?_) (Ag _ (Ag _ e));rcases Aw.mp hb with rfl|hb
     .rw[nS] at e;cases e
     .rw[Dl.mp hb,nI] at e;cases e
   .cases r₂ with
    |error e=>exact hr₂
    |ok fl₂ =>
     cases fl₂ with
     |ret r =>
      obtain⟨rfl,h',tk,rfl,hS',hk'⟩:=hr₂
      repeat (any_goals (first|assumption|wp_step))
      exact h _ _ hS' hk'
     |_=>exact hr₂.elim
  |_=>exact hr.elim
theorem Z3 (a:AddS prog w is hash s.heap){l:Af}{items:Bn Ac}{Q:Ac->Ah->Prop}(hh:A.handled=none)(hu:A.units+8<Dw)(hl:s.heap.IsTuple l items)(key:Ai->K)(hkey:∀ i v,items[i]? = Ab v->is (key i) v)(hU:U.length<=1000)(hUk:∀ i,i<items.size->key i∈U)
  (h:∀ (h':Bj) (tk:Ai),SetK is hash s.heap.objs.size (wL w) items.toList (y8 key items.size) h'->(∀ b o,s.heap.get? b=Ab o->h'.get? b=Ab o)->Q (.ref s.heap.objs.size) { s with heap:=h',toks:=tk }) :
  Ap (As prog w) A (call (.type "set") [.ref l]) Q E s:=by
 obtain⟨c,tl,hmro⟩:=Dm.mro;have hmade:=Dm.made;have hsub:=Dm.sub;refine Nd (Oo ?_);show Ap _ _ (callAny (.type "set") _) _ _ _;refine Ak ⟨Px _ (by decide +kernel),EQ Su ?_⟩
 rw[Xe (Um "set" [.ref l] []) rfl];have h1:=Dm.notType;have h2:=Dm.canCreate;have hct:=TD (.ref l)
 repeat (any_goals (first|assumption|wp_step))
 refine Iq (bT (.ref l) (E:=E) (Q₁:=λobj s₁=>obj=.ref s.heap.objs.size/\s₁={ s with heap:=s.heap.push (set0 w) }) ⟨rfl,rfl⟩) λr s₁ hr=>?_
 cases r with
 |error e=>exact hr
 |ok fl =>
  cases fl with
  |ret obj =>
   obtain⟨rfl,rfl⟩:=hr;have hS:(s.heap.push (set0 w)).get? s.heap.objs.size=Ab (set0 w):=Ba _ rfl;have hT:Re { s with heap:=s.heap.push (set0 w) } (.ref s.heap.objs.size) "set":=⟨_,hS,rfl⟩
   have hli:=Dm.init.lookup;have hbi:=Dm.init.bind (.ref s.heap.objs.size)
   repeat (any_goals (first|assumption|wp_step))
   refine Iq (Ku (R:=wants (λr s₂=>r=.none/\∃ h' tk,s₂={ s with heap:=h',toks:=tk } /\ SetK is hash s.heap.objs.size (wL w) items.toList (y8 key items.size) h'/\∀ b o,s.heap.get? b=Ab o->h'.get? b=Ab o) E) Dm.init.plain TW (Zl hT ?_)) λr₂ s₂ hr₂=>?_
   .obtain⟨ol,hol,hcl,nl,hdl⟩:=hl
    obtain⟨ocls,odict,odata,oslots⟩:=ol;simp only at hcl hdl;subst hcl;subst hdl;have hol':(s.heap.push (set0 w)).get? l=Ab { cls:=.type "tuple",dict:=odict,data:=.seq items nl,slots:=oslots }:=Ag _ hol;have hsls:=PySem.F.sub_tuple_set;have hslf:=PySem.F.sub_tuple_frozenset;have hne:(Gk "tuple" == Gk "dict")=false:=by decide
    have hl1:(s.heap.push (set0 w)).IsTuple l items:=⟨_,hol',rfl,nl,rfl⟩;unfold Hl.«set.__init__» noKeywords Pg;generalize hPI:Nl=PI
    wp_walk
    subst hPI;refine Hd hl1 ?_;refine Ad (Vd ?_);have hlS:l<s.heap.objs.size:=Ax hol;have hneI:l≠(s.heap.push (set0 w)).objs.size:=by
     rw[Dk];exact Bv (Kj hlS)
    have nS:s.heap.get? s.heap.objs.size=none:=Jd (AT _);have nI:s.heap.get? (s.heap.push (set0 w)).objs.size=none:=Jd (by rw[Dk];exact Jk _)
    refine iJ (led:=wL w) (V:=items.toList) a ((Walks.tuple (A:=A.in1.in1.in1) (by simp[hh]) _ l hneI items).toS) s.heap.objs.size ?_ (by show A.units+3<Dw;omega) key (λi v hv=>⟨hkey i v hv,?_⟩) hU hUk nS (λb hb=>?_) (items.size-0) 0 _ (by omega) (Gy _)
     ⟨⟨_,Ba _ rfl,rfl,rfl⟩,hl1.push _⟩ (λb o e=>Ag _ (Ag _ e)) ?_ λs' hm hS'=>?_
    .rw[Dk];simp only[Aw,Dl,Ca,Eu,Sh]
     exact⟨Bv (Ib _),Gv hlS⟩
    .exact Bk (by rw[By];exact hv)
    .rw[Dl.mp hb];exact nI
    .exact⟨#[],0,_,Ag _ hS,Set0.nil,dJ w,rfl,λe he=>by simp at he⟩
    .obtain⟨h',g',d',tk',os'⟩:=s'
     have eg:g'=s.gens:=hm.gens;have ed:d'=s.drawn:=hm.drawn;have eo:os'=s.os:=hm.os;subst eg;subst ed;subst eo;refine Ak (Ak ⟨rfl,h',tk',rfl,hS',λb o e=>?_⟩);refine hm.heap b o (λhb=>?_) (Ag _ (Ag _ e));rcases Aw.mp hb with rfl|hb
     .rw[nS] at e;cases e
     .rw[Dl.mp hb,nI] at e;cases e
   .cases r₂ with
    |error e=>exact hr₂
    |ok fl₂ =>
     cases fl₂ with
     |ret r =>
      obtain⟨rfl,h',tk,rfl,hS',hk'⟩:=hr₂
      repeat (any_goals (first|assumption|wp_step))
      exact h _ _ hS' hk'
     |_=>exact hr₂.elim
  |_=>exact hr.elim
theorem o9 (a:AddS prog w is hash s.heap){l:Af}{items:Bn Ac}{Q:Ac->Ah->Prop}(hh:A.handled=none)(hu:A.units+8<Dw)(hl:s.heap.IsList l items\/s.heap.IsTuple l items)(key:Ai->K)(hkey:∀ i v,items[i]? = Ab v->is (key i) v)(hU:U.length<=1000)(hUk:∀ i,i<items.size->key i∈U)
  (h:∀ (h':Bj) (tk:Ai),SetK is hash s.heap.objs.size (wL w) items.toList (y8 key items.size) h'->(∀ b o,s.heap.get? b=Ab o->h'.get? b=Ab o)->Q (.ref s.heap.objs.size) { s with heap:=h',toks:=tk }) :
  Ap (As prog w) A (call (.type "set") [.ref l]) Q E s:=by
 rcases hl with hl|hl
 .exact YH a hh hu hl key hkey hU hUk h
 .exact Z3 a hh hu hl key hkey hU hUk h
end
theorem v9 {α:Type}:∀ {l:Aa α} {i:Ai} (h:i<l.length),(l[i]::l.eraseIdx i).Perm l
 |a::l,0,h=>by simp
 |a::l,i+1,h=>by
  rw[List.eraseIdx_cons_succ,List.getElem_cons_succ];exact(Aa2 _ _ _).trans ((v9 (l:=l) (i:=i) (by simpa using h)).cons a)
theorem d8 {α:Type}(next:Ai->Ai):∀ (fuel k:Ai) (left:Aa α) (out:Bn α),left.length=fuel->(Xt next fuel k left out).toList.Perm (out.toList++left)
 |0,k,left,out,h=>by
  have:left=[]:=Oq h;subst this;unfold Xt;simp
 |fuel+1,k,left,out,h=>by
  unfold Xt;have hlt:next k % left.length<left.length:=Pd _ (by omega)
  rw[An hlt];dsimp only;refine(d8 next fuel (k+1) _ _ (by rw[Vp,Bb hlt];omega)).trans ?_
  rw[Hx,Fl];refine Uo _ ?_;exact v9 hlt
theorem nR {α:Type}(next:Ai->Ai)(xs:Bn α) : (Os next xs).toList.Perm xs.toList:=by
 have:=d8 next xs.size 0 xs.toList #[] (by simp)
 simpa [Os] using this
theorem yX:Slot "set_iterator" "__next__" "set_iterator.__next__":=
 .of (owner:="set_iterator") (n:="__next__") (by rw[ZB,Uq];kernel_rfl) (by decide +kernel) (by decide +kernel) (by decide +kernel) (.inl (by decide +kernel)) (by rw[Ve];kernel_rfl)
theorem mB:entryFor table "set_iterator.__next__" = Ab Hl.«set_iterator.__next__»:=entryFor_of_fast (by kernel_rfl)
theorem l6 (a:Ac):Zm "set_iterator.__next__" ⟨[a],[]⟩:=by unfold Zm;kernel_rfl
theorem dF:Slot "set_iterator" "__iter__" "set_iterator.__iter__":=
 .of (owner:="set_iterator") (n:="__iter__") (by rw[ZB,Uq];kernel_rfl) (by decide +kernel) (by decide +kernel) (by decide +kernel) (.inl (by decide +kernel)) (by rw[Ve];kernel_rfl)
theorem oG:entryFor table "set_iterator.__iter__" = Ab Hl.«dict_keyiterator.__iter__»:=entryFor_alias (id':="dict_keyiterator.__iter__") (by kernel_rfl) rfl (by decide +kernel) (by kernel_rfl)
theorem QV (a:Ac):Zm "set_iterator.__iter__" ⟨[a],[]⟩:=by unfold Zm;kernel_rfl
theorem oF:entryFor table "set.__iter__" = Ab Hl.«frozenset.__iter__»:=entryFor_alias (id':="frozenset.__iter__") (by kernel_rfl) rfl (by decide +kernel) (by kernel_rfl)
theorem BS (a:Af)(slot given epochThen:Ai):setNext a slot given epochThen=(do
  let (es,epoch,t) <- Wu a
  if <- wS then
   if epoch != epochThen then unsupported "set_iterator.__next__:elements-changed"
   return ((<- setWalk a)[given]?).map λe=>(e.2,slot)
  if !t.plain&&es.size>1 then unsupported "set_iterator.__next__:the-table-is-plain-no-more"
  (do if !t.led&&!es.isEmpty then unsupported "set:maker-not-led")
  return match es[Cf t.place slot]?,t.place[Cf t.place slot]? with
   |some (_,x),Ab j=>Ab (x,j+1)
   |_,_=>none):=rfl
theorem ME (a:Af):setWalk a=(do
  let (es,epoch,t) <- Wu a
  if <- wS then return Os ((<- ask).params.setOrder a epoch) es
  if !t.plain&&es.size>1 then return (<- drawOrder es.size es.toList).toArray
  (do if !t.led&&es.size>1 then unsupported "set:maker-not-led")
  return es):=rfl
theorem V0 (a:Af):setDrawn a=(do
  let (es,_,t) <- Wu a
  let byText <- wS
  return !byText&&(!t.plain&&es.size>1)):=rfl
structure Still (w:Bt)(S:Af)(es:Bn (Am × Ac))(ep:Ai)(t:Fw):Prop where
 tab:TabT t es
 led:t.led=wL w
def qO (w:Bt)(S:Af)(ep:Ai)(es:Bn (Am × Ac)):Bn (Am × Ac):=if w.params.followText "set-order" = true then Os (w.params.setOrder S ep) es else es
theorem mT (w:Bt)(S:Af)(ep:Ai)(es:Bn (Am × Ac)):(qO w S ep es).toList.Perm es.toList:=by
 unfold qO
 split
 .exact nR _ _
 .exact Vf _
theorem uB (w:Bt)(S:Af)(ep:Ai)(es:Bn (Am × Ac)):(qO w S ep es).size=es.size:=by
 rw[<- Df,(mT w S ep es).length_eq,Df]
def itO (slot i:Ai)(S:Af)(n ep:Ai):Ci:={ cls:=.type "set_iterator",data:=.fields #[.int slot 0,.int i 0,.ref S,.int n 0,.int ep 0] }
def At (w:Bt)(I S:Af)(es:Bn (Am × Ac))(ep:Ai)(t:Fw)(i:Ai)(h:Bj):Prop:=
 ∃ slot,h.get? I=Ab (itO slot i S es.size ep)/\h.get? S=Ab (setO es ep t)/\(w.params.followText "set-order" = true\/Cf t.place slot=i)
section
variable {prog:Bd}{w:Bt}{A:Bo}{E:Ac->Ah->Prop}{s:Ah}{S I:Af}{es:Bn (Am × Ac)}{ep:Ai}{t:Fw}
theorem Q9 {slot:Ai}{Q:Al (Ac × Ai)->Ah->Prop}(Z:Still w S es ep t)(ho:s.heap.get? S=Ab (setO es ep t))(hs:w.params.followText "set-order" = true\/Cf t.place slot=i)
  (h1:∀ e slot',(qO w S ep es)[i]? = Ab e->(w.params.followText "set-order" = true\/Cf t.place slot'=i+1)->Q (Ab (e.2,slot')) s) (h2:(qO w S ep es)[i]? = none->Q none s):Ap (As prog w) A (setNext S slot i ep) Q E s:=by
 rw[BS];refine Ad (Ga ho rfl Z.tab.fits ?_);dsimp only;refine Ad (Ad (Jn (Ak ?_)));cases hf:w.params.followText "set-order" with
 |true =>
  show Ap _ _ (if (w.params.followText "set-order")=true then _ else _) _ _ _
  rw[Bb hf];have hb:(ep != ep)=false:=by simp
  rw[hb];simp only[Bu,Eh];refine Ad ?_;rw[ME];refine Ad (Ga ho rfl Z.tab.fits ?_);dsimp only;refine Ad (Ad (Jn (Ak ?_)));show Ap _ _ (if (w.params.followText "set-order")=true then _ else _) _ _ _
  rw[Bb hf];refine Ad (Jn (Ak (Ak ?_)));show Q (((Os (w.params.setOrder S ep) es)[i]?).map λe=>(e.2,slot)) s;have ho':qO w S ep es=Os (w.params.setOrder S ep) es:=by unfold qO;rw[Bb hf]
  rw[ho'] at h1 h2;cases hx:(Os (w.params.setOrder S ep) es)[i]? with
  |none=>exact h2 hx
  |some e=>exact h1 e slot hx (.inl hf)
 |false =>
  show Ap _ _ (if (w.params.followText "set-order")=true then _ else _) _ _ _
  rw[Bc (by rw[hf];decide),Z.tab.plain,Z.led]
  unfold wL;rw[hf];simp only[Ll,Hg,Bu,Eh,Aa1];have hb:Cf t.place slot=i:=by
   rcases hs with h|h
   .rw[hf] at h;cases h
   .exact h
  rw[hb];have ho':qO w S ep es=es:=by unfold qO;rw[Bc (by rw[hf];decide)]
  rw[ho'] at h1 h2;refine Ak ?_;cases hx:es[i]? with
  |none=>exact h2 hx
  |some e =>
   have hi:i<t.place.size:=by rw[Z.tab.size];exact(Dv.mp hx).1
   have hp:t.place[i]? = Ab t.place[i]:=Eb hi;rw[hp];exact h1 e _ hx (.inr (o7 Z.tab.tb.rs hp))
theorem At.type (h:At w I S es ep t i s.heap):s.TypeIs (.ref I) "set_iterator":=by
 obtain⟨slot,h,_⟩:=h;exact⟨_,h,rfl⟩
theorem d3 (Z:Still w S es ep t)(hI:At w I S es ep t i s.heap)
  (h1:∀ e slot' slot,(qO w S ep es)[i]? = Ab e->s.heap.get? I=Ab (itO slot i S es.size ep)->s.heap.get? S=Ab (setO es ep t)->(w.params.followText "set-order" = true\/Cf t.place slot'=i+1) ->
   Q e.2 { s with heap:=(s.heap.update I (Wn (·.setIfInBounds 0 (Gf slot')))).update I (Wn (·.setIfInBounds 1 (Gf ((i:Am)+1)))) })
  (h2:(qO w S ep es)[i]? = none->Ap (As prog w) A (do setField (.ref I) 2 .none;raiseNew (<- newExc (.type "StopIteration") [])) (λ(fin:PySem.Fin) s'=>∃ r,fin=.done (.ret r)/\Q r s') E s) :
  Ap (As prog w) A (Hl.«set_iterator.__next__» ⟨[.ref I],[]⟩) (λfin s'=>∃ r,fin=.done (.ret r)/\Q r s') E s:=by
 obtain⟨slot,hg,hS,hb⟩:=hI;show Ap _ _ (fieldsOf (.ref I) >>= _) _ _ s;refine Ad (wpAny_fieldsOf hg rfl ?_);show Ap _ _ (setEntries S >>= _) _ _ s;refine Ad (Wp hS rfl Z.tab.fits ?_);have hne:(((es.size:Ai):Am) != ((es.size:Ai):Am))=false:=by simp
 rw[hne];simp only[Bu,Eh];show Ap _ _ (setNext S (slot:Am).toNat (i:Am).toNat (ep:Am).toNat >>= _) _ _ s;rw[Fn,Fn,Fn];refine Ad (Q9 Z hS hb (λe slot' he hb'=>?_) λhe=>?_)
 .dsimp only
  refine Ad (Mo hg rfl (by show 0<5;decide) ?_)
  have hg2:=DL (Wn (·.setIfInBounds 0 (Gf slot'))) hg rfl
  refine Ad (Mo hg2 rfl (by show 1<5;decide) ?_)
  exact Ak ⟨_,rfl,h1 e slot' slot he hg hS hb'⟩
 .exact h2 he
theorem MD (hh:A.handled=none)(hne:S≠I)(Z:Still w S es ep t):Walks prog w A I [I,S] [I] es.size (λi v=>∃ e,(qO w S ep es)[i]? = Ab e/\e.2=v) (λi h=>At w I S es ep t i h) where
 sub:=λb hb=>by simp at hb;simp[hb]
 frame:=λi h h' ⟨slot,h1,h2,h3⟩ hk=>⟨slot,hk I (by simp) _ h1,hk S (by simp) _ h2,h3⟩
 item:=λi s Q E hi st hQ=>by
  unfold Mk;refine Ad (Jb (Dy (name:=Fz "__next__") st.type yX (Dz yX st.type mB (d3 Z st (λe slot' slot he hg hS hb=>?_) λhe=>?_) (l6 _))))
  .refine Ak (hQ e.2 _ s.toks ⟨e,he,rfl⟩ ⟨slot',?_,?_,hb⟩ λb o hb e=>?_)
   .exact DL _ (DL _ hg rfl) rfl
   .rw[Bg _ _ hne.symm,Bg _ _ hne.symm];exact hS
   .have hb:I≠b:=λz=>hb (by simp[z])
    rw[Bg _ _ hb,Bg _ _ hb];exact e
  .have:=Array.getElem?_eq_none_iff.mp he
   rw[uB] at this;omega
 done:=λs Q E st hQ=>by
  unfold Mk;refine Ad (Jb (Dy (name:=Fz "__next__") st.type yX (Dz yX st.type mB (d3 Z st (λe slot' slot he hg hS hb=>?_) λhe=>?_) (l6 _))))
  .have:=(Dv.mp he).1
   rw[uB] at this;omega
  .obtain⟨slot,hg,hS,hb⟩:=st
   refine Ad (Mo hg rfl (by show 2<5;decide) ?_)
   refine Ad ?_;simp only[newExc,newTuple];refine Ad (Dg ?_ (by size_fits))
   refine Ad (m:=Pl _ _) (Lu (a:=Er) (by first|rfl|(simp only[Pl];rfl)) ?_)
   refine Dg ?_ (by size_fits)
   simp only[raiseNew];refine Ad (wpAny_handled ?_);rw[show A.in1.handled=none from hh]
   refine Ad (Ak (wpAny_throw ?_));refine Ad (Nv (T:="StopIteration") (b:=true) ⟨_,Ba _ rfl,rfl⟩ Va ?_);refine Ak (hQ _ s.toks λb o hb e=>?_);exact(((Hm ..).extBut.push _).push _) b o (λz=>hb (by simp[z])) e
 self:=λi s Q E st hQ=>by
  refine Yo st.type dF (Dz dF st.type oG ?_ (QV _));show Ap _ _ (ret (.ref I)) _ _ s;exact Ak ⟨_,rfl,"set_iterator",_,st.type,yX.lookup,hQ⟩
theorem VQ (Z:Still w S es ep t)(ho:s.heap.get? S=Ab (setO es ep t))(h:Q (.ref s.heap.objs.size) { s with heap:=s.heap.push (itO 0 0 S es.size ep) }) : Ap (As prog w) A (Nl (.ref S)) Q E s:=by
 have hT:s.TypeIs (.ref S) "set":=⟨_,ho,rfl⟩;refine Yo hT Ur (Dz Ur hT oF ?_ (PySem.F.args_set_iter_1 _));show Ap _ _ (Ru S >>= _) _ _ s;unfold Ru;refine Ad (Ad (Wp ho rfl Z.tab.fits (Ak ?_)));refine Ad ?_;rw[V0];refine Ad (Ga ho rfl Z.tab.fits ?_);dsimp only;refine Ad (Ad (Jn (Ak (Ak ?_))));rw[Z.tab.plain];simp only[Ll,Hg,Kq,Bu,Eh];refine Ad (Ak ?_);unfold setEpoch;refine Ad (Ad (Ga ho rfl Z.tab.fits (Ak ?_)));refine Ad (Dg (Ak ⟨_,rfl,"set_iterator",_,⟨_,Ba _ rfl,rfl⟩,yX.lookup,h⟩))
theorem GK (Z:Still w S es ep t)(ho:s.heap.get? S=Ab (setO es ep t)):At w s.heap.objs.size S es ep t 0 (s.heap.push (itO 0 0 S es.size ep)):=
 ⟨0,Ba _ rfl,Ag _ ho,.inr (o8 Z.tab.tb.rs)⟩
end
end _S
namespace _S
open PySem PySem.W PyProof.Rows
variable {vs:Aa Ac}{N:Ai}
structure Ord {K:Type}(lt:K->K->Ar):Prop where
 irr:∀ a,lt a a=false
 tr:∀ {a b c},lt a b=true->lt b c=true->lt a c=true
 tri:∀ {a b},lt a b=false->a=b\/lt b a=true
def ltI (a b:Am):Ar:=decide (a<b)
theorem UI:Ord ltI:=⟨λa=>by simp[ltI],λ{a b c} h1 h2=>by simp only[ltI,Ce] at *;omega,λ{a b} h=>by simp only[ltI,Ce,Sv] at *;omega⟩
theorem aM:∀ a:Aa Am,_H.lexLt a a=false
 |[]=>rfl
 |x::xs=>by rw[_H.lexLt_cons,Bb rfl];exact aM xs
theorem X4:∀ {a b c:Aa Am},_H.lexLt a b=true->_H.lexLt b c=true->_H.lexLt a c=true
 |_,[],[],_,h=>by cases h
 |_,_::_,[],_,h=>by cases h
 |[],_,_::_,_,_=>rfl
 |_::_,[],_::_,h,_=>by cases h
 |x::xs,y::ys,z::zs,h1,h2=>by
  rw[_H.lexLt_cons] at h1 h2 ⊢;by_cases e1:x=y
  .subst e1
   rw[Bb rfl] at h1;by_cases e2:x=z
   .rw[Bb e2] at h2 ⊢;exact X4 h1 h2
   .rw[Bc e2] at h2 ⊢;exact h2
  .rw[Bc e1] at h1
   have h1:=Bx h1;by_cases e2:y=z
   .subst e2;rw[Bc e1];exact Cy h1
   .rw[Bc e2] at h2
    have h2:=Bx h2;rw[Bc (by omega)]
    exact Cy (by omega)
theorem aP:∀ {a b:Aa Am},_H.lexLt a b=false->a=b\/_H.lexLt b a=true
 |[],[],_=>.inl rfl
 |[],_::_,h=>by cases h
 |_::_,[],_=>.inr rfl
 |x::xs,y::ys,h=>by
  rw[_H.lexLt_cons] at h ⊢;by_cases e:x=y
  .subst e
   rw[Bb rfl] at h ⊢;rcases aP h with h|h
   .exact .inl (by rw[h])
   .exact .inr h
  .rw[Bc e] at h
   have h:=He h;rw[Bc (El e)];exact .inr (Cy (by omega))
theorem x8:Ord _H.lexLt:=⟨aM,X4,aP⟩
theorem lG {α:Type}{p q:α->Ar}:∀ {l:Aa α},(∀ x∈l,p x=true->q x=true)->(∃ x∈l,q x=true/\p x=false)->l.countP p<l.countP q
 |[],_,⟨x,h,_⟩=>by simp at h
 |a::l,h,⟨x,hx,h1,h2⟩=>by
  have le:l.countP p<=l.countP q:=Nz λy hy=>h y (by simp[hy])
  rw[Zn,Zn];rcases Aw.mp hx with rfl|hx
  .rw[Bc (by rw[h2];decide),Bb h1];omega
  .have ih:=lG (l:=l) (λy hy=>h y (by simp[hy])) ⟨x,hx,h1,h2⟩
   have:=h a (by simp)
   cases hp:p a with
   |false=>rw[Bc (by decide)];split <;> omega
   |true=>rw[Bb rfl,Bb (this hp)];omega
section
variable {K:Type}{lt':K->K->Ar}
def mY (lt':K->K->Ar)(ks:Aa K)(x:K):Am:=(ks.countP (λk=>lt' k x):Ai)
theorem eR (O:Ord lt'){ks:Aa K}{x y:K}(hx:x∈ks):lt' x y=decide (mY lt' ks x<mY lt' ks y):=by
 unfold mY;cases h:lt' x y with
 |true =>
  refine(Cy ?_).symm;have:=lG (l:=ks) (p:=λk=>lt' k x) (q:=λk=>lt' k y) (λz _ hz=>O.tr hz h) ⟨x,hx,h,O.irr x⟩;omega
 |false =>
  refine(Cn ?_).symm;have:ks.countP (λk=>lt' k y)<=ks.countP (λk=>lt' k x):=by
   rcases O.tri h with e|h'
   .rw[e];exact AT _
   .exact Nz λz _ hz=>O.tr hz h'
  omega
def jH (lt':K->K->Ar)(ks:Aa K)(d:K)(i j:Ai):Ar:=lt' (ks.getD i d) (ks.getD j d)
def Nf (lt':K->K->Ar)(l:Aa K):Prop:=l.Pairwise λa b=>lt' b a=false
theorem jZ (O:Ord lt'):∀ {a b:Aa K},Nf lt' a->Nf lt' b->a.Perm b->a=b
 |[],b,_,_,p=>(List.nil_perm.mp p).symm
 |x::a,b,ha,hb,p=>by
  cases b with
  |nil=>exact absurd p.symm (by simp)
  |cons y b =>
   unfold Nf at ha hb;rw[Ej] at ha hb;have e:x=y:=by
    rcases Aw.mp (p.mem_iff.mp (.head _)) with e|e
    .exact e
    .rcases Aw.mp (p.mem_iff.mpr (.head _)) with e'|e'
     .exact e'.symm
     .have h1:=ha.1 y e'
      have h2:=hb.1 x e;rcases O.tri h1 with e|h
      .exact e.symm
      .rw[h2] at h;cases h
   subst e;rw[jZ O ha.2 hb.2 (List.Perm.cons_inv p)]
theorem XH (O:Ord lt'){l:Aa K}(h:Nf lt' l)(nd:l.Nodup):l.Pairwise λa b=>lt' a b=true:=by
 refine List.Pairwise.imp₂ (λ{a b} h1 h2=>?_) h nd;exact(O.tri h1).elim (λe=>absurd e.symm h2) id
def yR (lt':K->K->Ar)(l:Aa K):Aa K:=l.mergeSort λa b=>!lt' b a
theorem y0 (l:Aa K):(yR lt' l).Perm l:=List.mergeSort_perm _ _
theorem kF (O:Ord lt')(l:Aa K):Nf lt' (yR lt' l):=by
 have:=Sw (le:=λa b=>!lt' b a) (λa b c h1 h2=>?_) (λa b=>?_) l
 .exact this.imp λh=>by simpa using h
 .have h1:lt' b a=false:=by simpa using h1
  have h2:lt' c b=false:=by simpa using h2
  cases h3:lt' c a with
  |false=>rfl
  |true =>
   rcases O.tri h1 with e|h
   .rw[<- e] at h3;rw[h3] at h2;cases h2
   .have:=O.tr h3 h;rw[h2] at this;cases this
 .cases h:lt' b a with
  |false=>rfl
  |true =>
   cases h':lt' a b with
   |false=>rfl
   |true=>have:=O.tr h h';rw[O.irr] at this;cases this
def uN (lt':K->K->Ar)(x:K):Aa K->Aa K
 |[]=>[x]
 |y::l=>if lt' x y then x::y::l else if lt' y x then y::uN lt' x l else y::l
def srt (lt':K->K->Ar):Aa K->Aa K
 |[]=>[]
 |x::xs=>uN lt' x (srt lt' xs)
set_option tactic.hygienic true in
theorem fL (O:Ord lt')(x y:K):∀ l:Aa K,y∈uN lt' x l↔y=x\/y∈l
 |[]=>by simp[uN]
 |z::l=>by
  unfold uN
  split
  .simp
  .rename_i h1
   split
   .rw[Aw,fL O x y l,Aw]
    exact⟨λh=>by rcases h with h|h|h <;> simp[h],λh=>by rcases h with h|h|h <;> simp[h]⟩
   .rename_i h2
    have:x=z:=(O.tri (by simpa using h1)).elim id λh=>absurd h h2
    subst this;simp
set_option tactic.hygienic true in
theorem aF (O:Ord lt')(x:K):∀ l:Aa K,l.Pairwise (λa b=>lt' a b=true)->(uN lt' x l).Pairwise (λa b=>lt' a b=true)
 |[],_=>by simp[uN]
 |z::l,h=>by
  rw[Ej] at h;unfold uN
  split
  .rename_i h1
   refine Ej.mpr ⟨λy hy=>?_,Ej.mpr h⟩;rcases Aw.mp hy with rfl|hy
   .exact h1
   .exact O.tr h1 (h.1 y hy)
  .split
   .rename_i h2
    refine Ej.mpr ⟨λy hy=>?_,aF O x l h.2⟩;rcases (fL O x y l).mp hy with rfl|hy
    .exact h2
    .exact h.1 y hy
   .exact Ej.mpr h
theorem yY (O:Ord lt')(y:K):∀ l:Aa K,y∈srt lt' l↔y∈l
 |[]=>by simp[srt]
 |x::l=>by rw[srt,fL O,yY O y l,Aw]
theorem kG (O:Ord lt'):∀ l:Aa K,(srt lt' l).Pairwise (λa b=>lt' a b=true)
 |[]=>by simp[srt]
 |x::l=>aF O x _ (kG O l)
theorem l5 (O:Ord lt'):∀ {a b:Aa K},a.Pairwise (λa b=>lt' a b=true)->b.Pairwise (λa b=>lt' a b=true)->(∀ x,x∈a↔x∈b)->a=b
 |[],[],_,_,_=>rfl
 |[],y::b,_,_,h=>by have:=(h y).mpr (by simp);simp at this
 |x::a,[],_,_,h=>by have:=(h x).mp (by simp);simp at this
 |x::a,y::b,ha,hb,h=>by
  rw[Ej] at ha hb;have asym:∀ {u v},lt' u v=true->lt' v u=true->Fh:=λp q=>by have:=O.tr p q;rw[O.irr] at this;cases this
  have e:x=y:=by
   rcases Aw.mp ((h x).mp (by simp)) with e|e
   .exact e
   .rcases Aw.mp ((h y).mpr (by simp)) with e'|e'
    .exact e'.symm
    .exact(asym (hb.1 x e) (ha.1 y e')).elim
  subst e;have ne:∀ {z:K} {l:Aa K},(∀ y∈l,lt' x y=true)->z∈l->z≠x:=λh hz e=>by subst e;have:=h _ hz;rw[O.irr] at this;cases this
  rw[l5 O ha.2 hb.2 λz=>⟨λhz=>?_,λhz=>?_⟩]
  .exact(Aw.mp ((h z).mp (by simp[hz]))).elim (λe=>absurd e (ne ha.1 hz)) id
  .exact(Aw.mp ((h z).mpr (by simp[hz]))).elim (λe=>absurd e (ne hb.1 hz)) id
theorem D6 (O:Ord lt'){l xs:Aa K}(h:Nf lt' l)(nd:l.Nodup)(m:∀ x,x∈l↔x∈xs):l=srt lt' xs:=
 l5 O (XH O h nd) (kG O xs) λx=>by rw[m,yY O]
end
theorem BN:t0 (.type "set") "__len__" = pure (Ab (.builtin "set.__len__")):=PySem.F.slot_set_len.lookup
section
variable {prog:Bd}{w:Bt}{A:Bo}{E:Ac->Ah->Prop}{s:Ah}{S:Af}{es:Bn (Am × Ac)}{ep:Ai}{t:Fw}
theorem VL {r:Af}(hT:s.TypeIs (.ref r) "set"){Q:Ar->Ah->Prop}(h:Q false s):Ap (As prog w) A (Po (.ref r)) Q E s:=by
 unfold Po;refine Ad (To hT BN ?_);generalize hid:("set.__len__" : Ef)=id0
 wp_delta
 rw[show splitId id0=Ab ("set","__len__") from by subst hid;decide +kernel]
 subst hid;refine Ad (Nv (T:="set") (b:=true) hT (by rw[Ve];kernel_rfl) ?_)
 refine Ua (λhab=>absurd hab (by decide)) (λ_=>?_)
 refine Ua (λ_=>?_) (λhab=>absurd (by decide +kernel) hab)
 exact Ad (Ks hT (Ak h))
theorem cB {Q:Aa Ac->Ah->Prop}(hh:A.handled=none)(Z:Still w S es ep t)(ho:s.heap.get? S=Ab (setO es ep t))(hn:es.size<=1000)
  (h:∀ h' tk,(∀ b o,s.heap.get? b=Ab o->h'.get? b=Ab o)->s.heap.objs.size<h'.objs.size->Q ((qO w S ep es).toList.map (·.2)) { s with heap:=h',toks:=tk }) : Ap (As prog w) A (collect (.ref S)) Q E s:=by
 have hS:S<s.heap.objs.size:=Ax ho;unfold collect;refine Ad (Vd (EQ PySem.F.entry_proto_collect ?_));rw[Eo PySem.F.plain_proto_collect _];show Ap _ A.in1 (newList [] >>= λl=>again (.builtin "list.__iadd__" ⟨[l,.ref S],[]⟩)) _ _ s;refine Ad (Dg (Ak ⟨Gu Sx _,EQ PySem.F.entry_list_iadd ?_⟩));rw[Eo Sx _];have hD:(s.heap.push { cls:=.type "list",data:=.seq ([] : Aa Ac).toArray }).get? s.heap.objs.size=Ab { cls:=.type "list",data:=.seq #[] }:=Ba _ rfl;have ho1:(s.heap.push { cls:=.type "list",data:=.seq ([] : Aa Ac).toArray }).get? S=Ab (setO es ep t):=Ag _ ho;show Ap _ A.in1 (Pp (.ref s.heap.objs.size) (.ref S) (.ref s.heap.objs.size)) _ _ _;unfold Pp;have hT1:Re { s with heap:=s.heap.push { cls:=.type "list",data:=.seq ([] : Aa Ac).toArray } } (.ref S) "set":=⟨_,ho1,rfl⟩
 refine Ad (Ks hT1 ?_);have h1:Rv (.ref s.heap.objs.size) (.ref S)=false:=by simp[Rv];exact Gv hS
 rw[Bc (by rw[h1];decide)]
 refine Ad (VQ (s:={ s with heap:=s.heap.push { cls:=.type "list",data:=.seq ([] : Aa Ac).toArray } }) Z ho1 ?_)
 have hD2:=Ag (itO 0 0 S es.size ep) hD;have hT2:Re { s with heap:=(s.heap.push { cls:=.type "list",data:=.seq ([] : Aa Ac).toArray }).push (itO 0 0 S es.size ep) } (.ref S) "set":=⟨_,Ag _ ho1,rfl⟩
 refine Ad (Ct (VL hT2 ?_));refine Ua (λ_=>?_) (λhab=>absurd (by decide) hab)
 refine Ad (Kb (Ad ?_));show Ap _ _ (updateSeq s.heap.objs.size (·.push .none) >>= λ_=>updateSeq s.heap.objs.size (·.pop)) _ _ _
 refine Ad (Hy hD2 rfl ?_);have hD3:=DL (Eg (·.push Er)) hD2 rfl
 refine Hy (hz:=by seq_fits) hD3 rfl ?_
 have hD4:=DL (Eg (·.pop)) hD3 rfl
 have sz:(s.heap.push { cls:=.type "list",data:=.seq ([] : Aa Ac).toArray }).objs.size=s.heap.objs.size+1:=Dk ..;have oth:∀ {b:Af} {o:Ci},b≠s.heap.objs.size->((s.heap.push { cls:=.type "list",data:=.seq ([] : Aa Ac).toArray }).push (itO 0 0 S es.size ep)).get? b=Ab o ->
   ((((s.heap.push { cls:=.type "list",data:=.seq ([] : Aa Ac).toArray }).push (itO 0 0 S es.size ep)).update s.heap.objs.size (Eg (·.push Er))).update s.heap.objs.size (Eg (·.pop))).get? b=Ab o:=
  λhb e=>(Bg _ _ (El hb)).trans ((Bg _ _ (El hb)).trans e)
 have at0:=GK (w:=w) (s:={ s with heap:=s.heap.push { cls:=.type "list",data:=.seq ([] : Aa Ac).toArray } }) Z ho1
 refine Ak ⟨Gu PySem.F.plain_extend_loop _,?_⟩;refine codeAny_extend_loopS ((MD (prog:=prog) (A:=A.in1) (I:=(s.heap.push { cls:=.type "list",data:=.seq ([] : Aa Ac).toArray }).objs.size) hh (by rw[sz];exact Bv (Kj hS)) Z).toS) (by rw[Ev];omega) s.heap.objs.size ?_ _ es.size 0 _ #[] _ rfl (Gy _) ?_ hD4 (ItemsOf.nil _) λs' acc c hm hS' hacc=>?_
 .rw[sz]
  simp only[Aw,Ca,Eu,Sh];exact⟨Bv (Ib _),Gv hS⟩
 .obtain⟨slot,a1,a2,a3⟩:=at0
  exact⟨slot,oth (by rw[sz];exact Gv (Ib _)) a1,oth (Bv hS) a2,a3⟩
 .show Ap _ A (load s.heap.objs.size >>= _) _ _ s'
  refine Ad (wpAny_load hS' ?_);obtain⟨h',g',d',tk',os'⟩:=s';have eg:g'=s.gens:=hm.gens;have ed:d'=s.drawn:=hm.drawn;have eo:os'=s.os:=hm.os;subst eg;subst ed;subst eo;have e:acc.toList=(qO w S ep es).toList.map (·.2):=by
   refine List.ext_getElem? λi=>?_;rw[By,Dc,By];by_cases hi:i<es.size
   .have hi':i<acc.size:=by rw[hacc.1];exact hi
    obtain⟨e,he,q⟩:=hacc.2 i acc[i] (Eb hi');rw[Eb hi',he,Op,q]
   .rw[Ub (by rw[hacc.1];omega),Ub (by rw[uB];omega)]
    rfl
  refine Ak ?_;show Q acc.toList _;rw[e];refine h h' tk' (λb o q=>?_) (Ax hS');have hb:b<s.heap.objs.size:=Ax q;refine hm.heap b o (λhx=>?_) (oth (Bv hb) (Ag _ (Ag _ q)));simp only[Aw,Ca,Eu] at hx;rcases hx with hx|hx
  .exact absurd hb (by rw[hx];exact Dp _)
  .exact absurd hb (by rw[hx,sz];exact Ir.mpr (Jk _))
end
def run (f:Ai->Ai->Ar){α : Type}:wT α -> α
 |.ret a=>a
 |.ask i j k=>run f (k (f i j))
theorem vO (f:Ai->Ai->Ar){α β:Type}(g:α->wT β) : ∀ t:wT α,run f (t.bind g)=run f (g (run f t))
 |.ret _=>rfl
 |.ask i j k=>vO f g (k (f i j))
section
variable (r:Ai->Am)
def lt (i j:Ai):Ar:=decide (r i<r j)
def ky (p:Bn Ai)(k:Ai):Am:=r (p.getD k 0)
def Up (p:Bn Ai)(n:Ai):Prop:=∀ i j,i<=j->j<n->ky r p i<=ky r p j
def Dn (p:Bn Ai)(n:Ai):Prop:=∀ i j,i<=j->j<n->ky r p j<=ky r p i
variable {r}
theorem mP {p q:Bn Ai}{i j:Ai}(h:p[i]? = q[j]?):ky r p i=ky r q j:=by
 unfold ky;rw[Pq,Pq,h]
set_option tactic.hygienic true in
theorem mQ {p:Bn Ai}{i j:Ai}(hj:j<=p.size)(k:Ai):ky r (Lm p i j) k=if i<=k/\k<j then ky r p (i+j-1-k) else ky r p k:=by
 have:=getElem?_mirror_all (xs:=p) (i:=i) hj k;unfold Lm
 split
 .rename_i h;rw[Bb h] at this;exact mP this
 .rename_i h;rw[Bc h] at this;exact mP this
theorem yP (p:Bn Ai)(i j:Ai):(Lm p i j).size=p.size:=mirror_size _ _ _ _
theorem wI (p:Bn Ai)(i j:Ai):(Lm p i j).Perm p:=mirror_perm _ _ _ _
theorem bZ (p:Bn Ai):∀ (f n:Ai),1<=n->let m:=run (lt r) (kas_asc p f n);n<=m/\m<=n+f/\(∀ k,n<=k->k<m->ky r p (k-1)<=ky r p k)/\(m<n+f->ky r p m<ky r p (m-1))
 |0,n,_=>⟨AT _,AT _,λk h1 h2=>by have:k<n:=h2;omega,λh=>by have:n<n+0:=h;omega⟩
 |f+1,n,hn=>by
  simp only[kas_asc,run];cases hc:lt r (p.getD n 0) (p.getD (n-1) 0) with
  |true =>
   simp only[Dt,run];exact⟨AT _,by omega,λk h1 h2=>by omega,λ_=>Bx hc⟩
  |false =>
   simp only[Bu,Eh];obtain⟨h1,h2,h3,h4⟩:=bZ p f (n+1) (by omega)
   refine⟨by omega,by omega,λk a b=>?_,λh=>h4 (by omega)⟩
   by_cases hk:k=n
   .subst hk
    exact Ph.mp (He hc)
   .exact h3 k (by omega) b
theorem GB {p:Bn Ai}{m:Ai}(h:∀ k,1<=k->k<m->ky r p (k-1)<=ky r p k):Up r p m:=by
 intro i j hij hj
 induction j with
 |zero =>
  have:i=0:=by omega
  subst this;exact Io _
 |succ j ih =>
  by_cases e:i=j+1
  .subst e;exact Io _
  .exact Sy (ih (by omega) (by omega)) (h (j+1) (by omega) hj)
def Eqs (p:Bn Ai)(n q:Ai):Prop:=q<n/\∀ k,n-(q+1)<=k->k<n->ky r p k=ky r p (n-1)
theorem rG (p:Bn Ai)(n:Ai):Eqs (r:=r) p (n+1) 0:=⟨Mi _,λk a b=>by
 have:k=n:=by omega
 subst this;rfl⟩
set_option tactic.hygienic true in
theorem cX {p:Bn Ai}{n q:Ai}(hn:n<=p.size)(h:Eqs (r:=r) p n q)(k:Ai):ky r (Lm p (n-(q+1)) n) k=ky r p k:=by
 rw[mQ hn]
 split
 .rename_i hk
  rw[h.2 k hk.1 hk.2,h.2 (n-(q+1)+n-1-k) (by omega) (by omega)]
 .rfl
theorem tQ {p p':Bn Ai}(h:∀ k,ky r p' k=ky r p k){n:Ai}(d:Dn r p n):Dn r p' n:=λi j a b=>by rw[h,h];exact d i j a b
theorem jB:∀ (f:Ai) (p:Bn Ai) (n q:Ai),n+f<=p.size->1<=n->Dn r p n->Eqs (r:=r) p n q ->
  let o:=run (lt r) (dL f p n q);o.1.size=p.size/\o.1.Perm p/\n<=o.2.1/\o.2.1<=n+f/\Dn r o.1 o.2.1/\Eqs (r:=r) o.1 o.2.1 o.2.2
 |0,p,n,q,_,_,d,e=>⟨rfl,Ly _,AT _,AT _,d,e⟩
 |f+1,p,n,q,hs,hn,d,e=>by
  simp only[dL,run];cases hc:lt r (p.getD n 0) (p.getD (n-1) 0) with
  |true =>
   have hlt:ky r p n<ky r p (n-1):=Bx hc;simp only[Dt];have d':Dn r p (n+1):=λi j a b=>by
    by_cases hj:j=n
    .subst hj
     by_cases hi:i=j
     .subst hi;exact Io _
     .exact Sy (Sz hlt) (d i (j-1) (by omega) (by omega))
    .exact d i j a (by omega)
   have e':∀ p:Bn Ai,Eqs (r:=r) p (n+1) 0:=λp=>rG p n;by_cases hq:q>0
   .rw[Bb hq]
    have hk:=cX (r:=r) (p:=p) (n:=n) (q:=q) (by omega) e
    obtain⟨a1,a2,a3,a4,a5,a6⟩:=jB f (Lm p (n-(q+1)) n) (n+1) 0 (by rw[yP];omega) (by omega) (tQ hk d') (e' _)
    exact⟨by rw[a1,yP],a2.trans (wI _ _ _),by omega,by omega,a5,a6⟩
   .rw[Bc hq]
    obtain⟨a1,a2,a3,a4,a5,a6⟩:=jB f p (n+1) 0 (by omega) (by omega) d' (e' _)
    exact⟨a1,a2,by omega,by omega,a5,a6⟩
  |false =>
   simp only[Bu,Eh,run];cases hd:lt r (p.getD (n-1) 0) (p.getD n 0) with
   |true =>
    simp only[Dt,run];exact⟨by trivial,Ly _,AT _,by omega,d,e⟩
   |false =>
    simp only[Bu,Eh];have he:ky r p n=ky r p (n-1):=f8 (Ph.mp (He hd)) (Ph.mp (He hc));have d':Dn r p (n+1):=λi j a b=>by
     by_cases hj:j=n
     .subst hj
      by_cases hi:i=j
      .subst hi;exact Io _
      .rw[he];exact d i (j-1) (by omega) (by omega)
     .exact d i j a (by omega)
    have e':Eqs (r:=r) p (n+1) (q+1):=⟨by have:=e.1;omega,λk a b=>by
     by_cases hk:k=n
     .subst hk;rfl
     .rw[e.2 k (by omega) (by omega)];exact he.symm⟩
    obtain⟨a1,a2,a3,a4,a5,a6⟩:=jB f p (n+1) (q+1) (by omega) (by omega) d' e'
    exact⟨a1,a2,by omega,by omega,a5,a6⟩
structure Got (r:Ai->Am)(p:Bn Ai)(N:Ai)(o:Ai × Bn Ai):Prop where
 size:o.2.size=p.size
 perm:o.2.Perm p
 pos:1<=o.1
 le:o.1<=N
 up:Up r o.2 o.1
theorem dM {p:Bn Ai}{n:Ai}(hN:N<=p.size)(hn:1<=n)(hnN:n<=N)(d:Dn r p n):Got r p N (run (lt r) (kas_tail3 n N p)):=by
 unfold kas_tail3;rw[vO];obtain⟨h1,h2,h3,h4⟩:=bZ (r:=r) (Lm p 0 n) (N-n) n hn;refine⟨yP _ _ _,wI _ _ _,Cq hn h1,Cq h2 (by omega),GB λk a b=>?_⟩
 show ky r (Lm p 0 n) (k-1)<=ky r (Lm p 0 n) k;by_cases hk:n<=k
 .exact h3 k hk b
 .rw[mQ (by omega),mQ (by omega),Bb (by omega),Bb (by omega)]
  exact d _ _ (by omega) (by omega)
theorem gU {p:Bn Ai}{n:Ai}(hN:N<=p.size)(hn:1<=n)(hnN:n+1<=N)(d:Dn r p (n+1)):Got r p N (run (lt r) (Xu n N p)):=by
 unfold Xu;rw[vO];obtain⟨a1,a2,a3,a4,a5,a6⟩:=jB (r:=r) (N-(n+1)) p (n+1) 0 (by omega) (by omega) d (rG p n)
 generalize run (lt r) (dL (N-(n+1)) p (n+1) 0)=o at *
 split
 .have hk:=cX (r:=r) (p:=o.1) (n:=o.2.1) (q:=o.2.2) (by omega) a6
  have g:=dM (p:=Lm o.1 (o.2.1-(o.2.2+1)) o.2.1) (N:=N) (by rw[yP];omega) (by omega) (by omega) (tQ hk a5)
  exact⟨by rw[g.size,yP,a1],(g.perm.trans (wI _ _ _)).trans a2,g.pos,g.le,g.up⟩
 .have g:=dM (p:=o.1) (N:=N) (by omega) (by omega) (by omega) a5
  exact⟨by rw[g.size,a1],g.perm.trans a2,g.pos,g.le,g.up⟩
theorem oC {p:Bn Ai}(hN:N<=p.size)(h1:1<=N):Got r p N (run (lt r) (Yp N p)):=by
 unfold Yp;rw[vO];obtain⟨b1,b2,b3,b4⟩:=bZ (r:=r) p (N-1) 1 (AT _);generalize run (lt r) (kas_asc p (N-1) 1)=n at *;have up:Up r p n:=GB b3;by_cases hn:n=N
 .subst hn
  rw[Bb (by simp)]
  exact⟨rfl,Ly _,h1,AT _,up⟩
 .rw[Bc (by simpa using hn)]
  have hlt:=b4 (by omega)
  by_cases hn1:n>1
  .rw[Bb hn1]
   simp only[run];cases hc:lt r (p.getD 0 0) (p.getD (n-1) 0) with
   |true=>simp only[Dt,run];exact⟨rfl,Ly _,by show 1<=n;omega,by show n<=N;omega,up⟩
   |false =>
    simp only[Bu,Eh];have hle:ky r p (n-1)<=ky r p 0:=Ph.mp (He hc);have all:∀ k,k<n->ky r p k=ky r p 0:=λk hk=>f8 (Sy (up k (n-1) (by omega) (by omega)) hle) (up 0 k (by omega) hk)
    have keys:∀ k,ky r (Lm p 0 n) k=ky r p k:=λk=>by
     rw[mQ (by omega)]
     split
     .rw[all k (by omega),all _ (by omega)]
     .rfl
    have g:=gU (p:=Lm p 0 n) (n:=n) (N:=N) (by rw[yP];omega) (by omega) (by omega) (tQ keys λi j a b=>by
     by_cases hj:j=n
     .subst hj
      by_cases hi:i=j
      .subst hi;exact Io _
      .rw[all i (by omega),<- all (j-1) (by omega)];exact Sz hlt
     .rw[all i (by omega),all j (by omega)];exact Io _)
    exact⟨by rw[g.size,yP],g.perm.trans (wI _ _ _),g.pos,g.le,g.up⟩
  .rw[Bc hn1]
   have e:n=1:=by omega
   subst e;exact gU hN (AT _) (by omega) λi j a b=>by
    by_cases hij:i=j
    .subst hij;exact Io _
    .have:i=0:=by omega
     have:j=1:=by omega
     subst i j;exact Sz hlt
theorem gC (p:Bn Ai)(k:Ai)(up:Up r p k):∀ (f l h:Ai),h-l<=f->l<=h->h<=k->(∀ i,i<l->ky r p i<=ky r p k)->(∀ i,h<=i->i<k->ky r p k<ky r p i) ->
  let m:=run (lt r) (Yq p k f l h);m<=k/\(∀ i,i<m->ky r p i<=ky r p k)/\(∀ i,m<=i->i<k->ky r p k<ky r p i)
 |0,l,h,hf,hl,hk,a,b=>by
  have:l=h:=by omega
  subst this;exact⟨hk,a,b⟩
 |f+1,l,h,hf,hl,hk,a,b=>by
  simp only[Yq];by_cases hc:l>=h
  .rw[Bb hc]
   have:l=h:=by omega
   subst this;exact⟨hk,a,b⟩
  .rw[Bc hc]
   simp only[run];cases hq:lt r (p.getD k 0) (p.getD ((l+h)/2) 0) with
   |true =>
    simp only[Dt];have hlt:ky r p k<ky r p ((l+h)/2):=Bx hq;exact gC p k up f l ((l+h)/2) (by omega) (by omega) (by omega) a λi x y=>Int.lt_of_lt_of_le hlt (up _ _ x y)
   |false =>
    simp only[Bu,Eh];have hle:ky r p ((l+h)/2)<=ky r p k:=Ph.mp (He hq);exact gC p k up f ((l+h)/2+1) h (by omega) (by omega) hk (λi x=>Sy (up _ _ (by omega) (by omega)) hle) b
theorem lV {p:Bn Ai}{k l:Ai}(hk:k<p.size)(hl:l<=k)(i:Ai):ky r (bubble p k (k-l)) i=if i=l then ky r p k else if l<i/\i<=k then ky r p (i-1) else ky r p i:=by
 have h:=getElem?_bubble (xs:=p) hk (k-l) (by omega) i
 rw[show k-(k-l)=l by omega] at h
 by_cases h1:i=l
 .rw[Bb h1] at h ⊢;exact mP h
 .rw[Bc h1] at h ⊢
  by_cases h2:l<i/\i<=k
  .rw[Bb h2] at h ⊢;exact mP h
  .rw[Bc h2] at h ⊢;exact mP h
theorem sQ:∀ (f:Ai) (p:Bn Ai) (k:Ai),k+f<=p.size->Up r p k->let o:=run (lt r) (kas_bin f p k);o.size=p.size/\o.Perm p/\Up r o (k+f)
 |0,p,k,_,up=>⟨rfl,Ly _,up⟩
 |f+1,p,k,hs,up=>by
  simp only[kas_bin];rw[vO];obtain⟨h1,h2,h3⟩:=gC p k up k 0 k (by omega) (by omega) (AT _) (λi hi=>by omega) λi a b=>by omega
  generalize run (lt r) (Yq p k k 0 k)=l at *;have up':Up r (bubble p k (k-l)) (k+1):=λi j a b=>by
   rw[lV (by omega) h1,lV (by omega) h1]
   by_cases e1:i=l
   .rw[Bb e1]
    by_cases e2:j=l
    .rw[Bb e2];exact Io _
    .rw[Bc e2,Bb (by omega)]
     exact Sz (h3 (j-1) (by omega) (by omega))
   .rw[Bc e1]
    by_cases e3:l<i/\i<=k
    .rw[Bb e3,Bc (by omega),Bb (by omega)]
     exact up _ _ (by omega) (by omega)
    .rw[Bc e3]
     by_cases e2:j=l
     .rw[Bb e2];exact h2 i (by omega)
     .rw[Bc e2]
      by_cases e4:l<j/\j<=k
      .rw[Bb e4];exact up _ _ (by omega) (by omega)
      .rw[Bc e4];exact up _ _ a (by omega)
  obtain⟨a1,a2,a3⟩:=sQ f (bubble p k (k-l)) (k+1) (by rw[bubble_size];omega) up'
  exact⟨by rw[a1,bubble_size],a2.trans (bubble_perm _ _ _),by rw[show k+(f+1)=k+1+f by omega];exact a3⟩
set_option tactic.hygienic true in
theorem WT {n:Ai}(hn:1<=n):let o:=run (lt r) (Ot n);o.toList.Perm (Cg n)/\Up r o n:=by
 unfold Ot;simp only[vO];have hz:(Mh (Cg n)).size=n:=by simp
 have g:=oC (r:=r) (p:=Mh (Cg n)) (N:=n) (by omega) hn
 generalize run (lt r) (Yp n (Mh (Cg n)))=c at *;have pm:∀ {o:Bn Ai},o.Perm (Mh (Cg n))->o.toList.Perm (Cg n):=λh=>by simpa using Array.perm_iff_toList_perm.mp h
 split
 .rename_i hlt
  have hm:max c.1 1=c.1:=by have:=g.pos;omega
  rw[hm];obtain⟨a1,a2,a3⟩:=sQ (n-c.1) c.2 c.1 (by rw[g.size,hz];omega) g.up
  refine⟨pm (a2.trans g.perm),?_⟩;rw[show c.1+(n-c.1)=n by omega] at a3
  exact a3
 .rename_i hlt
  have:c.1=n:=by have:=g.le;omega
  refine⟨pm g.perm,?_⟩;have u:=g.up;rw[this] at u;exact u
end
def Inn (n:Ai){α : Type}(T:α->Prop):wT α -> Prop
 |.ret a=>T a
 |.ask i j k=>i<n/\j<n/\∀ b,Inn n T (k b)
def PB (n:Ai)(p:Bn Ai):Prop:=∀ k,p.getD k 0<n
theorem PB.perm {p q:Bn Ai}{n:Ai}(h:PB n p)(e:q.Perm p):PB n q:=λk=>by
 by_cases hk:k<q.size
 .have e1:q.getD k 0=q[k]:=by simp[Iu,hk]
  rw[e1];have:q[k]∈p:=e.mem_iff.mp (Array.getElem_mem hk);obtain⟨j,hj,e2⟩:=Array.mem_iff_getElem.mp this;have:=h j;rw[show p.getD j 0=p[j] by simp[Iu,hj]] at this
  rw[<- e2];exact this
 .have e1:q.getD k 0=0:=by simp[Iu,hk]
  rw[e1];exact Py (Gy _) (h 0)
theorem Inn.bind {n:Ai}{α β:Type}{T:α->Prop}{U:β->Prop}{g:α->wT β} : ∀ {t:wT α},Inn n T t->(∀ a,T a->Inn n U (g a))->Inn n U (t.bind g)
 |.ret a,h,hg=>hg a h
 |.ask i j k,⟨h1,h2,h3⟩,hg=>⟨h1,h2,λb=>Inn.bind (h3 b) hg⟩
theorem Y6 {n:Ai}{f:Ai->Ai->Ar}{cmp:Ai->Ai->(Ar->Ah->Prop)->Ah->Prop}{s:Ah}(hc:∀ i j (C:Ar->Ah->Prop),i<n->j<n->C (f i j) s->cmp i j C s){α : Type}{T:α->Prop}{G:α->Ah->Prop}:∀ t:wT α,Inn n T t->G (run f t) s->t.kasWp cmp G s
 |.ret _,_,h=>h
 |.ask i j k,⟨h1,h2,h3⟩,h=>hc i j _ h1 h2 (Y6 hc (k (f i j)) (h3 _) h)
theorem xY {n:Ai}{α:Type}{T:α->Prop}{c:Prop}[Mq c]{a b:wT α}(h1:Inn n T a)(h2:Inn n T b):Inn n T (if c then a else b):=by
 split
 .exact h1
 .exact h2
section
variable {n:Ai}
theorem tZ {p:Bn Ai}(h:PB n p):∀ f m,Inn n (λ_=>Kl) (kas_asc p f m)
 |0,m=>trivial
 |f+1,m=>⟨h _,h _,λb=>xY trivial (tZ h f (m+1))⟩
theorem kU:∀ (f:Ai) {p:Bn Ai} (m q:Ai),PB n p->Inn n (λo=>PB n o.1) (dL f p m q)
 |0,p,m,q,h=>h
 |f+1,p,m,q,h=>⟨h _,h _,λb=>xY (xY (kU f _ _ (h.perm (wI _ _ _))) (kU f _ _ h)) ⟨h _,h _,λd=>xY h (kU f _ _ h)⟩⟩
theorem lP {p:Bn Ai}(h:PB n p)(m N:Ai):Inn n (λo=>PB n o.2) (kas_tail3 m N p):=Inn.bind (tZ (h.perm (wI _ _ _)) _ _) λ_ _=>h.perm (wI _ _ _)
theorem pE {p:Bn Ai}(h:PB n p)(m N:Ai):Inn n (λo=>PB n o.2) (Xu m N p):=Inn.bind (kU _ _ _ h) λo ho=>xY (lP (ho.perm (wI _ _ _)) _ _) (lP ho _ _)
theorem ZX {p:Bn Ai}(h:PB n p)(N:Ai):Inn n (λo=>PB n o.2) (Yp N p):=Inn.bind (tZ h _ _) λm _=>xY h (xY ⟨h _,h _,λb=>xY h (pE (h.perm (wI _ _ _)) _ _)⟩ (pE h _ _))
theorem pF {p:Bn Ai}(h:PB n p)(k:Ai):∀ f l r,Inn n (λ_=>Kl) (Yq p k f l r)
 |0,l,r=>trivial
 |f+1,l,r=>xY (T:=λ_=>Kl) trivial ⟨h _,h _,λb=>xY (pF h k f _ _) (pF h k f _ _)⟩
theorem aE:∀ (f:Ai) {p:Bn Ai} (k:Ai),PB n p->Inn n (λ_=>Kl) (kas_bin f p k)
 |0,p,k,h=>trivial
 |f+1,p,k,h=>Inn.bind (pF h k k 0 k) λl _=>aE f (k+1) (h.perm (bubble_perm _ _ _))
theorem rM (hn:0<n):Inn n (λ_=>Kl) (Ot n):=by
 have h:PB n (Mh (Cg n)):=λk=>by
  by_cases hk:k<n
  .simp[Iu,hk]
  .simp[Iu,hk,hn]
 exact Inn.bind (ZX h n) λo ho=>xY (aE _ _ ho) (show Inn n (λ_=>Kl) (.ret o.2) from trivial)
end
structure Cmps (prog:Bd)(w:Bt)(h0:Bj)(vs:Aa Ac)(f:Ai->Ai->Ar):Prop where
 ex:∃ κ,∀ (A:Bo),A.units+8<Dw->∀ (s:Ah),Sup h0 s.heap->(∀ (Q:SortKind->Ah->Prop) (E:Ac->Ah->Prop),Q κ s->Ap (As prog w) A (keyKind' vs.toArray) Q E s)/\∀ i j (C:Ar->Ah->Prop),i<vs.length->j<vs.length->C (f i j) s->kas_ask prog w A κ vs i j C s
theorem dD {n:Ai}{f g:Ai->Ai->Ar}(h:∀ i j,i<n->j<n->f i j=g i j){α : Type}{T:α->Prop}:∀ t:wT α,Inn n T t->run f t=run g t
 |.ret _,_=>rfl
 |.ask i j k,⟨h1,h2,h3⟩=>by
  show run f (k (f i j))=run g (k (g i j));rw[h i j h1 h2];exact dD h _ (h3 _)
section
variable {prog:Bd}{w:Bt}{A:Bo}{E:Ac->Ah->Prop}{s:Ah}
theorem oV {K:Type}{is:K->Ac->Prop}{lt':K->K->Ar}{d:K}(O:Ord lt')(inj:∀ {k k':K} {v:Ac},is k v->is k' v->k=k'){a:Af}{vs:Aa Ac}{ks:Aa K}{n:Ai}{h0:Bj}{P:PySem.Fin->Ah->Prop}(hlen:vs.length=ks.length)(hks:∀ i v,vs[i]? = Ab v->is (ks.getD i d) v)(ho:s.heap.get? a=Ab (Dj "list" vs.toArray n))(hu:A.units+8<Dw)(hz:vs.length<=63)(c:2<=vs.length->Cmps prog w h0 vs (jH lt' ks d))(hS:Sup h0 s.heap)(ha:h0.get? a=none)
  (h:∀ ps:Aa (K × Ac),ps.Perm (ks.zip vs)->Nf lt' (ps.map (·.1))->P (.done (.ret .none)) { s with heap:=sortedHeap s.heap a vs (ps.map (·.2)).toArray }) : Ap (As prog w) A (Hl.«list.sort» ⟨[.ref a],[]⟩) P E s:=by
 rw[list_sort_plain];have hb:a<s.heap.objs.size:=Ax ho;have hsz:vs.toArray.size=vs.length:=by simp
 refine Ad (listItems_at ho rfl (Ad (listUpdate_at ho rfl ?_ (by rw[hsz,Ev];omega) (Gy _))))
 obtain⟨e1,ho1⟩:∃ e1,(s.heap.update a (Eg λ_=>#[])).get? a=Ab (Dj "list" #[] e1):=⟨_,Iy ho (λ_=>#[])⟩;refine Ad (seqEpoch_at ho1 rfl (Ad (Uz (Ad (Rf (Ct ?_) (Gy _))) (by show vs.length<=_;rw[Ev];omega))))
 have ho6:(((s.heap.update a (Eg λ_=>#[])).push (Dj "tuple" vs.toArray 0)).push (Dj "list" #[] 0)).get? a=Ab (Dj "list" #[] e1):=
  Ag _ (Ag _ ho1)
 have S6:Sup h0 (((s.heap.update a (Eg λ_=>#[])).push (Dj "tuple" vs.toArray 0)).push (Dj "list" #[] 0)):=λb o e =>
  Ag _ (Ag _ ((Bg _ _ (λz:a=b=>by rw[<- z,ha] at e;cases e)).trans (hS b o e)))
 show Ap (As prog w) A _ P E { s with heap:=((s.heap.update a (Eg λ_=>#[])).push (Dj "tuple" vs.toArray 0)).push (Dj "list" #[] 0) }
 dsimp only;have fin:∀ (st':SortSt) (ps:Aa (K × Ac)),(arrOf st').map (·.2)=(ps.map (·.2)).toArray->failedOf st'=none->ps.Perm (ks.zip vs)->Nf lt' (ps.map (·.1))->Ap (As prog w) A (do
   let touched:=(<- seqEpoch a) != e1
   Builtin.List.listUpdate (.ref a) λ_=>(arrOf st').map (·.2)
   if let Ab e:=failedOf st' then rule "list.sort.comparison-raised";throw e
   if touched then rule "list.sort.modified";raiseError "ValueError" "list modified during sort"
   ret .none) P E { s with heap:=((s.heap.update a (Eg λ_=>#[])).push (Dj "tuple" vs.toArray 0)).push (Dj "list" #[] 0) }:=by
  intro st' ps h1 h2 h3 h4;have hl:(ps.map (·.2)).length=vs.length:=by rw[Aq,h3.length_eq,Uc,hlen,So]
  refine Ad (seqEpoch_at ho6 rfl ?_);rw[h1];refine Ad (listUpdate_at ho6 rfl ?_ (Gy _) (by show (ps.map (·.2)).toArray.size<=_;rw[Ay,hl,Ev];omega))
  rw[h2];simp only[bne_self_eq_false,Bu,Eh];exact Ak (h ps h3 h4)
 by_cases h2:vs.toArray.size<2
 .rw[Bb h2,Bb h2]
  refine Ad (Ak ?_);rw[StateT.run_pure];refine Ad (Ak ?_);refine fin (SortSt.mk' general' (vs.toArray.zip vs.toArray) #[] 7 none) (ks.zip vs) ?_ rfl (Vf _) ?_
  .show (vs.toArray.zip vs.toArray).map (·.2)=_
   apply Array.toList_inj.mp;simp[List.map_snd_zip,hlen]
  .rw[NE (by omega)]
   match ks,hlen with
   |[],_=>exact Mv
   |[_],_=>exact List.pairwise_singleton _ _
   |_::_::_,e=>simp at e h2;omega
 .rw[Bc h2,Bc h2]
  have h2':2<=vs.length:=by omega
  obtain⟨κ,C⟩:=c h2';obtain⟨k1,k2⟩:=C A hu { s with heap:=((s.heap.update a (Eg λ_=>#[])).push (Dj "tuple" vs.toArray 0)).push (Dj "list" #[] 0) } S6
  have km:∀ i,i<vs.length->ks.getD i d∈ks:=λi hi=>by
   have:i<ks.length:=by omega
   simp[Gs,this]
  have rc:run (jH lt' ks d) (Ot vs.length)=run (lt λi=>mY lt' ks (ks.getD i d)) (Ot vs.length):=dD (λi j hi _=>eR O (km i hi)) _ (rM (n:=vs.length) (by omega))
  obtain⟨sp1,sp2⟩:=WT (r:=λi=>mY lt' ks (ks.getD i d)) (n:=vs.length) (by omega)
  rw[<- rc] at sp1 sp2;refine Ad (k1 _ _ ?_);refine Ad (Gn (kat_run (ks:=vs) (vs:=vs) (Q:=λst' s'=>(arrOf st').map (·.2)=((run (jH lt' ks d) (Ot vs.length)).toList.map λi=>vs.getD i Er).toArray/\failedOf st'=none/\s'={ s with heap:=((s.heap.update a (Eg λ_=>#[])).push (Dj "tuple" vs.toArray 0)).push (Dj "list" #[] 0) })
   (G:=λp s'=>p=run (jH lt' ks d) (Ot vs.length)/\s'={ s with heap:=((s.heap.update a (Eg λ_=>#[])).push (Dj "tuple" vs.toArray 0)).push (Dj "list" #[] 0) }) rfl h2' (by omega) (λp st' s' a1 a2 a3 a4=>⟨?_,a3,a4.2⟩) (Y6 k2 _ (rM (by omega)) ⟨rfl,rfl⟩)) ?_ λ_ _ e=>e)
  .rw[kat_snds rfl a2,a4.1]
  .rintro⟨⟨⟩,st'⟩ s' ⟨q1,q2,rfl⟩
   generalize run (jH lt' ks d) (Ot vs.length)=p at sp1 sp2 q1;have bd:∀ i (hi:i<p.toList.length),p.toList[i]<vs.length:=λi hi=>Ei.mp (sp1.mem_iff.mp (Hr hi));refine fin _ (p.toList.map λi=>(ks.getD i d,vs.getD i Er)) ?_ q2 ?_ ?_
   .rw[q1,Fg];rfl
   .refine(sp1.map _).trans (List.Perm.of_eq ?_)
    apply Nw
    .simp[hlen]
    .intro i h1 h2
     have h3:i<vs.length:=by simpa using h1
     have h4:i<ks.length:=by omega
     simp[h3,h4]
   .rw[Fg]
    unfold Nf;rw[Dr];refine Jc.mpr λi j hi hj hij=>?_;have hp:=sp1.length_eq;rw[Hw] at hp;have u:=sp2 i j (Fy hij) (by omega)
    have gd:∀ k (hk:k<p.toList.length),p.getD k 0=p.toList[k]:=λk hk=>by
     have:k<p.size:=by simpa using hk
     simp[Iu,this]
    unfold ky at u;rw[gd i hi,gd j hj] at u;show lt' (ks.getD p.toList[j] d) (ks.getD p.toList[i] d)=false;rw[eR O (km _ (bd j hj))];exact Cn (Ph.mpr u)
end
section
variable {prog:Bd}{w:Bt}{h0:Bj}
theorem BO {A:Bo}{s:Ah}{b:Ar}{Q:Ar->Ah->Prop}:∀ {xs ys:Aa Am} {us vs:Aa Ac} {i:Ai} {N M:Ai},ItemsAre (Bi prog w) xs us->ItemsAre (Bi prog w) ys vs->N+ys.length=M+xs.length->Q (_H.lexLt xs ys) s->KatLex prog w A b (decide (N<M)) Q (us.zip vs) i s:=by
 intro xs ys us vs i N M hx
 induction hx generalizing ys vs i with
 |nil =>
  intro hy hl h;cases hy with
  |nil =>
   have:decide (N<M)=false:=Cn (by simp at hl;omega)
   rw[this];exact h
  |@cons k v ys vs q r =>
   have:decide (N<M)=true:=Cy (by simp at hl;omega)
   rw[this];exact h
 |@cons x u xs us qx rx ih =>
  intro hy hl h;cases hy with
  |nil =>
   have:decide (N<M)=false:=Cn (by simp at hl;omega)
   rw[this];exact h
  |@cons y v ys vs qy ry =>
   obtain⟨t,rfl⟩:=wM (prog:=prog) (w:=w) qx;obtain⟨t',rfl⟩:=wM (prog:=prog) (w:=w) qy;rw[Ih];refine kat_cons (Yt ?_);rw[_H.lexLt_cons] at h;refine kat_go (λe=>kat_yes ?_) λe=>kat_no ?_
   .rw[Bb (by simpa using e)] at h
    exact ih ry (by simp at hl;omega) h
   .rw[Bc (by simpa using e)] at h
    cases b&&i == 0 with
    |true=>exact oneLt_int h
    |false=>exact kat_one _ _ (Ox h)
theorem iN {h:Bj}:∀ {vs:Aa Ac} {ks:Aa (Aa Am)},vs.length=ks.length->(∀ i v,vs[i]? = Ab v->isT prog w h (ks.getD i []) v)->(∀ k∈ks,k≠[])->∃ fs,KatTups h vs fs/\fs.length=vs.length/\∀ f∈fs,∃ n t,f=Oe n t
 |[],[],_,_,_=>⟨[],trivial,rfl,λf hf=>by simp at hf⟩
 |v::vs,k::ks,hl,hv,hne=>by
  obtain⟨fs,a1,a2,a3⟩:=iN (vs:=vs) (ks:=ks) (by simpa using hl) (λi u hu=>by simpa using hv (i+1) u (by simpa using hu)) λk hk=>hne k (by simp[hk])
  obtain⟨a,rfl,o,items,n,ho,hc,hd,hi⟩:=hv 0 v rfl;have hk:k≠[]:=hne k (by simp)
  have hi':ItemsAre (Bi prog w) k items.toList:=hi;cases hz:items.toList with
  |nil=>rw[hz] at hi';cases hi';exact absurd rfl hk
  |cons f rest =>
   rw[hz] at hi';cases hi' with
   |cons q _ =>
    obtain⟨t,rfl⟩:=wM (prog:=prog) (w:=w) q;refine⟨_::fs,AaL ho hc hd (by rw[<- By,hz];rfl) a1,by simp[a2],λf hf=>?_⟩
    rcases Aw.mp hf with rfl|hf
    .exact⟨_,_,rfl⟩
    .exact a3 f hf
theorem TH {ks:Aa (Aa Am)}(hl:vs.length=ks.length)(hv:∀ i v,vs[i]? = Ab v->isT prog w h0 (ks.getD i []) v)(hne:∀ k∈ks,k≠[])(h2:2<=vs.length):Cmps prog w h0 vs (jH _H.lexLt ks []):=by
 refine⟨tuples' (Gk "int" != Gk "tuple"),λA hu s hS=>⟨λQ E h=>?_,λi j C hi hj h=>?_⟩⟩
 .obtain⟨fs,a1,a2,a3⟩:=iN (h:=s.heap) hl (λi v hv'=>by obtain⟨a,e,q⟩:=hv i v hv';exact⟨a,e,vY hS q⟩) hne
  refine kat_kind a1 (by omega) (λv hv'=>?_) (by decide) h
  obtain⟨n,t,rfl⟩:=a3 v hv';exact AaC rfl
 .have g:∀ k (hk:k<vs.length),∃ a,vs.getD k Er=.ref a/\Pe (Bi prog w) s.heap (ks.getD k []) a:=λk hk=>by
   obtain⟨a,e,q⟩:=hv k vs[k] (An hk);exact⟨a,by rw[<- e];simp[Gs,hk],vY hS q⟩
  obtain⟨a,ea,oa,ia,na,ha,_,da,qa⟩:=g i hi;obtain⟨b,eb,ob,ib,nb,hb,_,db,qb⟩:=g j hj;unfold kas_ask;rw[ea,eb];refine kat_lt ha da hb db (BO qa qb ?_ h);have la:=qa.length;have lb:=qb.length;simp only[Df] at la lb;omega
theorem TC {ks:Aa Am}(hl:vs.length=ks.length)(hv:∀ i v,vs[i]? = Ab v->isI prog w (ks.getD i 0) v)(h2:2<=vs.length):Cmps prog w h0 vs (jH ltI ks 0):=by
 have hi:∀ v∈vs,∃ n t,v=Oe n t:=λv hm=>by
  obtain⟨i,hi,e⟩:=Cd.mp hm;obtain⟨t,q⟩:=wM (hv i v (by rw[An hi,e]))
  exact⟨_,t,q⟩
 refine⟨oneType',λA hu s hS=>⟨λQ E h=>?_,λi j C hi hj h=>?_⟩⟩
 .obtain⟨v₁,v₂,rest,rfl⟩:∃ v₁ v₂ rest,vs=v₁::v₂::rest:=by
   match vs,h2 with
   |v₁::v₂::rest,_=>exact⟨v₁,v₂,rest,rfl⟩
  rw[keyKind_ints (intsAre_map _ hi)];exact Ak h
 .have g:∀ k (hk:k<vs.length),∃ t,vs.getD k Er=.int (ks.getD k 0) t:=λk hk=>by
   obtain⟨t,q⟩:=wM (hv k vs[k] (An hk));exact⟨t,by rw[<- q];simp[Gs,hk]⟩
  obtain⟨t,et⟩:=g i hi;obtain⟨u,eu⟩:=g j hj;unfold kas_ask;rw[et,eu];exact kat_lt_int h
end
section
variable {K:Type}{lt':K->K->Ar}
theorem cA {α:Type}{ks:Aa K}{vs:Aa α}{d:K}(hl:vs.length=ks.length){p:K × α}(h:p∈ks.zip vs):∃ i,vs[i]? = Ab p.2/\ks.getD i d=p.1:=by
 obtain⟨i,hi,e⟩:=Cd.mp h;have h1:i<ks.length:=by rw[Uc] at hi;omega
 have h2:i<vs.length:=by omega
 rw[List.getElem_zip] at e;subst e;exact⟨i,An h2,by simp[h1]⟩
end
structure Kind (prog:Bd)(w:Bt){K:Type}(is:K->Ac->Prop)(hash:K->Am)(lt':K->K->Ar)(d:K)(Fit:K->Prop)(h0:Bj):Prop where
 ord:Ord lt'
 inj:∀ {k k':K} {v:Ac},is k v->is k' v->k=k'
 cmps:∀ {vs:Aa Ac} {ks:Aa K},vs.length=ks.length->(∀ i v,vs[i]? = Ab v->is (ks.getD i d) v)->(∀ k∈ks,Fit k)->2<=vs.length->Cmps prog w h0 vs (jH lt' ks d)
theorem KC (prog:Bd)(w:Bt)(h0:Bj):Kind prog w (isT prog w h0) (Bq (Bi prog w)) _H.lexLt [] (·≠[]) h0:=⟨x8,isT.inj,λh1 h2 h3 h4=>TH h1 h2 h3 h4⟩
theorem KB (prog:Bd)(w:Bt)(h0:Bj):Kind prog w (isI prog w) (Bi prog w).hash ltI 0 (λ_=>Kl) h0:=⟨UI,λa b=>(Bi prog w).inj _ _ _ a b,λh1 h2 _ h4=>TC h1 h2 h4⟩
section
variable {prog:Bd}{w:Bt}{A:Bo}{E:Ac->Ah->Prop}{s:Ah}{K:Type}{is:K->Ac->Prop}{hash:K->Am}{lt':K->K->Ar}{d:K}{Fit:K->Prop}{h0:Bj}{S:Af}{V:Aa Ac}{seen:Aa K}
open Classical in
def kOf (is:K->Ac->Prop)(d:K)(e:Am × Ac):K:=if h:∃ k,is k e.2 then choose h else d
open Classical in
theorem LG {e:Am × Ac}(h:∃ k,is k e.2):is (kOf is d e) e.2:=by
 unfold kOf;rw[dif_pos h];exact choose_spec h
theorem QJ {Q:Ac->Ah->Prop}(kd:Kind prog w is hash lt' d Fit h0)(hh:A.handled=none)(hu:A.units+16<Dw)(hS:Sup h0 s.heap)(Z:SetK is hash S (wL w) V seen s.heap)(hf:∀ k∈seen,Fit k){U:Aa K}(hU:U.length<=63)(hU1:∀ k∈seen,k∈U)
  (h:∀ h' tk D c (ps:Aa (K × Ac)),(∀ b o,s.heap.get? b=Ab o->h'.get? b=Ab o)->s.heap.objs.size<=D->h'.get? D=Ab (Dj "list" (ps.map (·.2)).toArray c)->ps.map (·.1)=srt lt' seen->(∀ p∈ps,is p.1 p.2/\p.2∈V)->ps.length<=63->Q (.ref D) { s with heap:=h',toks:=tk }) :
  Ap (As prog w) A (call (.builtin "sorted") [.ref S]) Q E s:=by
 obtain⟨es,ep,t,ho,Z0,T,hl,hV⟩:=Z;have st:Still w S es ep t:=⟨T,hl⟩;have hn:es.size<=63:=by
  have:=fP es.toList U Z0.nd λe he=>by
   obtain⟨k',_,q⟩:=Z0.good e he;exact⟨k',hU1 k' ((Z0.mem k').mpr ⟨e,he,q⟩),q⟩
  rw[Df] at this;omega
 have op:=mT w S ep es;have osz:=uB w S ep es;have good:∀ e∈(qO w S ep es).toList,is (kOf is d e) e.2/\e.2∈V:=λe he=>by
  have he':=op.mem_iff.mp he;obtain⟨k,_,q⟩:=Z0.good e he';exact⟨LG ⟨k,q⟩,hV e he'⟩
 have nd0:(qO w S ep es).toList.Pairwise λa b=>∀ k,is k a.2->¬ is k b.2:=(op.pairwise_iff λ{x y} h k hy hx=>h k hx hy).mpr Z0.nd;generalize hoe:(qO w S ep es).toList=oe at *;have hoel:oe.length<=63:=by rw[op.length_eq,Df];exact hn
 have hks:∀ i v,(oe.map (·.2))[i]? = Ab v->is ((oe.map (kOf is d)).getD i d) v/\v∈V:=λi v hv=>by
  rw[Dc] at hv;cases hi:oe[i]? with
  |none=>rw[hi] at hv;cases hv
  |some e =>
   rw[hi] at hv;cases hv;have g:=good e (Bk hi);have:(oe.map (kOf is d)).getD i d=kOf is d e:=by rw[Fo,Dc,hi];rfl
   rw[this];exact g
 have nd:(oe.map (kOf is d)).Nodup:=by
  unfold Wk;rw[Dr];refine Rq (λ{a b} ha hb h e=>?_) nd0;exact h _ (good a ha).1 (e▸(good b hb).1)
 have mem:∀ x,x∈oe.map (kOf is d)↔x∈seen:=λx=>by
  rw[Z0.mem,Bz];constructor
  .rintro⟨e,he,rfl⟩
   exact⟨e,op.mem_iff.mp he,(good e he).1⟩
  .rintro⟨e,he,q⟩
   exact⟨e,op.mem_iff.mpr he,kd.inj (good e (op.mem_iff.mpr he)).1 q⟩
 have hlen:(oe.map (·.2)).length=(oe.map (kOf is d)).length:=by simp
 refine Ln Zo Xv Xw (Xx _) ?_;unfold Hl.«sorted»;refine Ad (m:=xL "sorted" 1 1 _) (Ak ?_);refine Ad (cB hh st ho (by omega) λh1 tk1 kp1 hlt=>?_)
 rw[hoe];refine Ad (Rf ?_ (by rw[Ev,Aq];omega))
 have hD:(h1.push (Dj "list" (oe.map (·.2)).toArray 0)).get? h1.objs.size=Ab (Dj "list" (oe.map (·.2)).toArray 0):=Ba _ rfl
 have n0:h0.get? h1.objs.size=none:=by
  cases q:h0.get? h1.objs.size with
  |none=>rfl
  |some o=>exact absurd (Ax (hS _ _ q)) (Ir.mpr (Fy hlt))
 show Ap _ _ _ _ _ { s with heap:=h1.push (Dj "list" (oe.map (·.2)).toArray 0),toks:=tk1 }
 refine Ad (Ct (Dz Vg ⟨_,hD,rfl⟩ Ud (oV (h0:=h0) (is:=is) kd.ord kd.inj (d:=d) (vs:=oe.map (·.2)) hlen (λi v hv=>(hks i v hv).1) hD (by show A.units+2+8<Dw;omega) (by rw[Aq];omega) (λh2=>kd.cmps hlen (λi v hv=>(hks i v hv).1) (λk hk=>hf k ((mem k).mp hk)) h2) (λb o e=>Ag _ (kp1 b o (hS b o e))) n0 λps pm nf=>⟨_,rfl,?_⟩) (Vh _)))
 refine Ak ⟨_,rfl,?_⟩;have hz:(h1.push (Dj "list" (oe.map (·.2)).toArray 0)).objs.size=h1.objs.size+1:=size_push' ..
 have old:∀ b o,b≠h1.objs.size->(h1.push (Dj "list" (oe.map (·.2)).toArray 0)).get? b=Ab o->((((h1.push (Dj "list" (oe.map (·.2)).toArray 0)).update h1.objs.size (Eg λ_=>#[])).push (Dj "tuple" (oe.map (·.2)).toArray 0)).push (Dj "list" #[] 0)).get? b=Ab o:=λb o hb e =>
  Ag _ (Ag _ ((Bg _ _ (El hb)).trans e))
 obtain⟨e1,he1⟩:∃ e1,((h1.push (Dj "list" (oe.map (·.2)).toArray 0)).update h1.objs.size (Eg λ_=>#[])).get? h1.objs.size=Ab (Dj "list" #[] e1):=⟨_,Iy hD (λ_=>#[])⟩
 have he6:=Iy (Ag (Dj "list" #[] 0) (Ag (Dj "tuple" (oe.map (·.2)).toArray 0) he1)) (λ_=>(ps.map (·.2)).toArray)
 have pk:(ps.map (·.1)).Perm (oe.map (kOf is d)):=by
  have:=pm.map (·.1)
  rwa [NE (by omega)] at this
 refine h _ tk1 h1.objs.size _ ps (λb o e=>?_) (Fy hlt) he6 (D6 kd.ord nf (pk.nodup_iff.mpr nd) λx=>by rw[pk.mem_iff,mem]) (λp hp=>?_) (by have:=pk.length_eq;rw[Aq,Aq] at this;omega)
 .have hb:b≠h1.objs.size:=λz=>by
   subst z;exact absurd (Ax e) (Ir.mpr (Fy hlt))
  exact(Bg _ _ (El hb)).trans (old b o hb (Ag _ (kp1 b o e)))
 .obtain⟨i,e1,e2⟩:=cA (d:=d) hlen (pm.mem_iff.mp hp)
  exact e2▸hks i _ e1
end
end _S
namespace _D
open PySem PySem.Spec PyProof.Rows _L
variable {pins:Aa (Af × Ci)}{α:Aa Af}{σ:_L.St}
def xS:Aa D->Al (Aa (Aa Am))
 |[]=>Ab []
 |.tup ys::r=>(xV ys).bind λk=>(xS r).map (k::·)
 |_::_=>none
def tpD (k:Aa Am):D:=.tup (k.map D.int)
theorem fW:∀ {ds:Aa D} {ks:Aa (Aa Am)},xS ds=Ab ks->ds=ks.map tpD
 |[],ks,h=>by cases h;rfl
 |d::r,ks,h=>by
  cases d with
  |tup ys =>
   obtain⟨k,h1,h2⟩:=Ey.mp (show (xV ys).bind (λk=>(xS r).map (k::·))=Ab ks from h)
   obtain⟨m,h3,rfl⟩:=De.mp h2;rw[fW h3,uO h1];rfl
  |_=>cases h
theorem vZ (ks:Aa (Aa Am)):xS (ks.map tpD)=Ab ks:=by
 induction ks with
 |nil=>rfl
 |cons k ks ih =>
  show (xV (k.map D.int)).bind (λk=>(xS (ks.map tpD)).map (k::·))=_
  rw[lQ,ih];rfl
def uZ (xs:Aa D):Al (Aa D):=match xV xs with
 |some ns=>if (_S.srt _S.ltI ns).length<=63 then Ab ((_S.srt _S.ltI ns).map D.int) else none
 |none=>match xS xs with
  |some ks=>if ((_S.srt _H.lexLt ks).length<=63&&ks.all λk=>!k.isEmpty) then Ab ((_S.srt _H.lexLt ks).map tpD) else none
  |none=>none
def JA:D->Al (Aa D)
 |.lst xs=>Ab xs
 |.tup xs=>Ab xs
 |_=>none
theorem JG {K:Type}{lt':K->K->Ar}(O:_S.Ord lt')(ks:Aa K)(d:K):_S.srt lt' (_S.y8 (λi=>ks.getD i d) ks.length)=_S.srt lt' ks:=
 _S.l5 O (_S.kG O _) (_S.kG O _) λx=>by
  rw[_S.yY O,_S.yY O,_S.jC];constructor
  .rintro⟨i,hi,rfl⟩
   simp[Gs,hi]
  .intro hx
   obtain⟨i,hi,e⟩:=Cd.mp hx;exact⟨i,hi,by simp[Gs,hi,e]⟩
section
variable {X:Cx}{e:Br}{fa:DE}{p1 p2 pos1 pos2:Ex}
theorem lC:Gb "sorted" = Ab (.builtin "sorted"):=by decide +kernel
theorem n8 {prog:Bd}{w:Bt}:∀ {k:Aa Am} {us:Aa Ac},qH (k.map V.int) us->ItemsAre (Bi prog w) k us
 |[],us,h=>by cases h;exact .nil
 |i::k,us,h=>by
  cases h with
  |cons q t =>
   obtain⟨tk,rfl⟩:=q;exact .cons (Wm _ _ _ _) (n8 t)
theorem eY {H P:Hp}{S:Sto}{s:Ah}{d:D}{xs:Aa D}{v:V}{vv:Ac}(I:Inv X pins σ H s)(r:Rel X.K H P α S)(p:Rep X.K P α d v)(q:qI v vv)(h:JA d=Ab xs) :
  ∃ a vs its,vv=.ref a/\qD X.K P α xs vs/\qH vs its/\(s.heap.IsList a its.toArray\/s.heap.IsTuple a its.toArray)/\xs.length=its.length:=by
 cases d with
 |lst ys =>
  cases h;obtain⟨a,vs,its,n,rfl,_,t,rv,e,l,_⟩:=yF I r p;exact⟨a,vs,its,q,t,rv,.inl ⟨_,e,rfl,n,rfl⟩,l⟩
 |tup ys =>
  cases h;obtain⟨a,vs,its,rfl,_,t,rv,⟨o,e,hc,n,hd⟩,l,_⟩:=yH I r p;exact⟨a,vs,its,q,t,rv,.inr ⟨o,e,hc,n,hd⟩,l⟩
 |_=>cases h
end
section
variable {X:Cx}
def lstM (d:D)(S:Sto):Al (Aa D):=match d with
 |.lst xs=>Ab xs
 |.loc i=>match S[i]? with
  |some (.lst xs)=>Ab xs
  |_=>none
 |_=>none
def b7:G2:=λa b S=>match lstM a S,lstM b S with
 |some xs,Ab ys=>if xs.length+ys.length<=lim then .ok (.lst (xs++ys)) S else .bad
 |_,_=>.bad
theorem bE {H P:Hp}{S:Sto}{s:Ah}{d:D}{xs:Aa D}{v:V}(I:Inv X pins σ H s)(r:Rel X.K H P α S)(h:lstM d S=Ab xs)(p:Rep X.K P α d v) :
  ∃ a vs its n,v=.ref a/\qD X.K P α xs vs/\qH vs its/\s.heap.get? a=Ab { cls:=.type "list",data:=.seq its.toArray n } /\ xs.length=its.length:=by
 cases d with
 |lst ys =>
  cases h;obtain⟨a,vs,its,n,e,_,t,rv,h1,l1,_⟩:=yF I r p;exact⟨a,vs,its,n,e,t,rv,h1,l1⟩
 |loc i =>
  simp only[lstM] at h;cases hS:S[i]? with
  |none=>rw[hS] at h;cases h
  |some m =>
   rw[hS] at h;cases m with
   |lst ys =>
    cases h;simp only[Rep] at p;obtain⟨a,rfl,q⟩:=p;obtain⟨vs,z,t⟩:=r.at' i a _ q hS;obtain⟨_,its,n,rv,e⟩:=I.hok a _ z;exact⟨a,vs,its,n,rfl,t,rv,e,by rw[t.length,rv.length]⟩
   |_=>cases h
 |_=>cases h
theorem BW:OpD X (Ek .Add) b7:=by
 intro pins σ H s P α S v u vv uu a b Q I r rv ru pa pb af;unfold b7 at af;cases h1:lstM a S with
 |none=>rw[h1] at af;exact Ao af
 |some xs =>
  cases h2:lstM b S with
  |none=>rw[h1,h2] at af;exact Ao af
  |some ys =>
   rw[h1,h2] at af;obtain⟨hl,af⟩:=xB (X:=X) af;obtain⟨a,vs,its,n,rfl,t1,rv1,e1,l1⟩:=bE I r h1 pa;obtain⟨b,ws,its2,n2,rfl,t2,rv2,e2,l2⟩:=bE I r h2 pb;cases rv;cases ru;refine Sg e1 e2 ?_ (by rw[Ay,Ay,<- l1,<- l2,<- zM];exact hl)
   rw[Pb];exact fO I r (t1.append t2) (rv1.append rv2) (by rw[Cj];exact hl) af
end
section
variable {X:Cx}{cm:Ar}{k:Ai}{e:Br}{fa:DE}{p1 p2 pos1 pos2:Ex}
theorem EE:ZOp X (Ek .Add) b7:=⟨BW⟩
end
end _D
section
namespace _D
open PySem PySem.Spec PyProof.Rows _L
mutual
def pyD:D->Al PyData
 |.non=>Ab .none
 |.bl b=>Ab (.bool b)
 |.int i=>Ab (.int i)
 |.str x=>Ab (.str x)
 |.tup xs=>(fS xs).map .tuple
 |.lst xs=>(fS xs).map .list
 |.dct0=>Ab (.dict [])
 |_=>none
def fS:Aa D->Al (Aa PyData)
 |[]=>Ab []
 |d::ds=>(pyD d).bind λx=>(fS ds).map (x::·)
end
end _D
end
section
namespace _H
open PySem PyProof.Rows
def stepLo (n:Ai)(k:Am):Am:=(Fu none none k (n:Am)).1
def stepHi (n:Ai)(k:Am):Am:=(Fu none none k (n:Am)).2
def stepN (n:Ai)(k:Am):Ai:=Gp (stepLo n k) (stepHi n k) k
def stepL {α:Type}(xs:Aa α)(k:Am):Aa α:=(Cg (stepN xs.length k)).filterMap λ(m:Ai)=>xs[(stepLo xs.length k+(m:Am)*k).toNat]?
section
variable {prog:Bd}{w:Bt}{A:Bo}{E:Ac->Ah->Prop}{s:Ah}
theorem bN {sl:Af}{k:Am}{t:Pi}{n:Ai}{Q:Am × Am × Ai->Ah->Prop}(hs:s.heap.IsSliceOf sl .none .none (.int k t))(hk:k≠0)
  (h:Q (stepLo n k,k,stepN n k) s):Ap (As prog w) A (Ik (.ref sl) (pure (n:Am))) Q E s:=by
 obtain⟨os,hos,hcs,hds⟩:=id hs;unfold Ik Qn;refine Ad (Ad (Du hos hds (x:=.none) rfl (Ad (Du hos hds (x:=.none) rfl (Ad (Du hos hds (x:=.int k t) rfl (Ak ?_)))))));refine Ad (slicePart_int ?_);show Ap _ _ (if (k == 0)=true then _ else _) _ _ s
 rw[Bc (by simpa using hk)]
 refine Ad (Pj (Ad (Pj (Ad (Ak ?_)))));exact Ak h
theorem stepL_length {α:Type}(xs:Aa α)(k:Am):(stepL xs k).length<=stepN xs.length k:=by
 unfold stepL;exact Cq (Rw _ _) (by rw[Hw];exact AT _)
theorem getItem_tuple_step {t sl:Af}{items:Bn Ac}{k:Am}{u:Pi}{Q:Ac->Ah->Prop}(ht:Nj s.heap t items)(hs:s.heap.IsSliceOf sl .none .none (.int k u))(h0:k≠0)(h1:k≠1)
  (h:Q (.ref s.heap.objs.size) { s with heap:=s.heap.push { cls:=.type "tuple",data:=.seq (stepL items.toList k).toArray } })
  (hsz:stepN items.size k<=sizeLine):Ap (As prog w) A (Ko (.ref t) (.ref sl)) Q E s:=by
 have htake:sizeOk (.seq (stepL items.toList k).toArray):=by
  show (stepL items.toList k).toArray.size<=sizeLine;rw[Ay];exact Cq (stepL_length _ _) (by simpa using hsz)
 obtain⟨os,hos,hcs,hds⟩:=id hs;have hTs:s.TypeIs (.ref sl) "slice":=⟨os,hos,hcs⟩;unfold Ko
 try with_reducible refine Ct ?_
 first|refine Ad (Ak ?_)|skip
 refine Ad (Qo ht.typeIs (by decide) ?_)
 refine Ad (Dy (name:=Fz "__getitem__") ht.typeIs Do
  (Dz Do ht.typeIs Oy ?_ (Pv _ _)))
 show Ap _ _ (Kx (.ref t) >>= _) _ _ s;refine Ad (Wc ht ?_);refine Ad (Ks hTs ?_);rw[Bb (by decide)]
 refine Ad (bN hs h0 ?_);have hno:¬ ((stepLo items.size k == 0&&k == 1&&stepN items.size k == items.size)=true):=by
  intro q;rw[Au,Au] at q;exact h1 (eq_of_beq q.1.2)
 show Ap _ _ (if (stepLo items.size k == 0&&k == 1&&stepN items.size k == items.size)=true then _ else _) _ _ s
 rw[Bc hno];have e:((Cg (stepN items.size k)).filterMap λ(m:Ai)=>items[(stepLo items.size k+(m:Am)*k).toNat]?)=stepL items.toList k:=by
  unfold stepL;simp
 rw[e]
 first
  |exact Ad (m:=Fi _) (Dg (Ak ⟨_,rfl,Ak h⟩) htake)
  |exact Ad (m:=Fi _) (Dg (Ad (Ak (Ak ⟨_,rfl,Ak h⟩))) htake)
  |exact Ad (Ad (m:=Fi _) (Dg (Ak (Ak ⟨_,rfl,Ak h⟩)) htake))
  |exact Ad (Ad (m:=Fi _) (Dg (Ak ⟨_,rfl,Ak h⟩) htake))
end
end _H
namespace _D
open PySem PySem.Spec PyProof.Rows _L
def dY:G2:=λd k S=>match d,k with
 |.tup xs,.int k=>if k≠0/\k≠1/\_H.stepN xs.length k<=lim then .ok (.tup (_H.stepL xs k)) S else .bad
 |_,_=>.bad
def oE (fe fk:DE):DE:=d2 dY fe fk
section
variable {X:Cx}{e ek:Br}{fe fk:DE}{p2 pos:Ex}
theorem Y4 {vs:Aa V}{us:Aa Ac}(rv:qH vs us)(l:Aa Ai)(f:Ai->Ai):qH (l.filterMap λm=>vs[f m]?) (l.filterMap λm=>us[f m]?):=by
 induction l with
 |nil=>exact .nil
 |cons m l ih =>
  simp only[Gm];cases h:vs[f m]? with
  |none =>
   have:us[f m]? = none:=by
    rw[Rg] at h ⊢;rw[<- rv.length];exact h
   rw[this];exact ih
  |some v =>
   obtain⟨u,hu,r⟩:=rv.get h;rw[hu];exact .cons r ih
theorem WM {K:Aj}{P:Hp}{α:Aa Af}{ds:Aa D}{vs:Aa V}(rp:qD K P α ds vs)(l:Aa Ai)(f:Ai->Ai):qD K P α (l.filterMap λm=>ds[f m]?) (l.filterMap λm=>vs[f m]?):=by
 induction l with
 |nil=>exact .nil
 |cons m l ih =>
  simp only[Gm];cases h:ds[f m]? with
  |none =>
   have:vs[f m]? = none:=by
    rw[Rg] at h ⊢;rw[<- rp.length];exact h
   rw[this];exact ih
  |some d =>
   obtain⟨u,hu,r⟩:=rp.get h;rw[hu];exact .cons r ih
set_option tactic.hygienic true in
theorem P9 (he:PE X e (tD X fe))(hk:PE X ek (tD X fk)):PE X (.Subscript e (.Slice none none (Ab ek) p2) pos) (tD X (oE fe fk)):=by
 intro pins s σ H Q I h;obtain⟨P,α,env,S,r,re,af⟩:=h;have af':qK X P α ((fe env S).bind λd S1=>(fk env S1).bind λk S2=>dY d k S2) (OkV X P α Q):=af;refine Sc (thn (zK he I r re af') λv s1 ⟨x,H1,P1,α1,d,S1,G1,af1⟩=>?_);refine wpAny_Slice ?_;rw[Wd];refine Ak (Ak ?_);rw[evalPart_some];refine thn (zK hk G1.inv G1.rel G1.env (qR.base G1.same G1.pre af1)) λvk s2 ⟨y,H2,P2,α2,k,S2,G2,af2⟩=>?_;have af2:=qR.base G2.same G2.pre af2;cases d with
 |tup xs =>
  cases k with
  |int k =>
   simp only[dY] at af2
   split at af2
   .rename_i hk'
    have rp:=Rep.mono G2.same G2.pre _ _ G1.rep;obtain⟨a,vs,its,rfl,q,t,rvs,ht,hl,_⟩:=yH G2.inv G2.rel rp;cases (show v=Bs a from G1.val)
    have gr:=G2.rep;simp only[Rep] at gr;subst gr;obtain⟨tk,rfl⟩:=G2.val;have I4:Inv X pins σ H2 { s2 with heap:=s2.heap.push { cls:=.type "slice",data:=.fields #[.none,.none,.int k tk] } }:=G2.inv.kept (t':=s2.toks) λb ob q=>Ag _ q
    have ht':Nj (s2.heap.push { cls:=.type "slice",data:=.fields #[.none,.none,.int k tk] }) a its.toArray:=ht.keeps λb ob q=>Ag _ q;refine tail_any (ops:=[.ref a,.ref s2.heap.objs.size]) (s:={ s2 with heap:=s2.heap.push { cls:=.type "slice",data:=.fields #[.none,.none,.int k tk] } }) ht'.typeIs Do.lookup ?_ (by with_unfolding_all rfl)
    refine _H.getItem_tuple_step (s:={ s2 with heap:=s2.heap.push { cls:=.type "slice",data:=.fields #[.none,.none,.int k tk] } }) ht' (Wy ..) hk'.1 hk'.2.1 ?_ ?_
    .have lv:vs.length=its.length:=rvs.length
     have ld:xs.length=vs.length:=t.length;have t':qD X.K P2 α2 (_H.stepL xs k) (_H.stepL vs k):=by
      unfold _H.stepL;rw[ld];exact WM t _ λm=>(_H.stepLo vs.length k+(m:Am)*k).toNat
     have rv':qH (_H.stepL vs k) (_H.stepL its k):=by
      unfold _H.stepL;rw[lv];exact Y4 rvs _ λm=>(_H.stepLo its.length k+(m:Am)*k).toNat
     exact rT I4 G2.rel t' rv' (Cq (_H.stepL_length _ _) hk'.2.2) af2
    .rw[Ay,<- hl,<- zM];exact hk'.2.2
   .exact Ao af2
  |_=>exact Ao af2
 |_=>exact Ao af2
end
end _D
end
namespace _D
open PySem PySem.Spec PyProof.Rows _L
section
variable {X:Cx}{cm:Ar}{k:Ai}{e ek:Br}{fe fk:DE}{p2 pos:Ex}
theorem FJ (he:QE X e fe)(hk:QE X ek fk):QE X (.Subscript e (.Slice none none (Ab ek) p2) pos) (oE fe fk):=⟨P9 he.1 hk.1⟩
end
end _D
namespace _S
open PySem PySem.W PyProof.Rows
section
variable {prog:Bd}{w:Bt}{A:Bo}{E:Ac->Ah->Prop}{s:Ah}{K:Type}{is:K->Ac->Prop}{hash:K->Am}{lt':K->K->Ar}{d:K}{Fit:K->Prop}{h0:Bj}
theorem QH {Q:Ac->Ah->Prop}(kd:Kind prog w is hash lt' d Fit h0)(hu:A.units+16<Dw)(hS:Sup h0 s.heap){l:Af}{vs:Aa Ac}(hl:s.heap.IsList l vs.toArray\/s.heap.IsTuple l vs.toArray)(ks:Aa K)(hlen:vs.length=ks.length)(hks:∀ i v,vs[i]? = Ab v->is (ks.getD i d) v)(hf:∀ k∈ks,Fit k)(hoel:vs.length<=63)
  (h:∀ (h1 h':Bj) (tk:Ai) (D:Af) (c:Ai) (ps:Aa (K × Ac)),(∀ b o,s.heap.get? b=Ab o->h1.get? b=Ab o)->(∀ b o,h1.get? b=Ab o->h'.get? b=Ab o)->h1.objs.size<=D->h'.get? D=Ab (Dj "list" (ps.map (·.2)).toArray c)->ps.map (·.1)=yR lt' ks->(∀ p∈ps,is p.1 p.2/\p.2∈vs)->ps.length=ks.length->Q (.ref D) { s with heap:=h',toks:=tk }) :
  Ap (As prog w) A (call (.builtin "sorted") [.ref l]) Q E s:=by
 refine Ln Zo Xv Xw (Xx _) ?_;unfold Hl.«sorted»;refine Ad (m:=xL "sorted" 1 1 _) (Ak ?_);have hcol:∀ {R:Aa Ac->Ah->Prop},(∀ h1:Bj,(∀ b o,s.heap.get? b=Ab o->h1.get? b=Ab o)->R vs { s with heap:=h1 }) -> Ap (As prog w) A.in1 (collect (.ref l)) R E s:=λ{R} hR=>by
  have e:vs.toArray.toList=vs:=by simp
  rcases hl with⟨o,ho,hc,n,hd⟩|⟨o,ho,hc,n,hd⟩
  .exact Yr l (.inl rfl) ho hc hd (λh' hk=>by rw[e];exact hR h' hk) (by rw[Ay,Ev];omega)
  .exact Yr l (.inr rfl) ho hc hd (λh' hk=>by rw[e];exact hR h' hk) (by rw[Ay,Ev];omega)
 refine Ad (hcol λh1 kp1=>?_);refine Ad (Rf ?_ (by rw[Ev];omega))
 have hD:(h1.push (Dj "list" vs.toArray 0)).get? h1.objs.size=Ab (Dj "list" vs.toArray 0):=Ba _ rfl;have n0:h0.get? h1.objs.size=none:=by
  cases q:h0.get? h1.objs.size with
  |none=>rfl
  |some o=>exact absurd (Ax (kp1 _ _ (hS _ _ q))) (Dp _)
 show Ap _ _ _ _ _ { s with heap:=h1.push (Dj "list" vs.toArray 0),toks:=s.toks }
 refine Ad (Ct (Dz Vg ⟨_,hD,rfl⟩ Ud (oV (h0:=h0) (is:=is) kd.ord kd.inj (d:=d) (vs:=vs) hlen hks hD (by show A.units+2+8<Dw;omega) hoel (λh2=>kd.cmps hlen hks hf h2) (λb o e=>Ag _ (kp1 b o (hS b o e))) n0 λps pm nf=>⟨_,rfl,?_⟩) (Vh _)))
 refine Ak ⟨_,rfl,?_⟩;have hz:(h1.push (Dj "list" vs.toArray 0)).objs.size=h1.objs.size+1:=size_push' ..;have old:∀ b o,b≠h1.objs.size->(h1.push (Dj "list" vs.toArray 0)).get? b=Ab o->((((h1.push (Dj "list" vs.toArray 0)).update h1.objs.size (Eg λ_=>#[])).push (Dj "tuple" vs.toArray 0)).push (Dj "list" #[] 0)).get? b=Ab o:=λb o hb e =>
  Ag _ (Ag _ ((Bg _ _ (El hb)).trans e))
 obtain⟨e1,he1⟩:∃ e1,((h1.push (Dj "list" vs.toArray 0)).update h1.objs.size (Eg λ_=>#[])).get? h1.objs.size=Ab (Dj "list" #[] e1):=⟨_,Iy hD (λ_=>#[])⟩;have he6:=Iy (Ag (Dj "list" #[] 0) (Ag (Dj "tuple" vs.toArray 0) he1)) (λ_=>(ps.map (·.2)).toArray)
 have pk:(ps.map (·.1)).Perm ks:=by
  have:=pm.map (·.1)
  rwa [NE (by omega)] at this
 refine h h1 _ s.toks h1.objs.size _ ps kp1 (λb o e=>?_) (AT _) he6 (jZ kd.ord nf (kF kd.ord ks) (pk.trans (y0 ks).symm)) (λp hp=>?_) (by have:=pk.length_eq;rwa [Aq] at this)
 .have hb:b≠h1.objs.size:=λz=>by
   subst z;exact absurd (Ax e) (Dp _)
  exact(Bg _ _ (El hb)).trans (old b o hb (Ag _ e))
 .obtain⟨i,e1,e2⟩:=cA (d:=d) hlen (pm.mem_iff.mp hp)
  exact⟨e2▸hks i _ e1,Bk e1⟩
end
end _S
namespace _D
open PySem PySem.Spec PyProof.Rows _L
def gG (xs:Aa D):Al (Aa D):=match xV xs with
 |some ns=>if ns.length<=63 then Ab ((_S.yR _S.ltI ns).map D.int) else none
 |none=>match xS xs with
  |some ks=>if (decide (ks.length<=63)&&ks.all λk=>!k.isEmpty) then Ab ((_S.yR _H.lexLt ks).map tpD) else none
  |none=>none
def JF (R:Aa D->Sto->Res D):DF:=λds S=>match ds with
 |[d]=>match (JA d).bind gG with
  |some ys=>R ys S
  |none=>.bad
 |_=>.bad
def jU:DF:=JF λys S=>.ok (.lst ys) S
section
variable {X:Cx}{pins:Aa (Af × Ci)}{σ : _L.St}{H P:Hp}{α : Aa Af}{S:Sto}{s:Ah}
inductive NewR (X:Cx)(pins:Aa (Af × Ci))(σ : _L.St)(H P:Hp)(α : Aa Af)(ys:Aa D)(u:Ac)(s':Ah):Prop
 |mk (D:Af) (vs:Aa V) (e:u=.ref D) (hn:H D=none) (I:Inv X pins σ (upd H D (.lst vs)) s') (rp:qD X.K P α ys vs):NewR X pins σ H P α ys u s'
theorem dG {K:Type}{is:K->Ac->Prop}{hash:K->Am}{lt':K->K->Ar}{d:K}{Fit:K->Prop}(kd:_S.Kind X.prog X.w is hash lt' d Fit s.heap)(hu:X.A.units+64<Dw)(I:Inv X pins σ H s)(r:Rel X.K H P α S){a:Af}{its:Aa Ac}
  (ha:s.heap.IsList a its.toArray\/s.heap.IsTuple a its.toArray) (ks:Aa K) (hl:ks.length=its.length) (hk:∀ i v,its[i]? = Ab v->is (ks.getD i d) v) (hn:ks.length<=63) (hf:∀ k∈ks,Fit k) (enc:K->D)
  (back:∀ k v,is k v->v∈its->∃ vv,qI vv v/\Rep X.K P α (enc k) vv) {E:Ac->Ah->Prop} :
  Ap (As X.prog X.w) X.A (call (.builtin "sorted") [.ref a]) (NewR X pins σ H P α ((_S.yR lt' ks).map enc)) E s:=by
 refine _S.QH kd om (λ_ _ e=>e) ha ks hl.symm hk hf om λh1 h2 tk2 D c ps kp1 kp2 hD hob hps hp hpl=>?_;have I1:Inv X pins σ H { s with heap:=h1,toks:=s.toks }:=I.kept kp1
 have vv:∀ (ps:Aa (K × Ac)),(∀ p∈ps,is p.1 p.2/\p.2∈its)->∃ vs,qH vs (ps.map (·.2))/\qD X.K P α ((ps.map (·.1)).map enc) vs:=by
  intro ps
  induction ps with
  |nil=>exact λ_=>⟨[],.nil,.nil⟩
  |cons p ps ih =>
   intro h;obtain⟨vs,a1,a2⟩:=ih λq hq=>h q (by simp[hq])
   obtain⟨v,b1,b2⟩:=back p.1 p.2 (h p (by simp)).1 (h p (by simp)).2
   exact⟨v::vs,.cons b1 a1,.cons b2 a2⟩
 obtain⟨vs,a1,a2⟩:=vv ps hp;rw[hps] at a2;have nd:([(D,HO.lst vs)].map (·.1)).Nodup:=by simp
 have I2:Inv X pins σ (xU H [(D,HO.lst vs)]) { s with heap:=h2,toks:=tk2 }:=Inv.laidL (s:={ s with heap:=h1,toks:=s.toks }) (L:=[(D,HO.lst vs)]) (t':=tk2) I1 kp2 (λp hpm=>by
  have:p=(D,HO.lst vs):=by simpa using hpm
  subst this;exact hD) λp hpm=>by
  have:p=(D,HO.lst vs):=by simpa using hpm
  subst this;refine⟨?_,ps.map (·.2),c,a1,hob⟩
  have:=a1.length;rw[Aq] at this;rw[this,Ev];omega
 exact⟨D,vs,rfl,I1.hok.fresh hD,I2,a2⟩
set_option tactic.hygienic true in
theorem QF {E:Ac->Ah->Prop}(hu:X.A.units+64<Dw)(I:Inv X pins σ H s)(r:Rel X.K H P α S){a:Af}{xs ys:Aa D}{vs:Aa V}{its:Aa Ac}(t1:qD X.K P α xs vs)(rv1:qH vs its)(e1:s.heap.IsList a its.toArray\/s.heap.IsTuple a its.toArray)(l1:xs.length=its.length)(hs:gG xs=Ab ys) :
  Ap (As X.prog X.w) X.A (call (.builtin "sorted") [.ref a]) (NewR X pins σ H P α ys) E s:=by
 unfold gG at hs;cases hi:xV xs with
 |some ns =>
  rw[hi] at hs;dsimp only at hs
  split at hs
  .rename_i hlt
   cases hs;have:=uO hi;subst this;have:=yW t1;subst this;refine dG (d:=0) (_S.KB X.prog X.w s.heap) hu I r e1 ns (by simpa using l1) (λi u hu'=>?_) hlt (λ_ _=>trivial) D.int λk u hk _=>?_
   .have hi:Ji its ns:=by simpa using kW rv1
    obtain⟨t,rfl⟩:=Pr hi i u hu';exact Wm _ _ _ _
   .obtain⟨t,rfl⟩:=_S.wM hk
    exact⟨.int k,⟨t,rfl⟩,by simp only[Rep]⟩
  .cases hs
 |none =>
  rw[hi] at hs;dsimp only at hs;cases ht:xS xs with
  |none=>rw[ht] at hs;cases hs
  |some ks =>
   rw[ht] at hs;dsimp only at hs
   split at hs
   .rename_i hlt
    cases hs;rw[Au,Ce] at hlt;have:=fW ht;subst this;have at':∀ (i:Ai) (u:Ac),its[i]? = Ab u->∃ b,u=.ref b/\Pe (Bi X.prog X.w) s.heap (ks.getD i []) b/\∃ vv,qI vv u/\Rep X.K P α (tpD (ks.getD i [])) vv:=λi u hu'=>by
     have hii:i<its.length:=(Az.mp hu').1;have hik:i<ks.length:=by rw[Aq] at l1;omega
     obtain⟨v,p,q,_⟩:=wC t1 rv1 (j:=i) (by rw[Ay];exact hii)
     have hd:(ks.map tpD).getD i D.non=tpD (ks.getD i []):=by simp[Gs,hik]
     rw[hd] at p;have hu2:its.toArray[i]'(by rw[Ay];exact hii)=u:=by
      rw[An hii] at hu';simpa using hu'
     rw[hu2] at q;obtain⟨b,ws,us,rfl,sq,t,rv,⟨o,ho,hcl,m,hd⟩,_,_⟩:=yH I r (show Rep X.K P α (.tup ((ks.getD i []).map D.int)) v from p)
     cases (show u=Bs b from q)
     have:=yW t;subst this;exact⟨b,rfl,⟨o,us.toArray,m,ho,hcl,hd,by simpa using n8 rv⟩,.ref b,rfl,p⟩
    refine dG (d:=[]) (_S.KC X.prog X.w s.heap) hu I r e1 ks (by simpa using l1) (λi u hu'=>?_) hlt.1 (λk hk=>?_) tpD λk u hk hm'=>?_
    .obtain⟨b,rfl,q,_⟩:=at' i u hu'
     exact⟨b,rfl,q⟩
    .have:=Be.mp hlt.2 k hk
     intro z;subst z;cases this
    .obtain⟨i,hi',rfl⟩:=Cd.mp hm'
     obtain⟨b,eb,q,w,rw',pw⟩:=at' i _ (An hi');have:k=ks.getD i []:=_S.isT.inj hk ⟨b,eb,q⟩;rw[this];exact⟨w,rw',pw⟩
   .cases hs
theorem AL (hu:X.A.units+64<Dw){vs:Aa V}{us:Aa Ac}{ds:Aa D}{Q:VK}{R:Aa D->Sto->Res D}(I:Inv X pins σ H s)(r:Rel X.K H P α S)(rv:qH vs us)(rp:qD X.K P α ds vs)(af:qR X P α (JF R ds S) Q)
  (k:∀ ys D vs',H D=none->qD X.K P α ys vs'->qR X P α (R ys S) Q->Q (.ref D) (upd H D (.lst vs'))):Ap (As X.prog X.w) X.A (call (.builtin "sorted") us) (EP X pins σ Q) X.xe s:=by
 match ds,af,rp with
 |[],af,_=>exact Ao af
 |_::_::_,af,_=>exact Ao af
 |[d],af,rp =>
  simp only[JF] at af;cases hq:(JA d).bind gG with
  |none=>rw[hq] at af;exact Ao af
  |some ys =>
   rw[hq] at af;obtain⟨xs,hd,hs⟩:=Ey.mp hq;obtain⟨v,u,rfl,rfl,p,q⟩:=wH rp rv;obtain⟨a,vs,its,rfl,t1,rv1,e1,l1⟩:=eY I r p q hd;refine thn (QF hu I r t1 rv1 e1 l1 hs) λu' s3 ⟨D,vs',e,hn,I',rp'⟩=>?_;subst e;exact⟨.ref D,_,I',rfl,k ys D vs' hn rp' af⟩
theorem Z5 (hu:X.A.units+64<Dw):w8 X (.builtin "sorted") jU:=by
 intro pins σ H s P α S vs us ds Q I r rv rp af;exact AL hu I r rv rp af λys D vs' hn rp' af'=>wG r hn rp' af'
end
section
variable {X:Cx}{cm:Ar}{k:Ai}
theorem JN (hr:RoomC cm k X.A):ZCall X (.builtin "sorted") jU:=⟨Z5 hr.units⟩
end
end _D
namespace _L
open PySem PySem.Spec PyProof.Rows
variable {loose:Aa Av}{mg mb:Av->Al Ac}
def IL (H:Hp):Prop:=∀ b,H b=none\/(∃ o xs,H b=Ab (.frz o (.lst xs)))\/H b=Ab (.tbl #[])
def Tb0 (K:Aj)(H:Hp):Prop:=∀ x∈wF,∀ c T,Dq K x=Ab (c,T)->H T=Ab (.tbl #[])
structure Tabs (K:Aj)(h:Bj):Prop where
 at':∀ x∈wF,∀ c T,Dq K x=Ab (c,T)->Uw h c T/\h.get? T=Ab (Kr #[]) /\ K.lookup T=none
 inj:∀ x∈wF,∀ y∈wF,∀ c d T,Dq K x=Ab (c,T)->Dq K y=Ab (d,T)->x=y
theorem VU {P:Bd}{w:Bt}{K:Aj}{CX:CXT}{k:Ai}{fa a:Af}{fd:Ft}{x:Av}{sp:Sp}{s₁:Ah}{vs:Aa Ac}{ns:Aa Am}
  (KX:K.In s₁.heap) (hns:s₁.heap.Ns Cm mg) (hb:s₁.heap.Ns Ow mb) (hbb:∀ x:Av,x ≠ "__name__" -> mb x=Gb x) (hlim:s₁.heap.NoLimit) (hg:s₁.gens=#[]) (hbm:MM mg s₁.heap) (tbs:Tabs K s₁.heap)
  (ha:s₁.heap.get? a=Ab { cls:=.type "list",data:=.seq vs.toArray }) (hi:Ji vs ns) (hl:ns.length<=sizeLine) (hr:Room k Qr)
  (F:∀ base:Bj,K.In base->base.Ns Cm mg->FnOk P w K mg base CX k fa fd [x] sp) (hbind:∀ (s:Ah) (u:Ac),Nm s fd ⟨[u],[]⟩ [(x,u)])
  (hsp:∀ H:Hp,Tb0 K H->SqX K H a (ns.map V.int)->sp [.ref a] H (λv _=>v=.bl true) λ_ _ _=>Fh)
  (hCX:∀ H e s',CX [] H s₁ (λ_ _ _=>Fh) e s'->Fh) :
  Go (As P w) Qr (.call (.ref fa) ⟨[.ref a],[]⟩) (λr s'=>r=.ok (.ret (.bool true))/\OldK s₁.heap s'.heap/\s'.os=s₁.os/\Nk s'.gens) s₁:=by
 have rv:=Y3 hi;have lenV:=hi.length
 let isT:Af->Prop:=λb=>∃ x∈wF,∃ c,Dq K x=Ab (c,b)
 have tab:∀ b,isT b->s₁.heap.get? b=Ab (Kr #[]) /\ K.lookup b=none:=λb ⟨x,hx,c,h⟩=>(tbs.at' x hx c b h).2;have core:∀ H:Hp,IL H->Tb0 K H->SqX K H a (ns.map V.int)->HOk P w H s₁.heap->(∀ b,H b≠none->b=a\/isT b)->(H a≠none->K.lookup a=none) ->
   Go (As P w) Qr (.call (.ref fa) ⟨[.ref a],[]⟩) (λr s'=>r=.ok (.ret (.bool true))/\OldK s₁.heap s'.heap/\s'.os=s₁.os/\Nk s'.gens) s₁:=by
  intro H hO hT hS hok hA hK;have base_of:∀ {b:Af} {o:Ci},s₁.heap.get? b=Ab o->H b=none->(kT s₁.heap H).get? b=Ab o:=λe n=>VJ e n;have noA:∀ {b:Af} {o:Ci},s₁.heap.get? b=Ab o->o.cls≠.none->(o.cls≠.type "list" \/ ∃ es ep,o.data=.dict es ep)->H b=none:=λ{b o} e c1 c2=>by
   cases q:H b with
   |none=>rfl
   |some u =>
    rcases hA b (by rw[q];simp) with e'|e'
    .subst e'
     rw[ha] at e;cases e;rcases c2 with z|⟨es,ep,d⟩
     .exact absurd rfl z
     .cases d
    .rw[(tab b e').1] at e;cases e
     exact absurd rfl c1
  have noD:∀ {b:Af} {o:Ci} {es:Bn DictEntry} {ep:Ai},s₁.heap.get? b=Ab o->o.data=.dict es ep->H b=none:=λ{b o es ep} e d=>by
   cases q:H b with
   |none=>rfl
   |some u =>
    rcases hA b (by rw[q];simp) with e'|e'
    .subst e'
     rw[ha] at e;cases e;cases d
    .rw[(tab b e').1] at e;cases e;cases d
  have nsK:∀ {b:Af} {m:Av->Al Ac},s₁.heap.Ns b m->(kT s₁.heap H).Ns b m:=λ{b m} ⟨o,es,ep,e,d,r⟩=>⟨o,es,ep,base_of e (noD e d),d,r⟩;have hKb:K.In (kT s₁.heap H):=λb o e=>base_of (KX b o e) (by
   cases q:H b with
   |none=>rfl
   |some u =>
    rcases hA b (by rw[q];simp) with e'|e'
    .subst e'
     rw[hK (by rw[q];simp)] at e;cases e
    .rw[(tab b e').2] at e;cases e)
  have hM:Mod K mg (kT s₁.heap H):=by
   refine⟨hKb,nsK hns,⟨mb,nsK hb,hbb⟩,let ⟨mc,h1,h2⟩:=hlim;⟨mc,nsK h1,h2⟩,?_,λx hx c T h=>?_,tbs.inj⟩
   .obtain⟨bm,o,b1,b2,b3,b4,b5⟩:=hbm
    exact⟨bm,o,b1,b2,base_of b3 (noA b3 (by rw[b4];nofun) (.inl (by rw[b4];decide))),b4,b5⟩
   .obtain⟨o,vs,file,tf,flags,tg,inF,text,tt,e1,e2,r⟩:=(tbs.at' x hx c T h).1
    exact⟨o,vs,file,tf,flags,tg,inF,text,tt,base_of e1 (noA e1 (by rw[e2];nofun) (.inl (by rw[e2];decide))),e2,r⟩
  have e0:Env0 P w K mg (kT s₁.heap H) Qr [] s₁ H:=⟨rfl,hM,λb o e=>F1 e,Nat.le_of_eq (ZU _ _),trivial,λb hb=>absurd (show b∈([]:Aa Af) from hb) (by simp),hok,.of_eq hg⟩
  refine Iq ((F _ hKb (nsK hns)).run Qr [] s₁ H ⟨[.ref a],[]⟩ [.ref a] [.ref a] _ _ hr e0 (hbind s₁ (.ref a)) (.cons rfl .nil) (hsp H hT hS)) λr s' h=>?_;cases r with
  |error e=>exact(hCX H e s' h).elim
  |ok fl =>
   cases fl with
   |next=>exact Ao h
   |brk=>exact Ao h
   |cont=>exact Ao h
   |ret u =>
    obtain⟨v,H',os,bare,un,hok',r',q⟩:=h;have q':v=.bl true:=q;subst q';obtain rfl:u=Fp true:=r';refine⟨rfl,⟨λb o e=>?_,λb o e=>un.there b o e (by simp)⟩,os,bare⟩
    cases q:H b with
    |none=>exact .inl (un.keep b o e q (by intro z;exact absurd (show b∈([]:Aa Af) from z) (by simp)) (by simp))
    |some u =>
     rcases hO b with z|⟨ob,xs,z⟩|z
     .rw[q] at z;cases z
     .have z2:=un.frzs b ob _ z
      obtain⟨e1,_⟩:=hok b _ z;obtain⟨e2,_⟩:=hok' b _ z2;rw[e] at e1;cases e1;exact .inl e2
     .obtain⟨more,z2⟩:=un.tbls b _ z
      have e1:s₁.heap.get? b=Ab (Kr #[]):=hok b _ z;have e2:s'.heap.get? b=Ab (Kr (#[] ++ more)):=hok' b _ z2;rw[e] at e1;cases e1;rcases hA b (by rw[q];simp) with e'|⟨x,hx,c,h⟩
      .subst e';rw[ha] at e;cases e
      .exact .inr (.inl ⟨((tbs.at' x hx c b h).1.tab e).isCodeTable,rfl,#[],more,rfl,e2⟩)
 have nT:¬ isT a:=λh=>by
  have z:=(tab a h).1;rw[ha] at z;cases z
 have tT:∀ x∈wF,∀ c T,Dq K x=Ab (c,T)->isT T:=λx hx c T h=>⟨x,hx,c,h⟩;have dec:∀ b,Mq (isT b):=λb=>Classical.propDecidable _;cases hk:K.lookup a with
 |some o =>
  have e:=KX a o hk;rw[ha] at e;cases e;refine core (λb=>if isT b then Ab (.tbl #[]) else none) (λb=>?_) (λx hx c T h=>Bb (tT x hx c T h)) (.inr ⟨vs,_,hk,by rw[Aq];exact hl,rv⟩) (λb u z=>?_) (λb z=>?_) λz=>absurd (Bc nT) z
  .by_cases h:isT b
   .exact .inr (.inr (Bb h))
   .exact .inl (Bc h)
  .by_cases h:isT b
   .have z':=(Bb h).symm.trans z
    cases z';exact(tab b h).1
   .have z':=(Bc h).symm.trans z
    cases z'
  .by_cases h:isT b
   .exact .inr h
   .exact absurd (Bc h) z
 |none =>
  refine core (λb=>if b=a then Ab (.frz { cls:=.type "list",data:=.seq vs.toArray } (.lst (ns.map V.int))) else if isT b then Ab (.tbl #[]) else none) (λb=>?_) (λx hx c T h=>?_) (.inl (.inr ⟨{ cls:=.type "list",data:=.seq vs.toArray },Bb rfl⟩)) (λb u z=>?_) (λb z=>?_) λ_=>hk
  .by_cases hb:b=a
   .exact .inr (.inl ⟨_,_,Bb hb⟩)
   .by_cases h:isT b
    .exact .inr (.inr ((Bc hb).trans (Bb h)))
    .exact .inl ((Bc hb).trans (Bc h))
  .have h':=tT x hx c T h
   exact(Bc (λ(z:T=a)=>nT (z▸h'))).trans (Bb h')
  .by_cases hb:b=a
   .have z':=(Bb hb).symm.trans z
    cases z';subst hb;exact⟨ha,by rw[Aq];exact hl,vs,_,rv,ha⟩
   .by_cases h:isT b
    .have z':=((Bc hb).trans (Bb h)).symm.trans z
     cases z';exact(tab b h).1
    .have z':=((Bc hb).trans (Bc h)).symm.trans z
     cases z'
  .by_cases hb:b=a
   .exact .inl hb
   .by_cases h:isT b
    .exact .inr h
    .exact absurd ((Bc hb).trans (Bc h)) z
def oA (q:Bd)(K:Aj):Ar:=wF.all λx=>match Dq K x with
 |none=>true
 |some (_,T)=>((recsOf q).find? λe=>e.name == x).isSome&&((K.lookup T).isNone&&wF.all λy=>match Dq K y with
  |none=>true
  |some (_,U)=>x == y||!decide (T=U))
theorem M8 {q:Bd}{mean:ExcName->Al Ac}{h:Bj}{K:Aj}(T:Top q loose mean mg mb h)(X:K.In h)(c:oA q K=true):Tabs K h:=by
 unfold oA at c;have g:∀ x∈wF,∀ d U,Dq K x=Ab (d,U)->((recsOf q).find? λe=>e.name == x).isSome=true/\(K.lookup U).isNone=true/\(wF.all λy=>match Dq K y with
  |none=>true
  |some (_,V)=>x == y||!decide (U=V))=true:=λx hx d U e=>by
  have z:=Be.mp c x hx;rw[e] at z;simpa only [Au] using z
 refine⟨λx hx d U e=>?_,λx hx y hy d d' U e1 e2=>?_⟩
 .obtain⟨z1,z2,_⟩:=g x hx d U e
  obtain⟨r,hr⟩:=Je.mp z1;obtain⟨k1,k2⟩:=PySem.W.tab_of T X hr e;exact⟨k1,k2,by simpa using z2⟩
 .have z:=Be.mp (g x hx d U e1).2.2 y hy
  rw[e2] at z;simpa using z
theorem MF {l:o0}{n k:Ai}{q:Bd}{loose:Aa Av}{XP:(Av->Al Ac)->Bj->Prop}{YP:Bt->Bj->Prop}{d:DefRec}{K:Params->Aj}{CX:Bt->CXT}{sp:Bt->Sp}{x:Av}
  (hn:l.most=Ab n) (hn2:n<=sizeLine) (hdf:d.params.defaults=[]) (hr:Room k Qr) (ht:∀ p,oA q (K p)=true)
  (hY:∀ (w:Bt) (h:Bj),YP w h->(K w.params).In h)
  (F:∀ (w:Bt) (mg:Av->Al Ac) (fa:Af) (h:Bj),(K w.params).In h->h.Ns Cm mg->mg d.name=Ab (.ref fa) ->
   ∃ fd:Ft,(∀ (s:Ah) (u:Ac),Nm s fd ⟨[u],[]⟩ [(x,u)]) /\
    ∀ base:Bj,(K w.params).In base->base.Ns Cm mg->FnOk l.prog w (K w.params) mg base (CX w) k fa fd [x] (sp w))
  (hsp:∀ (w:Bt) (H:Hp) (a:Af) (ns:Aa Am),ns.length<=n->Tb0 (K w.params) H->SqX (K w.params) H a (ns.map V.int)->sp w [.ref a] H (λv _=>v=.bl true) λ_ _ _=>Fh)
  (hCX:∀ (w:Bt) (H:Hp) (s:Ah) (e:Ac) (s':Ah),CX w [] H s (λ_ _ _=>Fh) e s'->Fh) :
  AaD q loose XP YP l.row.toRowW d [] (λf vs=>v6 f vs):=by
 refine _A.attach_call hn hdf λw s₀ s₁ mg mb fa o pm cd doc a vs ns G Y ho hd hcd hmg hobj hints hlen hg=>?_;have KX:=hY w _ Y;obtain⟨fd,hb,hF⟩:=F w mg fa _ KX G.T.g hmg;exact VU KX G.T.g G.T.b G.T.builtins G.T.nolimit hg (let ⟨bm,ob,b1,b2,b3,b4,b5,b6⟩:=G.T.bmain;⟨bm,ob,b1,b2,b3,b4,b5,b6⟩) (M8 G.T KX (ht _)) hobj hints (Cq hlen hn2) hr hF hb (λH hT hS=>hsp w H a ns hlen hT hS) λH e s'=>hCX w H s₁ e s'
end _L
namespace _D
open PySem PySem.Spec PyProof.Rows _L
variable {K:Aj}{mg:Av->Al Ac}
theorem E0 {h:Bj}(X:K.In h)(G:h.Ns Cm mg){x:Av}{st:Fa}{ps:Aa Av}{f:Af}{oc:Ac}{od an:Al Af}{osl:Bn (Al Ac)}{kV doc pm cdv ct:Ac}
  (a:Ds K Cm x=Ab (Ab (.ref f)))
  (l:K.lookup f=Ab ⟨oc,od,.func (Gw x x (y7 st) (zF st) (qG st) .none kV doc pm an cdv ct),osl⟩) (c:Kn K cdv x=true) (k:Fj K (.ref f)=true)
  (hb:∀ (kV doc pm:Ac) (an:Al Af) (cdv ct:Ac) (us:Aa Ac),us.length=ps.length->Na (Gw x x (y7 st) (zF st) (qG st) .none kV doc pm an cdv ct) ⟨us,[]⟩=pure (ps.zip us)):Src K mg x st ps:=
 have F:=L5 (st:=st) l c k
 ⟨f,_,Wq X G a,F,F.binds hb⟩
def sW (K:Aj)(C:Af):Ar:=
 decide (Ml K (.ref C) "__getattribute__" = Ab (Ab (.builtin "BaseException.__getattribute__")))&&decide (Ml K (.ref C) "__getattr__" = Ab none)
 && decide (Ml K (.ref C) "__class__" = Ab (Ab (.builtin "object.__class__")))&&decide (Vy K C (.type "object")=Ab true)&&decide (Vy K C (.type "BaseException")=Ab true)
 && (PySem.W.clsIn K C).isSome&&decide (Km K (.ref C) (.type "ValueError")=Ab true)
def YK (K:Aj):Ar:=
 decide (Ya K (.builtin "object.__class__") "__get__" = Ab (Ab (.builtin "getset_descriptor.__get__")))&&decide (Zt K (.builtin "object.__class__")=Ab true)
def T7 (K:Aj)(cl:Aa Af):Ar:=cl.all λC=>cl.all λB=>decide (Km K (.ref C) (.ref B)=Ab (C == B))
theorem TB {cl:Aa Af}(h1:cl.all (sW K)=true)(h2:YK K=true)(h3:T7 K cl=true):ClsK K cl:=by
 have g:=h2;unfold YK at g;simp only[Au,Ce] at g;have k1:∀ C∈cl,sW K C=true:=Be.mp h1;refine⟨λC hC=>?_,λC hC B hB=>?_,λC hC=>?_⟩
 .have e:=k1 C hC
  unfold sW at e;simp only[Au,Ce] at e;obtain⟨⟨⟨⟨⟨⟨e1,e2⟩,e3⟩,e4⟩,e5⟩,e6⟩,e7⟩:=e;exact⟨e1,e2,e3,g.1,g.2,e4,e5,e6⟩
 .have e:=Be.mp (Be.mp h3 C hC) B hB
  exact Bx e
 .have e:=k1 C hC
  unfold sW at e;simp only[Au,Ce] at e;exact e.2
def IZ (K:Aj)(cs:Aa Ac)(A:Af):Ar:=cs.all λv=>decide (Jf K v (.ref A)=Ab true)
def IX (K:Aj)(cs:Aa Af)(A:Af):Ar:=cs.all λC=>fE K C A
def IY (K:Aj)(cs:Aa Af):Ar:=cs.all λC=>Fj K (.ref C)
def sI (K:Aj):Sp:=λvs H Q E=>Tb0 K H/\∃ a ns,vs=[.ref a]/\SqX K H a (List.map V.int ns)/\ns.length<=63/\∀ H',Q (.bl true) H'
theorem eS {P:Hp}{α:Aa Af}:∀ ns:Aa Am,qD K P α (ns.map D.int) (ns.map V.int)
 |[]=>.nil
 |n::ns=>.cons (by simp only[Rep]) (eS ns)
def noT (H:Hp):Hp:=λb=>match H b with
 |some (.tbl _)=>none
 |u=>u
theorem BL {P:Bd}{w:Bt}{fa:Af}{st:Fa}{k:Ai}{x:Av}(hs:Src K mg "law" st [x])(hfa:mg "law" = Ab (.ref fa))
  (hbd:∀ (kV doc pm:Ac) (an:Al Af) (cdv ct:Ac) (s:Ah) (v:Ac),Nm s (Gw "law" "law" (y7 st) (zF st) (qG st) .none kV doc pm an cdv ct) ⟨[v],[]⟩ [(x,v)])
  (hall:∀ base:Bj,∃ F,sN P w K mg base true k "law" [x] F/\∀ ns:Aa Am,ns.length<=63->∃ S,F [.lst (ns.map D.int)] [] = .ok (.bl true) S) :
  ∃ fd:Ft,(∀ (s:Ah) (v:Ac),Nm s fd ⟨[v],[]⟩ [(x,v)])/\∀ base:Bj,K.In base->base.Ns Cm mg->FnOk P w K mg base (CXd P w) k fa fd [x] (sI K):=by
 obtain⟨f,fd,hm,F,hb⟩:=hs;cases hfa.symm.trans hm;refine⟨fd,?_,λbase _ _=>?_⟩
 .obtain⟨oc,od,kV,doc,pm,an,cdv,ct,osl,rfl,_,_⟩:=F.ex
  exact hbd kV doc pm an cdv ct
 .obtain⟨G,⟨f',fd',hm',_,hb',hl,X⟩,hG⟩:=hall base
  cases hm.symm.trans hm';cases hl.one (bC F);refine(X.imp λvs H Q E h=>?_).ok;obtain⟨tb,a,ns,rfl,hS,hl,k⟩:=h;obtain⟨S,e⟩:=hG ns hl;have keep:∀ (b:Af) (u:HO),H b=Ab u->(∀ ps,u≠.tbl ps)->noT H b=Ab u:=λb u q h=>by
   unfold noT;rw[q];cases u with
   |tbl ps=>exact absurd rfl (h ps)
   |_=>rfl
  have hS':SqX K (noT H) a (List.map V.int ns):=by
   rcases hS with (h|⟨o,h⟩)|h
   .exact .inl (.inl (keep _ _ h λ_ z=>by cases z))
   .exact .inl (.inr ⟨o,keep _ _ h λ_ z=>by cases z⟩)
   .exact .inr h
  have sub:qF (noT H) H:=λb u q=>by
   unfold noT at q;cases z:H b with
   |none=>rw[z] at q;cases q
   |some v =>
    rw[z] at q;cases v with
    |tbl ps=>cases q
    |_=>exact q
  refine⟨rfl,noT H,[],[.lst (ns.map D.int)],[],⟨λx hx c T h=>⟨#[],tb x hx c T h,by unfold noT;rw[tb x hx c T h],by simp,trivial,λpos cv z=>by cases z⟩,sub,rfl,.nil,by simp,by simp,by simp⟩,.cons (nU hS' (eS ns)) .nil,?_⟩
  rw[e];intro v H' P' α' _ _ _ rv;simp only[Rep] at rv;subst rv;exact k H'
theorem AV {l:o0}{q:Bd}{loose:Aa Av}{XP:(Av->Al Ac)->Bj->Prop}{YP:Bt->Bj->Prop}{d:DefRec}{K:Params->Aj}{k:Ai}{x:Av}(hn:l.most=Ab 63)(hdf:d.params.defaults=[])(hr:Room k Qr)(ht:∀ p,oA q (K p)=true)
  (hY:∀ (w:Bt) (h:Bj),YP w h->(K w.params).In h)
  (F:∀ (w:Bt) (mg:Av->Al Ac) (fa:Af) (h:Bj),(K w.params).In h->h.Ns Cm mg->mg d.name=Ab (.ref fa) ->
   ∃ fd:Ft,(∀ (s:Ah) (u:Ac),Nm s fd ⟨[u],[]⟩ [(x,u)])/\∀ base:Bj,(K w.params).In base->base.Ns Cm mg->FnOk l.prog w (K w.params) mg base (CXd l.prog w) k fa fd [x] (sI (K w.params))) :
  AaD q loose XP YP l.row.toRowW d [] (λf vs=>v6 f vs):=
 _L.MF (n:=63) (k:=k) (x:=x) (CX:=λw=>CXd l.prog w) (sp:=λw=>sI (K w.params)) hn (by decide) hdf hr ht hY F (λ_ _ a ns hl hT hS=>⟨hT,a,ns,rfl,hS,hl,λ_=>rfl⟩) λw H s e s' h=>by
  obtain⟨_,_,_,_,_,_,_,_,_,_,_,_,z⟩:=h;exact z
end _D
namespace _D
open PySem
variable {us:Aa Ac}
theorem us0 (h:us.length=0):us=[]:=Oq h
theorem usS {n:Ai}(h:us.length=n+1):∃ a vs,us=a::vs/\vs.length=n:=by
 cases us with
 |nil=>exact absurd h (by simp)
 |cons a vs=>exact⟨a,vs,rfl,by simpa using h⟩
theorem us1 (h:us.length=1):∃ a,us=[a]:=by
 obtain⟨a,vs,rfl,h'⟩:=usS h;exact⟨a,by rw[us0 h']⟩
theorem us2 (h:us.length=2):∃ a b,us=[a,b]:=by
 obtain⟨a,vs,rfl,h'⟩:=usS h;obtain⟨b,rfl⟩:=us1 h';exact⟨a,b,rfl⟩
theorem us3 (h:us.length=3):∃ a b c,us=[a,b,c]:=by
 obtain⟨a,vs,rfl,h'⟩:=usS h;obtain⟨b,c,rfl⟩:=us2 h';exact⟨a,b,c,rfl⟩
end _D
namespace _D
open PySem PySem.Spec PyProof.Rows _L
variable {us:Aa Ac}{caps:Aa D}{E:Ac->Ah->Prop}{c':Af}{j:Ai}{oc:Ci}{sc:Em}{H':Hp}{env:qE}
theorem KZ (F:DF):∃ G:DF,G=F:=⟨F,rfl⟩
def sh (F:DF):DF:=Ky (KZ F)
theorem zZ (F:DF):sh F=F:=Ke (KZ F)
def isV:Al Ht->Ar
 |some .local => true
 |some .cell=>true
 |some .free=>true
 |_=>false
def isL:Al Ht->Ar
 |some .local => true
 |some .cell=>true
 |_=>false
def isG:Al Ht->Ar
 |some .globalImplicit=>true
 |_=>false
def okN (x:Av):Ar:=!(x == ("__debug__" : Av))&&(!(x == ("__classdict__" : Av))&&!decide (x = "__name__"))
def okG (X:Cx)(x:Av):Ar:=isG (X.env.kindOf x)&&okN x
def okB (v:Ac)(x:Av):Ar:=decide (Gb x=Ab v)
def jM (sc:Em):Aa Av:=sc.names.filterMap λy=>if isL (Ab y.2) then Ab y.1 else none
def yL (sc:Em):Aa Av:=(sc.names.filterMap λy=>if isL (Ab y.2)&&!(y.1 == (".0" : Av)) then Ab y.1 else none)++sc.names.filterMap λy=>if y.2 == .free then Ab y.1 else none
def Ck (b:Ar):Prop:=b=true
theorem ck {b:Ar}(h:b=true:=by kernel_rfl):Ck b:=h
structure DfS (F:DF)(P:Bd)(w:Bt)(K:Aj)(mg:Av->Al Ac)(base:Bj)(cm:Ar)(k:Ai)(x:Av)(n:Ai):Prop where
 get:Def P w K mg base cm k x n F
def okT (X:Cx)(m:Ai)(x:Av):Ar:=decide (X.N[m]? = Ab x)&&(isL (X.env.scope.names.lookup x)&&(decide X.N.Nodup&&(X.fn x||decide (X.env.scope.names.lookup x=Ab .local))))
def okP (X:Cx)(m:Ai)(x:Av):Ar:=decide (X.N[m]? = Ab x)&&decide (X.env.scope.names.lookup x=Ab .local)
def dS (scX:Em)(NX:Aa Av)(scope:Em)(cap:Aa (Al Ai)):Ar:=
 decide (scope.kind=.function)&&(decide (∀ y∈scope.names,y.2=.local -> scope.names.lookup y.1=Ab .local)&&(decide (∀ y∈scope.names,y.2=.cell->scope.names.lookup y.1=Ab .cell)&&(decide (∀ y∈scope.names,y.2=.free->scX.names.lookup y.1=Ab .cell\/scX.names.lookup y.1=Ab .free)
 && (decide (∀ y∈scope.names,y.2=.free->scope.names.lookup y.1=Ab .free)&&(decide (cap.length=(yL scope).length)&&(((cap.zip (yL scope)).all λp=>match p.1 with|none=>true|some i=>NX[i]? == Ab p.2&&scope.names.lookup p.2 == Ab .free)&&decide (yL scope).Nodup))))))
def fnB (N P:Aa Av)(sc:Em):Ar:=
 decide (sc.kind=.function)&&(decide (sc.isCoroutine=false)&&(decide (sc.isGenerator=false)&&(decide N.Nodup&&(decide (N.take P.length=P)&&(decide (∀ x∈P,sc.names.lookup x=Ab .local \/ sc.names.lookup x=Ab .cell)&&decide (∀ y∈sc.names,y.2≠.free))))))
theorem sY {scX:Em}{NX:Aa Av}{scope:Em}{cap:Aa (Al Ai)}(h:dS scX NX scope cap=true):CompSc scX NX scope (yL scope) cap:=by
 simp only[dS,Au,Ce] at h;obtain⟨a,b,c,d,e,f,g,k⟩:=h;exact⟨a,b,c,d,e,f,g,k⟩
theorem rK {N P:Aa Av}(h:fnB N P sc=true):FnScope N P sc:=by
 simp only[fnB,Au,Ce] at h;obtain⟨a,b,c,d,e,f,g⟩:=h;exact⟨a,b,c,d,e,f,g⟩
section
variable {X:Cx}{a b c e o elt tg iter:Br}{ifs rest:Aa Br}{f g:DS}{fa:DE}{f2:DI2}{dg:DG}{t:DT}{kk:DK}{gens grest:Aa Et}{scope:Em}{cap:Aa (Al Ai)}{mm:Ar}{l q:Ai}{y z:Av}{G2':G2}{es:Aa Br}{fA:DA}{x:Av}{p pos:Ex}{cm:Ar}{k n m:Ai}{F:DF}
theorem aH (h:isV (sc.names.lookup x)=true):Vis sc x:=by
 unfold Vis
 revert h
 cases sc.names.lookup x with
 |none=>intro h;cases h
 |some y=>cases y <;> intro h <;> first|cases h;done|exact .inl rfl|exact .inr (.inl rfl)|exact .inr (.inr rfl)
theorem B8 (h:isL (sc.names.lookup x)=true):_L.Loc sc x:=by
 unfold _L.Loc
 revert h
 cases sc.names.lookup x with
 |none=>intro h;cases h
 |some y=>cases y <;> intro h <;> first|cases h;done|exact .inl rfl|exact .inr rfl
theorem uS (h:okN x=true):(x == ("__debug__" : Av))=false/\(x == ("__classdict__" : Av))=false/\x ≠ "__name__":=by
 unfold okN at h;rw[Au,Au] at h;exact⟨by simpa using h.1,by simpa using h.2.1,by simpa using h.2.2⟩
theorem w5 (h:okG X x=true):Gl X x/\(x == ("__debug__" : Av))=false/\x ≠ "__name__":=by
 have h:=(Au _ _).mp h;refine⟨?_,(uS h.2).1,(uS h.2).2.2⟩;have z:=h.1;unfold Gl
 revert z
 cases X.env.kindOf x with
 |none=>intro z;cases z
 |some y=>cases y <;> intro z <;> first|cases z;done|rfl
theorem eD (h:okT X m x=true):X.N[m]? = Ab x/\_L.Loc X.env.scope x/\X.N.Nodup/\(X.fn x=true\/X.env.scope.names.lookup x=Ab .local):=by
 simp only[okT,Au,Ce,Ol] at h;exact⟨h.1,B8 h.2.1,h.2.2⟩
theorem kB (h:okP X m x=true):X.N[m]? = Ab x/\X.env.scope.names.lookup x=Ab .local:=by
 simp only[okP,Au,Ce] at h;exact h
theorem K4 (h:Ck (okG X x)):Gl X x:=(w5 h).1
theorem aV (h:Ck (decide (X.N[m]? = Ab x)&&(isV (X.env.scope.names.lookup x)&&okN x))):QE X (.Name x pos) (qC m):=by
 unfold Ck at h;simp only[Au,Ce] at h;exact RG m h.1 (aH h.2.1) (uS h.2.2).1 (uS h.2.2).2.1
theorem aBt {nm:Ef}(h:Ck (okG X x))(hm:X.mg x=none)(hb:Ck (okB (.type nm) x)):QE X (.Name x pos) (dC (.ty nm)):=
 have h:=w5 h
 FF h.1 hm (Bx hb) h.2.2 h.2.1
theorem aCl {C:Af}(h:Ck (okG X x))(hm:X.mg x=Ab (.ref C)/\Fj X.K (.ref C)=true):QE X (.Name x pos) (dC (.obj C)):=
 have h:=w5 h
 R9 h.1 hm.1 hm.2 h.2.1
theorem aGi {v:Am}(h:Ck (okG X x))(hm:∃ t,X.mg x=Ab (.int v t)):QE X (.Name x pos) (dC (.int v)):=
 have h:=w5 h
 FH h.1 hm h.2.1
abbrev St1 (X:Cx)(e:Br)(es:Aa Br)(pos:Ex):Prop:=Bl (e::es) X.env=(false,eval e X.env)::Bl es X.env/\(Ge pos (Bl es X.env)).any (·.1)=false
theorem aN (G:DfS F X.prog X.w X.K X.mg X.base cm k x n)(hr:RoomC cm k X.A)(hF:Fn1 X)(h:Ck (okG X x))(ha:QA X (e::es) fA)(s:St1 X e es pos):QE X (.Call (.Name x p) (e::es) [] pos) (qN n F fA):=
 have h:=w5 h
 qcN G.1 hr hF h.1 ha h.2.1 s.1 s.2
theorem aO (G:DfS F X.prog X.w X.K X.mg X.base cm k x n)(hr:RoomC cm k X.A)(h:Ck (okG X x))(ha:QA X (e::es) fA)(s:St1 X e es pos):QE X (.Call (.Name x p) (e::es) [] pos) (qN n (okO F) fA):=
 have h:=w5 h
 qcO G.1 hr h.1 ha h.2.1 s.1 s.2
theorem aB {id:Ef}(hc:ZCall X (.builtin id) F)(h:Ck (okG X x))(hm:X.mg x=none)(hb:Ck (okB (.builtin id) x))(ha:QA X (e::es) fA)(s:St1 X e es pos):QE X (.Call (.Name x p) (e::es) [] pos) (qL F fA):=
 have h:=w5 h
 UQ hc h.1 hm (Bx hb) ha h.2.2 h.2.1 s.1 s.2
theorem aT {T:Ef}(hc:ZCall X (.type T) F)(h:Ck (okG X x))(hm:X.mg x=none)(hb:Ck (okB (.type T) x))(ha:QA X (e::es) fA)(s:St1 X e es pos):QE X (.Call (.Name x p) (e::es) [] pos) (qL F fA):=
 have h:=w5 h
 W2 hc h.1 hm (Bx hb) ha h.2.2 h.2.1 s.1 s.2
theorem aC (S:Ck (dS X.env.scope X.N scope cap))(hc:X.calm=true)(hi:QI2 X tg iter f2)(hg:∀ cl C ex s₀ H₀,QG (qY X (yL scope) scope cl C ex s₀ H₀) tg dg)(ht:∀ cl C ex s₀ H₀,QTs (qY X (yL scope) scope cl C ex s₀ H₀) ifs t)
  (has:∀ g',(⟨tg,iter,ifs,0⟩::grest:Aa Et)[0+1]? = Ab g'->g'.is_async=0)
  (he:∀ cl C ex s₀ H₀,QK (qY X (yL scope) scope cl C ex s₀ H₀) (λacc=>zP elt (⟨tg,iter,ifs,0⟩::grest) scope pos 0 acc (qY X (yL scope) scope cl C ex s₀ H₀).env) kk) (hs:∀ x,Fb iter X.env x=pure x) :
  QE X (.ListComp elt (⟨tg,iter,ifs,0⟩::grest) scope pos) (zD mm cap f2 dg t kk):=US hc (sY S) hi hg ht has he hs
theorem aCs {py spos:Ex}(hsw:Mw (.ListComp elt (⟨tg,iter,ifs,0⟩::grest) scope pos) (Ab (.Name y py)) spos.line X.env=pure true)(S:Ck (dS X.env.scope X.N scope cap))(hN:Ck (okT X m y))(hc:X.calm=true)(hi:QI2 X tg iter f2)(hg:∀ cl C ex s₀ H₀,QG (qY X (yL scope) scope cl C ex s₀ H₀) tg dg)(ht:∀ cl C ex s₀ H₀,QTs (qY X (yL scope) scope cl C ex s₀ H₀) ifs t)
  (has:∀ g',(⟨tg,iter,ifs,0⟩::grest:Aa Et)[0+1]? = Ab g'->g'.is_async=0)
  (he:∀ cl C ex s₀ H₀,QK (qY X (yL scope) scope cl C ex s₀ H₀) (λacc=>zP elt (⟨tg,iter,ifs,0⟩::grest) scope pos 0 acc (qY X (yL scope) scope cl C ex s₀ H₀).env) kk) (hs:∀ x,Fb iter X.env x=pure x) :
  QS X (.Assign [.Name y py] (.ListComp elt (⟨tg,iter,ifs,0⟩::grest) scope pos) spos) (qV (zD mm cap f2 dg t kk) (gNm m)):=
 have h:=eD hN
 UV hc h.2.2.1 (sY S) hi hg ht has he h.1 h.2.1 h.2.2.2 hsw hs
theorem aNm (h:Ck (okT X m x)):QG X (.Name x pos) (gNm m):=
 have h:=eD h
 FK h.2.2.1 h.1 h.2.1 h.2.2.2
theorem aSt {pos':Ex}(hs:Mw e (Ab (.Name x pos')) pos.line X.env=pure false)(he:QE X e fa)(h:Ck (okT X m x)):QS X (.Assign [.Name x pos'] e pos) (qV fa (gNm m)):=
 have h:=eD h
 RN h.2.2.1 he h.1 h.2.1 hs h.2.2.2
theorem aP2 {px py pt:Ex} {kt k2 pt2} (h:Ck (decide X.N.Nodup&&(okP X m x&&(okP X l y&&!decide (m=l))))) (hc:X.calm=true) (ha:QA X [a,b] fA)
  (hw:Lc [.Tuple [.Name x px,.Name y py] kt pt] (.Tuple [a,b] k2 pt2) X.env=pure (Ab [x,y])) (hs:Ld [.Tuple [.Name x px,.Name y py] kt pt] (.Tuple [a,b] k2 pt2) pos.line X.env=pure false) :
  QS X (.Assign [.Tuple [.Name x px,.Name y py] kt pt] (.Tuple [a,b] k2 pt2) pos) (pP m l fA):=by
 unfold Ck at h;simp only[Au,Ce,Qt,Sv] at h;exact RM hc h.1 ha (kB h.2.1).1 (kB h.2.2.1).1 h.2.2.2 (kB h.2.1).2 (kB h.2.2.1).2 hw hs
theorem aRs {C:Af}{np cpos:Ex}(h:Ck (okG X x))(hc:X.calm=true)(hF:Fn1 X)(hm:∃ Ae,X.mg x=Ab (.ref C)/\fE X.K C Ae=true)(ha:QA X (e::rest) fA)(s:St1 X e rest cpos) :
  QS X (.Raise (Ab (.Call (.Name x np) (e::rest) [] cpos)) none pos) (vX (.ref C) fA):=
 have h:=w5 h
 let ⟨_,hm,hx⟩:=hm
 UW hc hF h.1 hm hx ha h.2.1 s.1 s.2
theorem aTr {nm:Av}{body:Aa Fa}{b₀:Fa}{suite:Aa Fa}{np hpos:Ex}{cs:Aa Ac}(h:Ck (okG X x&&(okP X m nm&&(decide X.N.Nodup&&decide (X.N.length=n)))))(hF:Fn1 X)(hm:∃ C0,X.mg x=Ab (.ref C0)/\∀ c∈cs,Jf X.K c (.ref C0)=Ab true)(hb:∀ E pn,ZPass (Cx.tryIn X E pn)->QB (Cx.tryIn X E pn) body f)(hs:∀ e,QB (Cx.suite X e) (b₀::suite) g) :
  QS X (.Try body [.ExceptHandler (Ab (.Name x np)) (Ab nm) (b₀::suite) hpos] [] [] pos) (fT n m cs f g):=by
 unfold Ck at h;simp only[Au,Ce] at h;obtain⟨C0,hm,hcs⟩:=hm;exact RO hF hb hs (w5 h.1).1 hm hcs h.2.2.1 (kB h.2.1).1 (kB h.2.1).2 (w5 h.1).2.1 h.2.2.2
end
structure TxS (K:Aj)(mg:Av->Al Ac)(tp:Ai->Fa)(tab:Aa (Av × Ai × Aa Av))(bl:Aa Av)(clt plt:Aa (Av × Af))(cs:Aa Ac)(exl:Aa Af)(cst:Aa (Av × Am)):Prop where
 src:∀ (j:Ai) {x:Av} {i:Ai} {ps:Aa Av},tab[j]? = Ab (x,i,ps)->Src K mg x (tp i) ps
 nb:∀ {x:Av},Ck (bl.contains x)->mg x=none
 cl:∀ {x:Av} {C:Af},clt.lookup x=Ab C->mg x=Ab (.ref C)/\Fj K (.ref C)=true
 rz:∀ {x:Av} {C:Af},plt.lookup x=Ab C->∃ Ae,mg x=Ab (.ref C)/\fE K C Ae=true
 ct:∃ C0,mg "FarError" = Ab (.ref C0)/\∀ c∈cs,Jf K c (.ref C0)=Ab true
 cls:ClsK K exl
 gi:∀ {x:Av} {v:Am},cst.lookup x=Ab v->∃ t,mg x=Ab (.int v t)
section
variable {K:Aj}{mg:Av->Al Ac}{cm:Ar}{tp:Ai->Fa}{tab:Aa (Av × Ai × Aa Av)}{bl:Aa Av}{clt plt:Aa (Av × Af)}{cs:Aa Ac}{exl:Aa Af}{cst:Aa (Av × Am)}{x:Av}{i m:Ai}{ps:Aa Av}{F:DF}{g:DS}
theorem dq (P:Bd)(w:Bt)(base:Bj)(k j:Ai)(T:TxS K mg tp tab bl clt plt cs exl cst)(hj:tab[j]? = Ab (x,i,ps))(h:Ck (fnB (jM (qG (tp i))) ps (qG (tp i))&&decide ((jM (qG (tp i))).length=m)))(hF:F=qT m g)
  (hb:∀ (f:Af) (cdv:Ac) (A:Bo) (outer:Aa HT) (s:Ah) (H:Hp) (E:XK),kH K x cdv->RoomC cm k (A.deeper (Gj x (qG (tp i)) s.heap.objs.size f cdv)) ->
   QB (cxC cm P w K mg base (jM (qG (tp i))) x (qG (tp i)) f cdv A outer s H E) (zF (tp i)) g):DfS F P w K mg base cm (k+1) x ps.length:=by
 unfold Ck at h;simp only[Au,Ce] at h;obtain⟨h,rfl⟩:=h;exact⟨hF▸O6 (T.src j hj) (rK h) rfl hb⟩
theorem dqP {P:Bd}{w:Bt}{base:Bj}(k j:Ai)(T:TxS K mg tp tab bl clt plt cs exl cst)(hj:tab[j]? = Ab (x,i,ps))(h:Ck (fnB (jM (qG (tp i))) ps (qG (tp i))&&decide ((jM (qG (tp i))).length=m)))
  (hb:∀ (f:Af) (cdv:Ac) (A:Bo) (outer:Aa HT) (s:Ah) (H:Hp) (E:XK),kH K x cdv->RoomC cm k (A.deeper (Gj x (qG (tp i)) s.heap.objs.size f cdv)) ->
   QB (cxC cm P w K mg base (jM (qG (tp i))) x (qG (tp i)) f cdv A outer s H E) (zF (tp i)) g):sN P w K mg base cm (k+1) x ps (qT m g):=by
 unfold Ck at h;simp only[Au,Ce] at h;obtain⟨h,rfl⟩:=h;exact HC (T.src j hj) (rK h) rfl hb
end
theorem hv {a b:Prop}(f:a->b)(h:a):b:=f h
inductive SrcF (K:Aj)(x:Av)(st:Fa)(ps:Aa Av):Prop
 |mk {f:Af} {oc:Ac} {od an:Al Af} {osl:Bn (Al Ac)} {kV doc pm cdv ct:Ac} (a:Ds K Cm x=Ab (Ab (.ref f)))
  (l:K.lookup f=Ab ⟨oc,od,.func (Gw x x (y7 st) (zF st) (qG st) .none kV doc pm an cdv ct),osl⟩) (c:Kn K cdv x=true) (k:Fj K (.ref f)=true):SrcF K x st ps
def iW (K:Aj)(tp:Ai->Fa):Aa (Av × Ai × Aa Av)->Prop
 |[]=>Kl
 |(x,i,ps)::t=>SrcF K x (tp i) ps/\iW K tp t
def BdF (tp:Ai->Fa):Aa (Av × Ai × Aa Av)->Prop
 |[]=>Kl
 |(x,i,ps)::t=>(∀ (kV doc pm:Ac) (an:Al Af) (cdv ct:Ac) (us:Aa Ac),us.length=ps.length->Na (Gw x x (y7 (tp i)) (zF (tp i)) (qG (tp i)) .none kV doc pm an cdv ct) ⟨us,[]⟩=pure (ps.zip us))/\BdF tp t
def iS (K:Aj):Aa (Av × Af)->Prop
 |[]=>Kl
 |(x,C)::t=>Ds K Cm x=Ab (Ab (.ref C))/\iS K t
def iT (K:Aj):Aa (Av × Am)->Prop
 |[]=>Kl
 |(x,v)::t=>(∃ k,Ds K Cm x=Ab (Ab (.int v k)))/\iT K t
def OE:Al (Al Ac)->Ar
 |some none=>true
 |_=>false
section
variable {K:Aj}{h:Bj}{mg:Av->Al Ac}{tp:Ai->Fa}
theorem iL (X:K.In h)(G:h.Ns Cm mg):∀ (tab:Aa (Av × Ai × Aa Av)),iW K tp tab->BdF tp tab->∀ (j:Ai) {x:Av} {i:Ai} {ps:Aa Av},tab[j]? = Ab (x,i,ps)->Src K mg x (tp i) ps
 |[],_,_,_,_,_,_,e=>by cases e
 |(x,i,ps)::t,H,B,0,_,_,_,e=>by
  cases e;obtain⟨a,l,c,k⟩:=H.1;exact E0 X G a l c k B.1
 |(x,i,ps)::t,H,B,j+1,_,_,_,e=>iL X G t H.2 B.2 j e
theorem wY {β:Type}{p:Av->β->Prop}{x:Av}{C:β}:∀ {l:Aa (Av × β)},(∀ y∈l,p y.1 y.2)->l.lookup x=Ab C->p x C
 |[],_,e=>by cases e
 |(y,b)::t,H,e=>by
  rw[Jl] at e;cases q:x == y with
  |true =>
   rw[q] at e;cases e;rw[eq_of_beq q];exact H (y,_) (.head _)
  |false =>
   rw[q] at e;exact wY (λz hz=>H z (.tail _ hz)) e
theorem pY (X:K.In h)(G:h.Ns Cm mg):∀ {l:Aa (Av × Af)},iS K l->∀ y∈l,mg y.1=Ab (.ref y.2)
 |(x,C)::t,H,y,hy=>by
  rcases Aw.mp hy with rfl|hy
  .exact Wq X G H.1
  .exact pY X G H.2 y hy
theorem cQ (X:K.In h)(G:h.Ns Cm mg):∀ {l:Aa (Av × Am)},iT K l->∀ y∈l,∃ k,mg y.1=Ab (.int y.2 k)
 |(x,C)::t,H,y,hy=>by
  rcases Aw.mp hy with rfl|hy
  .obtain⟨k,e⟩:=H.1
   exact⟨k,Wq X G e⟩
  .exact cQ X G H.2 y hy
theorem AQ {tab:Aa (Av × Ai × Aa Av)}{bl:Aa Av}{clt plt:Aa (Av × Af)}{cs:Aa Ac}{exl:Aa Af}{cst:Aa (Av × Am)}{far:Af}(B:BdF tp tab)(hp:∀ y∈plt,y∈clt)(hf:clt.lookup ("FarError" : Av)=Ab far)(X:K.In h)(G:h.Ns Cm mg)
  (s:iW K tp tab) (z:(bl.all λx=>OE (Ds K Cm x))=true) (q:iS K clt) (g:iT K cst) (e1:exl.all (sW K)=true) (e2:YK K=true) (e3:T7 K exl=true) (e4:IZ K cs far=true) (e5:IX K (plt.map (·.2)) far=true) (e6:IY K (clt.map (·.2))=true):TxS K mg tp tab bl clt plt cs exl cst where
 src:=iL X G tab s B
 nb:=λ{x} hx=>by
  have e:=Be.mp z x (by simpa using Ew.mp hx)
  refine PySem.W.mg_none_of X G ?_
  revert e
  cases Ds K Cm x with
  |none=>intro e;cases e
  |some y=>cases y with
   |none=>intro _;rfl
   |some y=>intro e;cases e
 cl:=λh=>⟨wY (p:=λx C=>mg x=Ab (.ref C)) (pY X G q) h,wY (p:=λ_ C=>Fj K (.ref C)=true) (λy hy=>Be.mp e6 y.2 (Wr hy)) h⟩
 rz:=λh=>⟨far,wY (p:=λx C=>mg x=Ab (.ref C)) (λy hy=>pY X G q y (hp y hy)) h,wY (p:=λ_ C=>fE K C far=true) (λy hy=>Be.mp e5 y.2 (Wr hy)) h⟩
 ct:=⟨far,wY (p:=λx C=>mg x=Ab (.ref C)) (pY X G q) hf,λv hv=>Bx (Be.mp e4 v hv)⟩
 cls:=TB e1 e2 e3
 gi:=λh=>wY (p:=λx v=>∃ k,mg x=Ab (.int v k)) (cQ X G g) h
end
structure LamT where
 qual:Av
 params:Lg
 body:Br
 scope:Em
def xQ (sc:Em):Aa Av:=sc.names.filterMap λy=>if y.2 == .free then Ab y.1 else none
inductive CloAt (h:Bj)(H:Hp)(fs:Aa Af)(L:LamT)(a:Af)(cv:Aa V):Prop
 |mk (cl:Aa (Av × Af)) (pm ctv:Ac) (c:Af) (oc:Ci) (ws:Bn Ac) (t:Pi) (o:h.get? a=Ab (Ka "<lambda>" L.qual L.params L.body L.scope cl pm c ctv)) (hc:H c=Ab (.frz oc (.frz oc (.own 0)))) (hd:oc.data=.fields ws) (ht:ws[1]? = Ab (.str L.qual t))
  (inj:∀ x y d,cl.lookup x=Ab d->cl.lookup y=Ab d->x=y) (cel:∀ x d,cl.lookup x=Ab d->H d=none/\∃ v,h.IsCell d v) (has:∀ x,L.scope.names.lookup x=Ab .free->∃ d,cl.lookup x=Ab d)
  (len:cv.length=(xQ L.scope).length) (val:∀ (j:Ai) x v,(xQ L.scope)[j]? = Ab x->cv[j]? = Ab v->∃ d u,cl.lookup x=Ab d/\qI v u/\h.IsCell d (Ab u)) (hn:H a=none) (hf:a ∉ fs):CloAt h H fs L a cv
theorem CloAt.at {X:Cx}{pins:Aa (Af × Ci)}{σ:_L.St}{H:Hp}{s:Ah}{L:LamT}{a:Af}{cv:Aa V}(C:CloAt X.s₀.heap X.H₀ X.fs L a cv)(F:Fn1 X)(I:Inv X pins σ H s):CloAt s.heap H (frs X.stack) L a cv:=by
 obtain⟨cl,pm,ctv,c,oc,ws,t,o,hc,hd,ht,inj,cel,has,len,val,hn,hf⟩:=C;have nx:∀ b,b ∉ X.ex:=λb=>by rw[F.1];simp
 have nf:∀ b o,X.s₀.heap.get? b=Ab o->b ∉ X.fs->b ∉ frs X.stack:=λb o e n z=>(F.mem.mp z).elim (Bv (Bm (Ax e) I.ok.above)) n;have kc:∀ d v,X.H₀ d=none->X.s₀.heap.IsCell d v->s.heap.IsCell d v:=λd v h1 ⟨o,e,q⟩=>let ⟨_,z⟩:=I.base.any e h1 (nx d);⟨_,z,q⟩
 refine⟨cl,pm,ctv,c,oc,ws,t,I.base.keep a _ o hn hf (nx a),I.base.frzs _ _ _ hc,hd,ht,inj,λx d e=>?_,has,len,λj x v e1 e2=>?_,I.base.free a _ o hn (nx a),nf a _ o hf⟩
 .obtain⟨h1,v,h3⟩:=cel x d e
  obtain⟨ob,e3,q⟩:=id h3;exact⟨I.base.free d ob e3 h1 (nx d),v,kc d v h1 h3⟩
 .obtain⟨d,u,q1,q2,q3⟩:=val j x v e1 e2
  exact⟨d,u,q1,q2,kc d _ (cel x d q1).1 q3⟩
def VT (cm:Ar)(P:Bd)(w:Bt)(K:Aj)(mg:Av->Al Ac)(base:Bj)(N:Aa Av)(L:LamT)(cl:Aa (Av × Af))(f:Af)(cd:Ac)(A:Bo)(outer:Aa HT)(s:Ah)(H:Hp)(E:XK):Cx where
 prog:=P
 w:=w
 K:=K
 mg:=mg
 base:=base
 A:=A.deeper (Kt L.qual L.scope s.heap.objs.size f cd cl)
 N:=N
 s₀:=s
 H₀:=H
 env:=Kt L.qual L.scope s.heap.objs.size f cd cl
 outer:=outer
 stack:=Kt L.qual L.scope s.heap.objs.size f cd cl::outer
 ex:=[]
 calm:=cm
 fn:=λ_=>false
 pn:=[]
 xe:=xeL P w A (Kt L.qual L.scope s.heap.objs.size f cd cl) outer H s E
structure LamSc (L:LamT)(ps:Aa Av):Prop where
 kind:L.scope.kind=.function
 co:L.scope.isCoroutine=false
 gen:L.scope.isGenerator=false
 nocell:∀ y∈L.scope.names,y.2≠.cell
 par:∀ x∈ps,L.scope.names.lookup x=Ab .local
 one:ps.length<=1
 fr:∀ x∈xQ L.scope,L.scope.names.lookup x=Ab .free
def tH (P:Bd)(w:Bt)(K:Aj)(mg:Av->Al Ac)(base:Bj)(cm:Ar)(k:Ai)(L:LamT)(n:Ai)(G:Aa D->DF):Prop:=
 ∀ (A:Bo) (outer:Aa HT) (s:Ah) (H:Hp) (us:Aa Ac) (ws cv:Aa V) (a:Af) (P':Hp) (α : Aa Af) (S:Sto) (caps ds:Aa D) (Q:VK) (E:XK),RoomC cm k A->Env0 P w K mg base A outer s H->CloAt s.heap H (frs outer) L a cv->Rel K H P' α S ->
  qD K P' α caps cv->qD K P' α ds ws->qH ws us->ds.length=n->spR K P' α (G caps ds S) Q E->Go (As P w) A (.call (.ref a) ⟨us,[]⟩) (CR (CXd P w) outer P w H s Q E) s
section
variable {P:Bd}{w:Bt}{K:Aj}{mg:Av->Al Ac}{base:Bj}{cm:Ar}{L:LamT}{ps:Aa Av}
theorem B7 {cl:Aa (Av × Af)}{f:Af}{cd:Ac}{A:Bo}{outer:Aa HT}{s:Ah}{H:Hp}{E:XK}{ws cv:Aa V}{h':Bj}{tk:Ai}(S:LamSc L ps)(hd:cm=true->A.handled=none)(e0:Env0 P w K mg base A outer s H)
  (inj:∀ x y d,cl.lookup x=Ab d->cl.lookup y=Ab d->x=y) (cel:∀ x d,cl.lookup x=Ab d->H d=none/\∃ v,s.heap.IsCell d v) (has:∀ x,L.scope.names.lookup x=Ab .free->∃ d,cl.lookup x=Ab d)
  (len:cv.length=(xQ L.scope).length) (val:∀ (j:Ai) x v,(xQ L.scope)[j]? = Ab x->cv[j]? = Ab v->∃ d u,cl.lookup x=Ab d/\qI v u/\s.heap.IsCell d (Ab u)) (hl:ws.length=ps.length) (r:qH ws us)
  (hns:h'.Ns s.heap.objs.size λy=>(ps.zip us).reverse.lookup y) (hk:∀ b o,s.heap.get? b=Ab o->h'.get? b=Ab o) :
  Inv (VT cm P w K mg base (ps++xQ L.scope) L cl f cd A outer s H E) [] ((ws++cv).map Ab) H { s with heap:=h',toks:=tk }:=by
 have kc:∀ d v,s.heap.IsCell d v->h'.IsCell d v:=λd v ⟨o,e,q⟩=>⟨o,hk d o e,q⟩;have no:∀ b:Af,b ∉ ([]:Aa Af):=λb=>by simp
 refine⟨⟨e0.mod,S.kind,rfl,rfl,AT _,inj,λy hy=>?_,(λy c z=>nomatch z),hd,Oc e0.frames,.inr ⟨rfl,rfl⟩,λb z=>absurd z (no b),e0.bs,e0.bsz,λb _ _=>no b,λb z=>absurd z (no b),e0.funs,e0.frf⟩,
  rfl,e0.bare,Un.kept hk,⟨_,hns,λi y v h1 h2 h3=>?_⟩,λy c h=>?_,e0.hok.fresh (AT _),λy c h=>(cel y c h).1,λp hp=>absurd (show p∈([]:Aa (Af × Ci)) from hp) (by simp),e0.hok.kept hk,?_⟩
 .rcases hy with hy|hy
  .exact absurd rfl (S.nocell _ (Fk hy))
  .exact has y hy
 .have h1:(ps++xQ L.scope)[i]? = Ab y:=h1
  rw[Dc] at h2;obtain⟨v',h2,e⟩:=De.mp h2;cases e;by_cases hi:i<ps.length
  .rw[Cb hi] at h1
   rw[Cb (by rw[hl];exact hi)] at h2
   obtain⟨u,hu,rv⟩:=r.get h2;refine⟨u,rv,.inl ⟨S.par y (Bk h1),?_⟩⟩;have one:=S.one;cases ps with
   |nil=>cases h1
   |cons p t =>
    cases t with
    |cons _ _=>simp at one
    |nil =>
     have i0:i=0:=by simpa using hi
     subst i0;cases us with
     |nil=>cases hu
     |cons u' us =>
      cases h1;cases hu;simp
  .rw[Di (Sd hi)] at h1
   rw[Di (by rw[hl];exact Sd hi),hl] at h2
   obtain⟨d,u,q1,q2,q3⟩:=val _ y v h1 h2;exact⟨u,q2,.inr ⟨.inr (S.fr y (Bk h1)),d,q1,kc d _ q3⟩⟩
 .obtain⟨_,v,q⟩:=cel y c h
  exact⟨v,kc c v q⟩
 .show _=(ps++xQ L.scope).length
  simp[hl,len]
theorem LU {k:Ai}{fe:DE}(S:LamSc L ps)(hb:∀ (cl:Aa (Av × Af)) (pm cdv ctv:Ac) (us:Aa Ac),us.length=ps.length->Na (Mp "<lambda>" L.qual L.params L.body L.scope cl pm cdv ctv) ⟨us,[]⟩=pure (ps.zip us))
  (hbody:∀ (cl:Aa (Av × Af)) (f:Af) (cd:Ac) (A:Bo) (outer:Aa HT) (s:Ah) (H:Hp) (E:XK),RoomC cm k (A.deeper (Kt L.qual L.scope s.heap.objs.size f cd cl)) ->
   QE (VT cm P w K mg base (ps++xQ L.scope) L cl f cd A outer s H E) L.body fe):tH P w K mg base cm (k+1) L ps.length λcaps ds S=>fe ((ds++caps).map Ab) S:=by
 intro A outer s H us ws cv a P' α St caps ds Q E hr e0 C r rc rd rv hn af;obtain⟨cl,pm,ctv,c,oc,vs,t,o,hc,hd,ht,inj,cel,has,len,val,hna,hf⟩:=C;have af:spR K P' α (fe ((ds++caps).map Ab) St) Q E:=af;have lim:s.heap.NoLimit:=e0.mod.nolimit.keeps λb o e=>(e0.bs b o e).1;have hul:us.length=ps.length:=by rw[<- rv.length,<- rd.length];exact hn
 have hloc:∀ y∈ps.zip us,L.scope.names.lookup y.1=Ab .local:=λy hy=>S.par _ (Lp hy).1;refine Vq hr.depth o rfl S.co S.gen rfl ⟨c,oc,vs,t,rfl,(e0.hok c _ hc).1,hd,ht⟩ ?_;rw[hb cl pm (.ref c) ctv us hul];refine Ak (Vr S.nocell hloc (λh₁ hns hsb=>?_) S.kind);have hk₁:∀ b o,s.heap.get? b=Ab o->h₁.get? b=Ab o:=λb o e=>hsb.extBut b o (Bv (Ax e)) (Ag _ e);refine⟨lim.keeps hk₁,?_⟩;show Go _ _ (.expr L.body (Kt L.qual L.scope s.heap.objs.size a (.ref c) cl)) _ _;have I:=B7 (cm:=cm) (f:=a) (cd:=.ref c) (E:=E) (tk:=s.toks+(ps.zip us).length) S hr.hd e0 inj cel has len val (by rw[<- rd.length];exact hn) rv hns hk₁
 have re:qZ K P' α ((ws++cv).map Ab) ((ds++caps).map Ab):=by
  have z:=rd.append rc;refine⟨by simp[z.length,rd.length,rc.length],λi d e=>?_⟩
  rw[Dc] at e;obtain⟨d',e1,e2⟩:=De.mp e;cases e2;obtain⟨v,h1,h2⟩:=z.get e1;exact⟨v,by rw[Dc,h1];rfl,h2⟩
 refine Vs (Gn ((hbody cl a (.ref c) A outer s H E (hr.deeper _)).1 [] _ _ H Q I ⟨P',α,_,St,r,re,?_⟩) (λu s' q=>?_) λ_ _ y=>y)
 .cases z:fe ((ds++caps).map Ab) St with
  |ok d S'=>rw[z] at af;exact af
  |ex e x S'=>rw[z] at af;exact λu s' q=>r8 (A:=A) rfl q λH' P1 α1 r1 e1 e2=>af H' P1 α1 r1 e1 e2
  |bad=>rw[z] at af;exact Ao af
 .obtain⟨v,H',I',rv',q⟩:=q
  exact⟨v,H',I'.os,I'.bare,I'.base,I'.hok,rv',q⟩
end
open Classical in
def kM (i:Ai)(fa:DA)(a:Af)(cv:Aa V)(n:Ai)(G:Aa D->DF):DE:=λenv S=>match env[i]? with
 |some (Ab (.clo b vs caps))=>if b=a/\vs=cv then (fa env S).bind λds S1=>if ds.length=n then G caps ds S1 else .bad else .bad
 |_=>.bad
section
variable {X:Cx}{cm:Ar}{k n i:Ai}{x:Av}{p pos:Ex}{e:Br}{es:Aa Br}{fa:DA}{L:LamT}{G:Aa D->DF}{a:Af}{cv:Aa V}
set_option tactic.hygienic true in
theorem GQ {S:Sto}{P:Hp}{α:Aa Af}{Ok:D->Sto->Prop}(h:qK X P α (kM i fa a cv n G env S) Ok):∃ caps,env[i]? = Ab (Ab (.clo a cv caps))/\qK X P α ((fa env S).bind λds S1=>if ds.length=n then G caps ds S1 else .bad) Ok:=by
 unfold kM at h
 split at h
 .rename_i b vs caps e
  obtain⟨⟨rfl,rfl⟩,h1⟩:=xB h;exact⟨caps,e,h1⟩
 .exact Ao h
theorem O8 {h:Bj}{H:Hp}{fs:Aa Af}(C:CloAt h H fs L a cv):PySem.W.FnAt a h:=by
 obtain⟨cl,pm,ctv,c,oc,ws,t,o,_⟩:=C;exact⟨_,_,_,_,o⟩
theorem GR {pins:Aa (Af × Ci)}{σ:_L.St}{H P:Hp}{α:Aa Af}{s:Ah}{Q:VK}{ws:Aa V}{ds:Aa D}{S:Sto}(LX:tH X.prog X.w X.K X.mg X.base cm k L n G)(hr:RoomC cm k X.A)(F:Fn1 X)(C:CloAt X.s₀.heap X.H₀ X.fs L a cv)
  (I:Inv X pins σ H s) (r:Rel X.K H P α S) (rc:qD X.K P α caps cv) (rp:qD X.K P α ds ws) (rv:qH ws us) (af:qR X P α (if ds.length=n then G caps ds S else .bad) Q):Ap (As X.prog X.w) X.A (call (.ref a) us) (EP X pins σ Q) X.xe s:=by
 obtain⟨hn,af⟩:=xB af;exact fB (λ_=>F) I af (LX X.A X.stack s H us ws cv a P α S caps ds Q _ hr I.env0 (C.at F I) r rc rp rv hn (h9 af))
theorem LW {pins:Aa (Af × Ci)}{σ:_L.St}{H P:Hp}{α:Aa Af}{s:Ah}{Q:Ac->Ah->Prop}(hN:X.N[i]? = Ab x)(hv:Vis X.env.scope x)(hd:(x == ("__debug__" : Av))=false)(hcd:(x == ("__classdict__" : Av))=false)
  (I:Inv X pins σ H s) (re:qZ X.K P α σ env) (he:env[i]? = Ab (Ab (.clo a cv caps))) (h:∀ s1,Inv X pins σ H s1->qD X.K P α caps cv->Q (.ref a) s1):Ap (As X.prog X.w) X.A (eval (.Name x p) X.env) Q X.xe s:=by
 obtain⟨v,e1,rp⟩:=re.2 i _ he;simp only[Rep] at rp;obtain⟨rfl,rc⟩:=rp;refine thn (XT hN hv hd hcd pins s σ H (λv H'=>v=.ref a/\H'=H) I ⟨_,e1,rfl,rfl⟩) λu s1 ⟨v,H1,I1,rv,z1,z2⟩=>?_;subst z1;subst z2;cases (show u=Bs a from rv)
 exact h s1 I1 rc
theorem GY (LX:tH X.prog X.w X.K X.mg X.base cm k L n G)(hr:RoomC cm k X.A)(F:Fn1 X)(C:CloAt X.s₀.heap X.H₀ X.fs L a cv)(hN:X.N[i]? = Ab x)(hv:Vis X.env.scope x)(hd:(x == ("__debug__" : Av))=false)(hcd:(x == ("__classdict__" : Av))=false) :
  PE X (.Call (.Name x p) [] [] pos) (tD X (kM i qB a cv n G)):=by
 intro pins s σ H Q I h;obtain⟨P,α,env,S,r,re,af⟩:=h;obtain⟨caps,e1,af⟩:=GQ af;refine Gd (LW hN hv hd hcd I re e1 λs1 I1 rc=>?_);exact PySem.W.callWith_F0 (O8 (C.at F I1)) (GR (us:=[]) LX hr F C I1 r rc .nil .nil af)
end
theorem cK {i:Ai}{c:Ac}(l:Aa Ac)(h:Li l):Li (l++[Gf i,Gf j,c]):=by
 fun_induction Li l with
 |case1=>simp[Li,Gf]
 |case2 _ _ _ _ _ rest ih=>simp only[Kz,Li];exact ih h
 |case3=>exact Ao h
set_option tactic.hygienic true in
theorem QU {pos:Ex}{i:Ai}{c v:Ac}(l:Aa Ac)(h:Li l)(e:Oh pos (l++[Gf i,Gf j,c])=Ab v):Oh pos l=Ab v\/v=c:=by
 fun_induction Li l with
 |case1 =>
  simp only[Hn,Oh,Gf] at e
  split at e
  .exact .inr (Co e).symm
  .cases e
 |case2 _ _ _ _ _ rest ih =>
  simp only[Kz,Oh] at e ⊢
  split at e
  .rename_i hc;rw[Bb hc];exact .inl e
  .rename_i hc;rw[Bc hc];exact ih h e
 |case3=>exact Ao h
theorem MOk.at {K:Aj}{H P:Hp}{α:Aa Af}{a:Af}(e:H' a=H a):∀ {o:MO},MOk K H P α a o->MOk K H' P α a o
 |.dead,_=>trivial
 |.lst _,⟨vs,q,r⟩=>⟨vs,e.trans q,r⟩
 |.dct _,⟨vs,q,r⟩=>⟨vs,e.trans q,r⟩
 |.ins _ _,⟨dx,vs,q,r⟩=>⟨dx,vs,e.trans q,r⟩
section
variable {X:Cx}{pins:Aa (Af × Ci)}{σ : _L.St}{H P:Hp}{α : Aa Af}{s:Ah}{S:Sto}{y:Av}{c T:Af}
theorem Rel.grown {ps:Bn Ac}{ws:Bn Ac}{t:Pi}{i:Ai}(r:Rel X.K H P α S)(m:Mod X.K X.mg X.base)(hy:y∈wF)(ht:Dq X.K y=Ab (c,T))(e:H T=Ab (.tbl ps))(pn:P T=none)(an:T ∉ α)(ok:Li ps.toList)
  (cd:∀ pos cv,Oh pos ps.toList=Ab cv->∃ c oc vs t,cv=.ref c/\H c=Ab (.frz oc (.frz oc (.own 0)))/\oc.data=.fields vs/\vs[1]? = Ab (.str (y ++ ".<locals>." ++ "<lambda>") t)) (hn:H c'=none) (hd:oc.data=.fields ws) (hs:ws[1]? = Ab (.str (y ++ ".<locals>." ++ "<lambda>") t)) :
  Rel X.K (upd (upd H T (.tbl (ps++#[Gf i,Gf j,.ref c']))) c' (.frz oc (.frz oc (.own 0)))) P α S:=by
 have ne:T≠c':=qP e hn;have go:∀ b u,b≠T->H b=Ab u->upd (upd H T (.tbl (ps++#[Gf i,Gf j,.ref c']))) c' (.frz oc (.frz oc (.own 0))) b=Ab u:=λb u h q=>by rw[qJ (qP q hn),qJ h];exact q
 have nT:∀ b∈α,b≠T:=λb h z=>an (z▸h);have nc:∀ (k:Ai) b,α[k]? = Ab b->b≠c':=λk b h z=>r.own k b h (z▸hn);have at':∀ (k:Ai) b,α[k]? = Ab b->upd (upd H T (.tbl (ps++#[Gf i,Gf j,.ref c']))) c' (.frz oc (.frz oc (.own 0))) b=H b:=λk b h=>by rw[qJ (nc k b h),qJ (nT b (Bk h))]
 refine⟨λx hx d U hU=>?_,λb u q=>go b u (λz=>by rw[z,pn] at q;cases q) (r.sub b u q),r.len,r.nd,r.sep,λk b o h1 h2=>MOk.at (at' k b h1) (r.at' k b o h1 h2),λk b h=>by rw[at' k b h];exact r.own k b h⟩
 by_cases hT:U=T
 .subst hT
  cases m.inj x hx y hy d c U hU ht;refine⟨_,by rw[qJ ne];exact qQ,pn,an,?_,λpos cv q=>?_⟩
  .rw[Ws];exact cK _ ok
  .rw[Ws] at q
   rcases QU _ ok q with q|q
   .obtain⟨d,od,vs,t,a1,a2,a3⟩:=cd pos cv q
    exact⟨d,od,vs,t,a1,go d _ (λz=>by rw[z,e] at a2;cases a2) a2,a3⟩
   .exact⟨c',oc,ws,t,q,qQ,hd,hs⟩
 .obtain⟨qs,e1,p1,a1,ok1,cd1⟩:=r.tb x hx d U hU
  exact⟨qs,go U _ hT e1,p1,a1,ok1,λpos cv q=>let ⟨d,od,vs,t,b1,b2,b3⟩:=cd1 pos cv q;⟨d,od,vs,t,b1,go d _ (λz=>by rw[z,e] at b2;cases b2) b2,b3⟩⟩
theorem Inv.pinned {a:Af}{o:Ci}{h':Bj}{tk:Ai}(I:Inv X pins σ H' { s with heap:=h'.push o,toks:=tk })(ha:a=h'.objs.size)(hs:s.heap.objs.size<=h'.objs.size)(I0:Inv X pins σ H s)(hn:H' a=none)(hd:∀ v,o.data≠.cell v)(hfr:o.isFreed=false:=by rfl):Inv X ((a,o)::pins) σ H' { s with heap:=h'.push o,toks:=tk }:=by
 refine I.pins_of λp hp=>?_;rcases Aw.mp hp with rfl|hp
 .subst ha
  exact⟨Ba _ hfr,hn,Gv (Bm I0.lt hs),I0.nofs hs,hd⟩
 .exact I.pin p (Bp _ hp)
theorem rW {M:Mr}{params:Lg}{body:Br}{scope:Em}{lpos:Ex}{cl:Aa (Av × Af)}{Q:Ac->Ah->Prop}(I:Inv X pins σ H s)(r:Rel X.K H P α S)(hy:y∈wF)(ht:Dq X.K y=Ab (c,T))(hc:X.env.code=.ref c)(hq:X.env.qual=y ++ ".<locals>.")
  (hdef:Sj params X.env=([],[])) (hcl:Sf scope X.env=pure cl)
  (h:∀ (a:Af) (H':Hp) (s':Ah) (pm ctv:Ac) (c':Af) (oc:Ci) (ws:Bn Ac) (t:Pi),Inv X ((a,Ka "<lambda>" (y ++ ".<locals>." ++ "<lambda>") params body scope cl pm c' ctv)::pins) σ H' s'->Rel X.K H' P α S ->
   H' c'=Ab (.frz oc (.frz oc (.own 0)))->oc.data=.fields ws->ws[1]? = Ab (.str (y ++ ".<locals>." ++ "<lambda>") t)->Q (.ref a) s'):Ap M X.A (eval (.Lambda params body scope lpos) X.env) Q E s:=by
 obtain⟨ps,e,pn,an,ok,cd⟩:=r.tb y hy c T ht;have hP:s.heap.get? T=Ab (Kr ps):=I.hok T _ e;have hC:Uw s.heap c T:=(I.mod.code y hy c T ht).keeps I.bk;have hg:s.heap.Ns Cm X.mg:=I.mod.glob.keeps I.bk;have hgP:Cm≠T:=λz=>by
  obtain⟨o,es,ep,e1,d1,_⟩:=hg;rw[z,hP] at e1;cases e1;cases d1
 have hb:s.heap.BuiltinsAt X.mg T:=by
  obtain⟨bm,o,b1,b2,b3,b4,b5,b6⟩:=I.mod.bm;have b3':=I.bk _ _ b3;refine⟨bm,o,b1,b2,λz=>?_,λz=>?_,b3',b4,b5,b6⟩
  .obtain⟨o',es,ep,e1,d1,_⟩:=hg
   rw[<- z,b3'] at e1;cases e1;rw[b6] at d1;cases d1
  .rw[z,hP] at b3';cases b3';cases b4
 refine PySem.W.kla_eval hdef ?_;rw[hq];cases hf:Oh lpos ps.toList with
 |none =>
  refine PySem.W.kla_makeFunction (mg:=X.mg) hcl I.ok.glob hg hc hC hP ok hf hgP hb λc' ctv h' tk hx hge hlt hrec htb=>?_;obtain⟨c2,oc,ws,t,z,hoc,hd,hs⟩:=hrec;cases z;have hn:H c'=none:=I.hok.fresh hge;have ne:T≠c':=qP e hn;have hsz:s.heap.objs.size<=h'.objs.size:=Cq hge (Fy hlt)
  let o:=Ka "<lambda>" (y ++ ".<locals>." ++ "<lambda>") params body scope cl ((X.mg "__name__").getD .none) c' ctv
  have kp:∀ b u,b≠T->s.heap.get? b=Ab u->(h'.push o).get? b=Ab u:=λb u hb q=>Ag _ (hx b u hb q);have eT:(h'.push o).get? T=Ab (Kr (ps++#[Gf lpos.line,Gf lpos.col,.ref c'])):=Ag _ htb
  let H2:=upd (upd H T (.tbl (ps++#[Gf lpos.line,Gf lpos.col,.ref c']))) c' (.frz oc (.frz oc (.own 0)))
  have go:∀ b u,b≠T->H b=Ab u->H2 b=Ab u:=λb u h q=>by show upd _ _ _ b=_;rw[qJ (qP q hn),qJ h];exact q
  have go0:∀ b,b≠T->b≠c'->H b=none->H2 b=none:=λb h h' q=>by show upd _ _ _ b=_;rw[qJ h',qJ h];exact q
  have nT:∀ b,H b=none->b≠T:=λb q z=>by rw[z,e] at q;cases q
  have eH:H2 T=Ab (.tbl (ps++#[Gf lpos.line,Gf lpos.col,.ref c'])):=by show upd _ _ _ T=_;rw[qJ ne];exact qQ
  have un:Un X.fs [] H H2 s.heap (h'.push o):=by
   refine⟨λb u q n _ _=>kp b u (nT b n) q,λb u q n _ _=>⟨u.slots,kp b u (nT b n) q⟩,λb u q n _=>go0 b (nT b n) (Bv (Bm (Ax q) hge)) n,λb u q _=>?_,λb xs q=>go b _ (λz=>by rw[z,e] at q;cases q) q,λb u xs q=>go b _ (λz=>by rw[z,e] at q;cases q) q,λb qs q=>?_⟩
   .by_cases hb:b=T
    .rw[hb];exact⟨_,eT⟩
    .exact⟨u,kp b u hb q⟩
   .by_cases hb:b=T
    .rw[hb,e] at q;cases q
     exact⟨_,by rw[hb];exact eH⟩
    .exact⟨#[],by rw[go b _ hb q];simp⟩
  have hok:HOk X.prog X.w H2 (h'.push o):=λb u q=>by
   by_cases hb:b=c'
   .have q':Ab (HO.frz oc (.frz oc (.own 0)))=Ab u:=by rw[<- q,hb];exact qQ.symm
    cases q';have z:(h'.push o).get? b=Ab oc:=by rw[hb];exact Ag _ hoc
    exact⟨z,z,_,z⟩
   .by_cases hb2:b=T
    .rw[hb2,eH] at q;cases q
     rw[hb2];exact eT
    .have q':H b=Ab u:=by have q2:upd _ _ _ b=Ab u:=q;rw[qJ hb,qJ hb2] at q2;exact q2
     refine(I.hok b u q').stay (λd v hd q=>kp d v ?_ q) (λd q=>go d _ (λz=>by rw[z,e] at q;cases q) q) λd xs q=>go d _ (λz=>by rw[z,e] at q;cases q) q
     rcases hd with z|z
     .rw[z];exact hb2
     .intro w;rw[w,e] at z;cases z
  have I2:=I.un (t':=tk) un hok;refine h h'.objs.size H2 _ _ ctv c' oc ws t (Inv.pinned I2 rfl hsz I (go0 _ (λz=>?_) (Gv hlt) (I.hok.fresh hsz)) λv z=>by cases z) (r.grown I.mod hy ht e pn an ok cd hn hd hs) qQ hd hs
  rw[<- z] at e;exact absurd (Bm (I.hok.lt e) hsz) (Dp _)
 |some cv =>
  obtain⟨c',oc,ws,t,rfl,a2,a3,a4⟩:=cd lpos cv hf;refine PySem.W.kla_makeFunctionHit (mg:=X.mg) hcl I.ok.glob hg hc hC hP ok hf hb λctv h' tk hk hsz=>?_;have I2:=I.kept (t':=tk) (h':=h'.push (Ka "<lambda>" (y ++ ".<locals>." ++ "<lambda>") params body scope cl ((X.mg "__name__").getD .none) c' ctv)) λb u q=>Ag _ (hk b u q);exact h h'.objs.size H _ _ ctv c' oc ws t (Inv.pinned I2 rfl hsz I (I.hok.fresh hsz) λv z=>by cases z) r a2 a3 a4
end
def fD:Aa Ai->qE->Al (Aa D)
 |[],_=>Ab []
 |i::r,env=>match env[i]? with
  |some (Ab d)=>(fD r env).map (d::·)
  |_=>none
set_option tactic.hygienic true in
theorem cM {K:Aj}{P:Hp}{α:Aa Af}{σ:_L.St}(re:qZ K P α σ env):∀ (cap:Aa Ai) (caps:Aa D),fD cap env=Ab caps->∃ cv,qD K P α caps cv/\cv.length=cap.length/\∀ (j i:Ai) v,cap[j]? = Ab i->cv[j]? = Ab v->σ[i]? = Ab (Ab v)
 |[],caps,h=>by cases h;exact⟨[],.nil,rfl,λj i v e=>by simp at e⟩
 |i::r,caps,h=>by
  unfold fD at h
  split at h
  .rename_i d e
   obtain⟨ds,h1,rfl⟩:=De.mp h;obtain⟨cv,a1,a2,a3⟩:=cM re r ds h1;obtain⟨v,b1,b2⟩:=re.2 i d e;refine⟨v::cv,.cons b2 a1,by simp[a2],λj k w e1 e2=>?_⟩
   cases j with
   |zero=>cases e1;cases e2;exact b1
   |succ j=>exact a3 j k w (by simpa using e1) (by simpa using e2)
  .cases h
open Classical in
def uni (f:Af->Aa V->Res D):Res D:=if ∀ a cv,f a cv=f 0 [] then f 0 [] else .bad
theorem EB {f:Af->Aa V->Res D}{R:Res D}(h:∀ a cv,f a cv=R):uni f=R:=by
 unfold uni;rw[Bb λa cv=>(h a cv).trans (h 0 []).symm];exact h 0 []
set_option tactic.hygienic true in
theorem EA {f:Af->Aa V->Res D}(h:uni f≠.bad)(a:Af)(cv:Aa V):f a cv=uni f:=by
 unfold uni at h ⊢
 split at h
 .rename_i z;rw[Bb z];exact z a cv
 .exact absurd rfl h
def exO (nx:Ar)(R:Res D):Res D:=match nx,R with
 |true,.ex _ _ _=>.bad
 |_,R=>R
def uK (nx:Ar)(cap:Aa Ai)(n N:Ai)(fa:DA)(g:Af->Aa V->DS):DE:=λenv S=>match fD cap env with
 |none=>.bad
 |some caps=>(fa env S).bind λds S1=>if ds.length+1=n then exO nx (uni λa cv=>qT N (g a cv) (.clo a cv caps::ds) S1) else .bad
def MN (P:Bd)(w:Bt)(K:Aj)(mg:Av->Al Ac)(base:Bj)(cm:Ar)(k kl m:Ai)(x:Av)(n N:Ai)(g:(Aa D->DF)->Af->Aa V->DS):Prop:=
 ∃ f fd st Ns ps,ps.length=n/\Ns.length=N/\mg x=Ab (.ref f)/\Fun K x x st f fd/\vQ K fd ps [] /\ FnScope Ns ps (qG st)/\∀ (L:LamT) (G:Aa D->DF) (a:Af) (cv:Aa V),tH P w K mg base cm kl L m G ->
  ∀ (cdv:Ac) (A:Bo) (outer:Aa HT) (s:Ah) (H:Hp) (E:XK),CloAt s.heap H (frs outer) L a cv->RoomC cm k (A.deeper (Gj x (qG st) s.heap.objs.size f cdv))->QB (cxC cm P w K mg base Ns x (qG st) f cdv A outer s H E) (zF st) (g G a cv)
def jL (scX:Em)(NX:Aa Av)(sc:Em)(cap:Aa Ai):Ar:=decide ((xQ sc).length=cap.length)&&(cap.zip (xQ sc)).all λp=>NX[p.1]? == Ab p.2&&(scX.names.lookup p.2 == Ab .cell||scX.names.lookup p.2 == Ab .free)
section
variable {X:Cx}{pins:Aa (Af × Ci)}{σ : _L.St}{H P:Hp}{α : Aa Af}{s:Ah}{S:Sto}{y x:Av}{c T:Af}{params:Lg}{body:Br}{scope:Em}{lpos p pos:Ex}{es:Aa Br}{fa:DA}{nx cm:Ar}{k kl m n N:Ai}{cap:Aa Ai}{G:Aa D->DF}{g:(Aa D->DF)->Af->Aa V->DS}
theorem NV {R:Res D}{Ok:D->Sto->Prop}(h:qK X P α (exO nx R) Ok):R≠.bad/\qK X P α R Ok/\((∃ c x S',R=.ex c x S')->nx=false):=by
 cases R with
 |ok d S'=>exact⟨nofun,by cases nx <;> exact h,λ⟨_,_,_,z⟩=>nomatch z⟩
 |bad=>cases nx <;> exact Ao h
 |ex c x S' =>
  cases nx with
  |true=>exact Ao h
  |false=>exact⟨nofun,h,λ_=>rfl⟩
theorem Rel.know {K:Aj}(r:Rel K H P α S)(h:H c'=Ab (.frz oc (.frz oc (.own 0)))):Rel K H (upd P c' (.frz oc (.frz oc (.own 0)))) α S/\qF P (upd P c' (.frz oc (.frz oc (.own 0)))):=by
 have sP:qF P (upd P c' (.frz oc (.frz oc (.own 0)))):=λb u q=>by
  by_cases hb:b=c'
  .have z:=r.sub b u q
   rw[hb,h] at z;cases z;rw[hb];exact qQ
  .rw[qJ hb];exact q
 refine⟨⟨λx hx d T hT=>let ⟨ps,e,pn,an,ok,cd⟩:=r.tb x hx d T hT;⟨ps,e,(qJ λ(z:T=c')=>by rw[z,h] at e;cases e).trans pn,an,ok,cd⟩,λb u q=>?_,r.len,r.nd,λi a o h1 h2 h3=>?_,λi a o h1 h2=>(r.at' i a o h1 h2).mono sP (Bh _),r.own⟩,sP⟩
 .by_cases hb:b=c'
  .rw[hb,qQ] at q;cases q;rw[hb];exact h
  .rw[qJ hb] at q;exact r.sub b u q
 .have hb:a≠c':=by
   rintro rfl;have z:=r.at' i a o h1 h2;cases o with
   |dead=>exact h3 rfl
   |lst ds=>obtain⟨vs,z,_⟩:=z;rw[h] at z;cases z
   |dct kvs=>obtain⟨vs,z,_⟩:=z;rw[h] at z;cases z
   |ins C fs=>obtain⟨dx,vs,z,_⟩:=z;rw[h] at z;cases z
  rw[qJ hb];exact r.sep i a o h1 h2 h3
theorem lZ {z:Av × Ht}(h:z∈sc.names)(hk:z.2=.free):z.1∈xQ sc:=Hc.mpr ⟨z,h,by rw[hk];rfl⟩
set_option tactic.hygienic true in
theorem UH {z:Av}(h:z∈xQ sc):(z,Gr)∈sc.names:=by
 obtain⟨⟨n,k⟩,h1,h2⟩:=Hc.mp h
 split at h2
 .rename_i e
  have:k=Gr:=by simpa using e
  cases h2;subst this;exact h1
 .cases h2
theorem nB (hB:jL X.env.scope X.N scope cap=true){j:Ai}{z:Av}(h:(xQ scope)[j]? = Ab z):∃ i,cap[j]? = Ab i/\X.N[i]? = Ab z/\(X.env.scope.names.lookup z=Ab .cell\/X.env.scope.names.lookup z=Ab .free):=by
 simp only[jL,Au,Ce] at hB;obtain⟨hl,ha⟩:=hB;have hj:j<cap.length:=by rw[<- hl];exact(Az.mp h).1
 have e:=An hj;have hz:(cap[j],z)∈cap.zip (xQ scope):=Kc.mpr ⟨j,by rw[Qv];exact⟨e,h⟩⟩
 have q:=Be.mp ha _ hz;simp only[Au,Ol,Pa] at q;exact⟨_,e,q.1,q.2⟩
theorem rV (hB:jL X.env.scope X.N scope cap=true)(ok:X.Ok):Sf scope X.env=pure (wN X.env.cells scope.names []):=gS λz hz hk=>by
 obtain⟨j,hj⟩:=Kc.mp (lZ hz hk);obtain⟨i,_,_,q⟩:=nB hB hj;exact ok.has z.1 q
theorem uP (hB:jL X.env.scope X.N scope cap=true)(ok:X.Ok){z:Av}{d:Af}(h:(wN X.env.cells scope.names []).lookup z=Ab d):X.env.cells.lookup z=Ab d:=by
 rcases jI _ _ h with h|⟨hm,hc⟩
 .cases h
 .obtain⟨j,hj⟩:=Kc.mp (lZ hm rfl)
  obtain⟨i,_,_,q⟩:=nB hB hj;obtain⟨d',e⟩:=ok.has z q;rw[e,Nr] at hc;rw[e,hc]
theorem T9 {a:Af}{ws:Bn Ac}{t:Pi}{pm ctv:Ac}{cv:Aa V}{s':Ah}(hB:jL X.env.scope X.N scope cap=true)(I:Inv X ((a,Ka "<lambda>" (y ++ ".<locals>." ++ "<lambda>") params body scope (wN X.env.cells scope.names []) pm c' ctv)::pins) σ H' s')
  (hc:H' c'=Ab (.frz oc (.frz oc (.own 0)))) (hd:oc.data=.fields ws) (hs:ws[1]? = Ab (.str (y ++ ".<locals>." ++ "<lambda>") t)) (hl:cv.length=cap.length) (hv:∀ (j i:Ai) v,cap[j]? = Ab i->cv[j]? = Ab v->σ[i]? = Ab (Ab v)) :
  CloAt s'.heap H' (frs X.stack) ⟨y ++ ".<locals>." ++ "<lambda>",params,body,scope⟩ a cv:=by
 obtain⟨e1,n1,n2,n3,_⟩:=I.pin _ (Bp _ (.head _));refine⟨_,pm,ctv,c',oc,ws,t,e1,hc,hd,hs,λz z' d h1 h2=>I.ok.inj z z' d (uP hB I.ok h1) (uP hB I.ok h2),λz d h=>⟨I.freeC z d (uP hB I.ok h),I.cell z d (uP hB I.ok h)⟩,λz hz=>jA _ _ (.inl (Fk hz)),?_,λj z v h1 h2=>?_,n1,λz=>?_⟩
 .simp only[jL,Au,Ce] at hB
  rw[hl,<- hB.1]
 .obtain⟨i,q1,q2,q3⟩:=nB hB h1
  obtain⟨m,hm,hlk⟩:=I.loc;obtain⟨u,ru,lk⟩:=hlk i z v q2 (hv j i v q1 h2) (q3.elim (λk=>.inr (.inl k)) λk=>.inr (.inr k));rcases lk with⟨kl,_⟩|⟨_,d,hcl,hcell⟩
  .have kl':X.env.scope.names.lookup z=Ab .local:=kl
   rcases q3 with k|k <;> (rw[kl'] at k;cases k)
  .obtain⟨d',hd'⟩:=jA (cells:=X.env.cells) scope.names [] (.inl (UH (Bk h1)))
   have:=uP hB I.ok hd';rw[hcl] at this;cases this;exact⟨d,u,hd',ru,hcell⟩
 .rcases Aw.mp (I.stkSub a z) with z|z
  .exact n2 z
  .exact n3 z
theorem YT (D:MN X.prog X.w X.K X.mg X.base cm k kl m x n N g)(LX:tH X.prog X.w X.K X.mg X.base cm kl ⟨y ++ ".<locals>." ++ "<lambda>",params,body,scope⟩ m G)(hr:RoomC cm (k+1) X.A)(hF:nx=false->Fn1 X)(hg:Gl X x)(hdb:(x == ("__debug__" : Av))=false)
  (hy:y∈wF) (ht:Dq X.K y=Ab (c,T)) (hc:X.env.code=.ref c) (hq:X.env.qual=y ++ ".<locals>.") (hdef:Sj params X.env=([],[])) (hB:jL X.env.scope X.N scope cap=true) (ha:PA X es (tDA X fa))
  (he:Bl (.Lambda params body scope lpos::es) X.env=(false,eval (.Lambda params body scope lpos) X.env)::Bl es X.env) (hpl:(Ge pos (Bl es X.env)).any (·.1)=false) :
  PE X (.Call (.Name x p) (.Lambda params body scope lpos::es) [] pos) (tD X (uK nx cap n N fa (g G))):=by
 intro pins s σ H Q I h;obtain⟨P,α,env,S,r,re,af⟩:=h;obtain⟨f,fd,st,Ns,ps,hn,hN,hm,F,hb,hS,hbody⟩:=D;subst hn;subst hN;have af:qK X P α (match fD cap env with
  |none=>.bad
  |some caps=>(fa env S).bind λds S1=>if ds.length+1=ps.length then exO nx (uni λa cv=>qT Ns.length (g G a cv) (.clo a cv caps::ds) S1) else .bad) (OkV X P α Q):=af
 cases hcap:fD cap env with
 |none=>rw[hcap] at af;exact Ao af
 |some caps =>
  rw[hcap] at af;obtain⟨cv,rc,hcl,hv⟩:=cM re cap caps hcap;refine Gd (uC I hg hm ?_ hdb);refine Pw (h₀:=X.base) I.ok.mod.kin F.kp ?_ he hpl;rw[he];show Ap _ _ (spliced ((false,eval (.Lambda params body scope lpos) X.env)::Ge pos (Bl es X.env))) _ _ s;refine Jt (rW I r hy ht hc hq hdef (rV hB I.ok) λa H1 s1 pm ctv c' oc ws t I1 r1 hc' hd hs=>?_);obtain⟨rk,sk⟩:=Rel.know r1 hc';refine thn (wK ha I1 rk (re.mono sk (Bh _)) (qR.base sk (Bh _) af) pos) λus s2 ⟨vs,H2,P2,α2,ds,S2,I2,rv,r2,re2,rp,q1,q2,af2⟩=>⟨I2.kIn,?_⟩;obtain⟨hl,af3⟩:=xB af2;obtain⟨nb,af4,nf⟩:=NV af3;have e1:=EA nb a cv;rw[<- e1] at af4 nf;have C:=T9 hB I2 (r2.sub _ _ (q1 _ _ qQ)) hd hs hcl hv;have I3:Inv X pins σ H2 s2:=I2.pins_of λp hp=>I2.pin p (Bp _ (Cc _ hp));obtain⟨oc',od,kV,doc,pm',an,cdv,ct,osl,rfl,lk,hcd⟩:=F.ex;have hz:(Bs a::us).length=ps.length:=by rw[<- hl,rp.length,rv.length];rfl
  have hb':=hb s2 (.ref a::us) I2.kIn (by rw[Gx];exact hz)
  rw[Gx] at hb';have rc2:=qD.mono (sk.trans q1) q2 _ _ rc;have af5:=qR.base q1 q2 af4;have rv2:qH (V.ref a::vs) (Bs a::us):=.cons rfl rv;exact fB (λz=>hF (nf z)) I3 af5 (ZR lk hcd hS (by rw[<- hz];exact rv2.length) hr I3.env0 hb' rv2 (sS (hbody _ G a cv LX cdv X.A X.stack s2 H2 _ C (hr.deeper _)).1 r2 (.cons (by simp only[Rep];exact⟨trivial,rc2⟩) rp) (h9 af5)))
end
section
variable {X:Cx}{pins:Aa (Af × Ci)}{σ : _L.St}{H P:Hp}{α : Aa Af}{s:Ah}{S:Sto}
def kQ:DF:=λds S=>match ds with
 |[d,.tup [.ty b,.ty c]]=>if uT b=true/\uT c=true then match tyD d S with
   |some a=>.ok (.bl (wB a b||wB a c)) S
   |none=>.bad
  else .bad
 |_=>.bad
inductive KitAt (X:Cx)(u:Ac)(t:Ac)(h:Bj):Prop
 |mk (Hh:Bj->Prop) (Z:PySem.W.KitX X.K u t Hh) (p:Hh h) (ne:u≠.builtin "__main__.__loader__#opaque"):KitAt X u t h
theorem LQ {v:V}{u:Ac}{d:D}{a:Ef}(I:Inv X pins σ H s)(r:Rel X.K H P α S)(q:qI v u)(p:Rep X.K P α d v)(ha:tyD d S=Ab a):KitAt X u (.type a) s.heap:=by
 cases GA r p ha with
 |tup p' ws e sq ea =>
  subst e ea;cases (show u=Bs p' from q)
  obtain⟨its,rv',⟨o,h1,h2,_⟩,_⟩:=I.tuple sq;exact⟨_,Mb,⟨o,h1,h2⟩,λz=>nomatch z⟩
 |lst p' ws e sq ea =>
  subst e ea;cases (show u=Bs p' from q)
  obtain⟨its,rv',⟨o,_,h1,h2,_⟩,_⟩:=I.list sq;exact⟨_,IN,⟨o,h1,h2⟩,λz=>nomatch z⟩
 |of ty =>
  cases ty with
  |non=>cases (show u=Er from q);exact⟨_,Yb,Hu,λz=>nomatch z⟩
  |bl y=>cases (show u=Fp y from q);exact⟨_,Yc,Hu,λz=>nomatch z⟩
  |int i=>obtain⟨t,q⟩:=(show ∃ t,u=Oe i t from q);cases q;exact⟨_,Yx,Hu,λz=>nomatch z⟩
  |str y=>obtain⟨t,q⟩:=(show ∃ t,u=Ue y t from q);cases q;exact⟨_,Yy,Hu,λz=>nomatch z⟩
  |flt y=>cases d <;> first|(exact nn ha)|(simp only[Rep] at p;cases p;done)|(simp only[Rep] at p;obtain⟨_,p⟩:=p;cases p.1;done)|(simp only[Rep] at p;obtain⟨_,_,p⟩:=p;cases p.1;done)
  |@lst b xs ea =>
   cases (show u=Bs b from q)
   obtain⟨_,_,n,_,h1⟩:=(show z9 X.prog X.w H s.heap b (.lst xs) from I.hok b _ ea)
   exact⟨_,IN,⟨_,h1,rfl⟩,λz=>nomatch z⟩
  |@frz b ob xs ea =>
   cases (show u=Bs b from q)
   obtain⟨_,_,_,n,_,h1⟩:=(show z9 X.prog X.w H s.heap b (.frz ob (.lst xs)) from I.hok b _ ea)
   exact⟨_,IN,⟨_,h1,rfl⟩,λz=>nomatch z⟩
  |@tup b xs ea =>
   cases (show u=Bs b from q)
   obtain⟨_,_,_,p⟩:=(show z9 X.prog X.w H s.heap b (.tup xs) from I.hok b _ ea)
   obtain⟨o,h1,h2,_⟩:=p;exact⟨_,Mb,⟨o,h1,h2⟩,λz=>nomatch z⟩
  |@dK b kvs ea =>
   cases (show u=Bs b from q)
   obtain⟨_,_,vs,_,p⟩:=(show z9 X.prog X.w H s.heap b (.dK kvs) from I.hok b _ ea)
   obtain⟨o,es,ep,h1,h2,_⟩:=p;exact⟨_,Mt,⟨o,h1,h2.1⟩,λz=>nomatch z⟩
  |@dT b kvs ea =>
   cases (show u=Bs b from q)
   obtain⟨_,_,xs,_,o,es,ep,h1,h2,_⟩:=(show z9 X.prog X.w H s.heap b (.dT kvs) from I.hok b _ ea)
   exact⟨_,Mt,⟨o,h1,h2.1⟩,λz=>nomatch z⟩
set_option tactic.hygienic true in
theorem VN {ds:Aa D}{Ok:D->Sto->Prop}(h:qK X P α (kQ ds S) Ok):∃ d b c a,ds=[d,.tup [.ty b,.ty c]]/\uT b=true/\uT c=true/\tyD d S=Ab a/\Ok (.bl (wB a b||wB a c)) S:=by
 unfold kQ at h
 split at h
 .rename_i d b c
  obtain⟨⟨h1,h2⟩,h⟩:=xB h
  split at h
  .rename_i a ha
   exact⟨d,b,c,a,rfl,h1,h2,ha,h⟩
  .exact Ao h
 .exact Ao h
theorem GM:w8 X (.builtin "isinstance") kQ:=by
 intro pins σ H s P α S vs us ds Q I r rv rp af;obtain⟨d,b,c,a,rfl,hb,hc,ha,ok⟩:=VN af;obtain⟨v,w,u,x,rfl,rfl,p,p',q,q'⟩:=gF rp rv;simp only[Rep] at p';obtain⟨tp,ws,rfl,sq,t⟩:=p';obtain⟨w1,ws1,rfl,z1,t⟩:=t.cons_inv;obtain⟨w2,ws2,rfl,z2,t⟩:=t.cons_inv;cases t.nil_inv;simp only[Rep] at z1 z2;subst z1 z2;cases (show x=Bs tp from q')
 obtain⟨its,rvi,⟨o,h1,h2,n,h3⟩,_⟩:=I.tuple (xH r.sub sq);obtain⟨i1,i2,rfl,y1,y2⟩:=sM rvi;cases (show i1=Gk b from y1)
 cases (show i2=Gk c from y2)
 obtain⟨Hh,Z,hp,ne⟩:=LQ I r q p ha;obtain⟨oc,od,odt,osl⟩:=o;cases h2;cases h3;have k1:=n9 (K:=X.K) (c6 ha) hb;have k2:=n9 (K:=X.K) (c6 ha) hc;refine PySem.W.kia_tup (its:=[.type b,.type c]) (b:=wB a b||wB a c) Z I.kIn hp h1 ?_ ne λtk=>⟨.bl _,H,I.tok tk,rfl,xr ok r (by simp only[Rep])⟩
 cases z:wB a b with
 |true=>rw[z] at k1;simp only[Vi,k1];rfl
 |false =>
  rw[z] at k1;cases z':wB a c with
  |true=>rw[z'] at k2;simp only[Vi,k1,k2];rfl
  |false=>rw[z'] at k2;simp only[Vi,k1,k2];rfl
end
def okV (X:Cx)(i:Ai)(x:Av):Ar:=decide (X.N[i]? = Ab x)&&(isV (X.env.scope.names.lookup x)&&okN x)
def g9 (fe:DE):Aa D->DF:=λcaps ds S=>fe ((ds++caps).map Ab) S
def nD (sc:Em)(ps:Aa Av):Ar:=decide (sc.kind=.function)&&(decide (sc.isCoroutine=false)&&(decide (sc.isGenerator=false)&&(decide (∀ y∈sc.names,y.2≠.cell)&&(decide (∀ x∈ps,sc.names.lookup x=Ab .local)&&decide (∀ x∈xQ sc,sc.names.lookup x=Ab .free)))))
structure LmX (G:Aa D->DF)(P:Bd)(w:Bt)(K:Aj)(mg:Av->Al Ac)(base:Bj)(cm:Ar)(k:Ai)(L:LamT)(n:Ai):Prop where
 get:tH P w K mg base cm k L n G
structure DfL (g:(Aa D->DF)->Af->Aa V->DS)(P:Bd)(w:Bt)(K:Aj)(mg:Av->Al Ac)(base:Bj)(cm:Ar)(k kl m:Ai)(x:Av)(n N:Ai):Prop where
 get:MN P w K mg base cm k kl m x n N g
structure ClA (X:Cx)(L:LamT)(a:Af)(cv:Aa V):Prop where
 get:CloAt X.s₀.heap X.H₀ X.fs L a cv
structure LmK (X:Cx)(y:Av):Prop where
 get:y∈wF/\kH X.K y X.env.code/\X.env.qual=y ++ ".<locals>." /\ ∃ c T,Dq X.K y=Ab (c,T)
section
variable {X:Cx}{cm nx:Ar}{k kl m n N i:Ai}{x y:Av}{p pos lpos:Ex}{e:Br}{es:Aa Br}{fA:DA}{fe:DE}{L:LamT}{G:Aa D->DF}{a:Af}{cv:Aa V}{g:(Aa D->DF)->Af->Aa V->DS}{Fs:FnL}{cap:Aa Ai}{params:Lg}{body:Br}{scope:Em}
theorem SG (h:Ck (okV X i x)):X.N[i]? = Ab x/\Vis X.env.scope x/\(x == ("__debug__" : Av))=false/\(x == ("__classdict__" : Av))=false:=by
 unfold Ck okV at h;simp only[Au,Ce] at h;exact⟨h.1,aH h.2.1,(uS h.2.2).1,(uS h.2.2).2.1⟩
theorem aK0 (LX:LmX G X.prog X.w X.K X.mg X.base cm k L n)(C:ClA X L a cv)(hr:RoomC cm k X.A)(F:Fn1 X)(h:Ck (okV X i x)):QE X (.Call (.Name x p) [] [] pos) (kM i qB a cv n G):=
 have h:=SG h
 ⟨GY LX.1 hr F C.1 h.1 h.2.1 h.2.2.1 h.2.2.2⟩
theorem LZ {ps:Aa Av}{q:Av}(h:Ck (nD scope ps))(one:ps.length<=1):LamSc ⟨q,params,body,scope⟩ ps:=by
 unfold Ck at h;simp only[nD,Au,Ce] at h;obtain⟨a,b,c,d,e,f⟩:=h;exact⟨a,b,c,d,e,one,f⟩
theorem IP (D:DfL g X.prog X.w X.K X.mg X.base cm k (kl+1) 0 x n N)(M:LmK X y)(hr:RoomC cm (k+1) X.A)(hF:nx=false->Fn1 X)(h:Ck (okG X x&&jL X.env.scope X.N scope cap))(hs:Ck (nD scope []))(hdef:Sj params X.env=([],[]))
  (hb:∀ (q:Av) (b:Br) (cl:Aa (Av × Af)) (pm cdv ctv:Ac),Na (Mp "<lambda>" q params b scope cl pm cdv ctv) ⟨[],[]⟩ = pure [])
  (hbody:∀ (cl:Aa (Av × Af)) (f:Af) (cd:Ac) (A:Bo) (outer:Aa HT) (s:Ah) (H:Hp) (E:XK),RoomC cm kl (A.deeper (Kt (y ++ ".<locals>." ++ "<lambda>") scope s.heap.objs.size f cd cl)) ->
   QE (VT cm X.prog X.w X.K X.mg X.base ([] ++ xQ scope) ⟨y ++ ".<locals>." ++ "<lambda>",params,body,scope⟩ cl f cd A outer s H E) body fe)
  (ha:QA X es fA) (s:St1 X (.Lambda params body scope lpos) es pos):QE X (.Call (.Name x p) (.Lambda params body scope lpos::es) [] pos) (uK nx cap n N fA (g (g9 fe))):=by
 unfold Ck at h;rw[Au] at h;obtain⟨m1,m2,m3,c,T,m4⟩:=M.1;have hg:=w5 h.1;exact⟨YT D.1 (LU (ps:=[]) (LZ hs (by decide)) (λcl pm cdv ctv us hl=>by cases us with|nil=>exact hb _ _ _ _ _ _|cons _ _=>cases hl) hbody) hr hF hg.1 hg.2.1 m1 m4 (m2 c T m4) m3 hdef h.2 ha.1 s.1 s.2⟩
theorem ClA.tr {pn:Aa (Af × Ci)}(h:ClA X L a cv):ClA (Cx.tryIn X E pn) L a cv:=⟨h.1⟩
theorem lmK {ls:Aa Av}(h:(ls.all λy=>(Dq X.K y).isSome)=true)(hc:kH X.K y X.env.code)(hy:Ck (ls.contains y&&wF.contains y))(hq:X.env.qual=y ++ ".<locals>."):LmK X y:=by
 unfold Ck at hy;rw[Au] at hy;obtain⟨⟨c,T⟩,e⟩:=Je.mp (Be.mp h y (by simpa using hy.1))
 exact⟨by simpa using hy.2,hc,hq,c,T,e⟩
theorem Y7:ZCall X (.builtin "isinstance") kQ:=⟨GM⟩
end
section
variable {P:Bd}{w:Bt}{K:Aj}{mg:Av->Al Ac}{base:Bj}{cm:Ar}{tp:Ai->Fa}{tab:Aa (Av × Ai × Aa Av)}{bl:Aa Av}{clt plt:Aa (Av × Af)}{cs:Aa Ac}{exl:Aa Af}{cst:Aa (Av × Am)}{x:Av}{i:Ai}{ps:Aa Av}{N:Ai}
theorem dqL {g:(Aa D->DF)->Af->Aa V->DS}(P:Bd)(w:Bt)(base:Bj)(k kl m j:Ai)(T:TxS K mg tp tab bl clt plt cs exl cst)(hj:tab[j]? = Ab (x,i,ps))(h:Ck (fnB (jM (qG (tp i))) ps (qG (tp i))&&decide ((jM (qG (tp i))).length=N)))
  (hb:∀ (L:LamT) (G:Aa D->DF) (a:Af) (cv:Aa V),LmX G P w K mg base cm kl L m->∀ (f:Af) (cdv:Ac) (A:Bo) (outer:Aa HT) (s:Ah) (H:Hp) (E:XK),ClA (cxC cm P w K mg base (jM (qG (tp i))) x (qG (tp i)) f cdv A outer s H E) L a cv->RoomC cm k (A.deeper (Gj x (qG (tp i)) s.heap.objs.size f cdv)) ->
   QB (cxC cm P w K mg base (jM (qG (tp i))) x (qG (tp i)) f cdv A outer s H E) (zF (tp i)) (g G a cv)):DfL g P w K mg base cm k kl m x ps.length N:=by
 unfold Ck at h;simp only[Au,Ce] at h;obtain⟨h,rfl⟩:=h;obtain⟨f,fd,hm,F,hbd⟩:=T.src j hj;exact⟨f,fd,tp i,_,ps,rfl,rfl,hm,F,hbd,rK h,λL G a cv LX cdv A outer s H E C hr=>hb L G a cv ⟨LX⟩ f cdv A outer s H E ⟨C⟩ hr⟩
end
section
variable {X:Cx}{pins:Aa (Af × Ci)}{σ : _L.St}{H P:Hp}{α : Aa Af}{s:Ah}{S:Sto}
def qAK:D->Aa D->Sto->Res D:=λa ds S=>match a,ds with
 |.loc i,[.lst ys]=>bG S i λxs=>if xs.length+ys.length<=lim then .ok .non (S.set i (.lst (xs++ys))) else .bad
 |_,_=>.bad
def pC:D->Aa D->Sto->Res D:=λa ds S=>match a,ds with
 |.loc i,[.int k]=>bG S i λxs=>if 0<=k/\k<1000000 then (match xs[k.toNat]? with|some d=>.ok d (S.set i (.lst (xs.eraseIdx k.toNat)))|none=>.bad) else .bad
 |_,_=>.bad
theorem mZ {K:Aj}:∀ {ds:Aa D} {vs:Aa V} (k:Ai),qD K P α ds vs->qD K P α (ds.eraseIdx k) (vs.eraseIdx k)
 |[],vs,k,r=>by rw[r.nil_inv];exact .nil
 |d::ds,vs,0,r=>by
  obtain⟨w,ws,rfl,_,r2⟩:=r.cons_inv;exact r2
 |d::ds,vs,k+1,r=>by
  obtain⟨w,ws,rfl,r1,r2⟩:=r.cons_inv;exact .cons r1 (mZ k r2)
set_option tactic.hygienic true in
theorem U4:MtD X "list.pop" pC:=by
 intro pins σ H s P α S v vv vs us a ds Q I r rv p rvs rps af;unfold pC at af
 split at af
 .rename_i i k
  obtain⟨xs,hS,af⟩:=uU af;obtain⟨hk,af⟩:=xB af;have af2:∃ d,xs[k.toNat]? = Ab d/\OkV X P α Q d (S.set i (.lst (xs.eraseIdx k.toNat))):=by
   cases hx:xs[k.toNat]? with
   |none=>rw[hx] at af;exact Ao af
   |some d=>rw[hx] at af;exact⟨d,rfl,af⟩
  obtain⟨d,hd,ok⟩:=af2;obtain⟨w,u,rfl,rfl,p',q'⟩:=wH rps rvs;cases xG p';simp only[Rep] at p;obtain⟨l,rfl,q⟩:=p;obtain⟨ws,z,t⟩:=r.at' i l _ q hS;obtain⟨y,hy,ry⟩:=t.get hd;have hlt:=(Az.mp hy).1;refine U7 pins s σ H (.ref l) [.int k] vv [u] Q I rv (.cons q' .nil) ⟨l,ws,k,k.toNat,y,rfl,rfl,z,by omega,by omega,?_,hy,?_⟩
  .unfold Ui
   show (if (0<=(if k<0 then k+(ws.length:Am) else k)&&(if k<0 then k+(ws.length:Am) else k)<(ws.length:Am))=true then Ab (if k<0 then k+(ws.length:Am) else k).toNat else none)=_
   rw[Bc (show ¬ k<0 by omega),Bb (by simp;omega)]
  .exact ok _ _ _ _ (r.put (m':=.lst (xs.eraseIdx k.toNat)) q hS (by intro z;cases z) ⟨ws.eraseIdx k.toNat,qQ,mZ _ t⟩) (qF.refl _) (Bh _) ry
 .exact Ao af
theorem MI:ZMt X "list.pop" pC:=⟨U4⟩
end
def b8:G2:=λa b S=>match lstM a S,lstM b S with
 |some xs,Ab ys=>if xs.length+ys.length<=lim then .ok (.loc S.length) (S++[.lst (xs++ys)]) else .bad
 |_,_=>.bad
section
variable {X:Cx}
theorem VS {pins:Aa (Af × Ci)}{σ:_L.St}{H P:Hp}{α:Aa Af}{S:Sto}{s:Ah}{xs:Aa D}{vs:Aa V}{its:Aa Ac}{Q:VK}(I:Inv X pins σ H s)(r:Rel X.K H P α S)(t:qD X.K P α xs vs)(rv:qH vs its)(hz:xs.length<=lim)
  (ok:OkV X P α Q (.loc S.length) (S++[.lst xs])):EP X pins σ Q (.ref s.heap.objs.size) { s with heap:=s.heap.push { cls:=.type "list",data:=.seq its.toArray } }:=by
 refine⟨.ref s.heap.objs.size,_,I.laid (t':=s.toks) (o:=.lst vs) (λb ob q=>Ag _ q) (AT _) ⟨by rw[<- t.length,<- zM];exact hz,its,0,rv,Ba _ rfl⟩,rfl,jY r (I.hok.fresh (AT _)) t ok⟩
theorem BX:OpD X (Ek .Add) b8:=by
 intro pins σ H s P α S v u vv uu a b Q I r rv ru pa pb af;unfold b8 at af;cases h1:lstM a S with
 |none=>rw[h1] at af;exact Ao af
 |some xs =>
  cases h2:lstM b S with
  |none=>rw[h1,h2] at af;exact Ao af
  |some ys =>
   rw[h1,h2] at af;obtain⟨hl,af⟩:=xB (X:=X) af;obtain⟨a,vs,its,n,rfl,t1,rv1,e1,l1⟩:=bE I r h1 pa;obtain⟨b,ws,its2,n2,rfl,t2,rv2,e2,l2⟩:=bE I r h2 pb;cases rv;cases ru;refine Sg e1 e2 ?_ (by rw[Ay,Ay,<- l1,<- l2,<- zM];exact hl)
   rw[Pb];exact VS I r (t1.append t2) (rv1.append rv2) (by rw[Cj];exact hl) af
theorem EF:ZOp X (Ek .Add) b8:=⟨BX⟩
end
def fV:D->Sto->Al (Aa D)
 |.lst xs,_=>Ab xs
 |.tup xs,_=>Ab xs
 |.loc n,S=>match S[n]? with
  |some (.lst xs)=>Ab xs
  |_=>none
 |_,_=>none
def yV (mu:Ar)(f:DE):DE:=λenv S=>(f env S).bind λd S1=>match (fV d S1).bind uZ with
 |some ys=>if mu then .ok (.loc S1.length) (S1++[.lst ys]) else .ok (.lst ys) S1
 |none=>.bad
section
variable {X:Cx}{pins:Aa (Af × Ci)}{σ : _L.St}{H P:Hp}{α : Aa Af}{S:Sto}{s:Ah}
theorem bV {K:Type}{is:K->Ac->Prop}{hash:K->Am}{lt':K->K->Ar}{d:K}{Fit:K->Prop}(kd:_S.Kind X.prog X.w is hash lt' d Fit s.heap)(ad:_S.AddS X.prog X.w is hash s.heap)(hc:X.calm=true)(hu:X.A.units+64<Dw)(I:Inv X pins σ H s)(r:Rel X.K H P α S){a:Af}{its:Aa Ac}
  (ha:s.heap.IsList a its.toArray\/s.heap.IsTuple a its.toArray) (ks:Aa K) (hl:ks.length=its.length) (hk:∀ i v,its[i]? = Ab v->is (ks.getD i d) v) (hn:(_S.srt lt' ks).length<=63) (hf:∀ k∈ks,Fit k) (enc:K->D)
  (back:∀ k v,is k v->v∈its->∃ vv,qI vv v/\Rep X.K P α (enc k) vv) {E:Ac->Ah->Prop} :
  Ap (As X.prog X.w) X.A (call (.type "set") [.ref a]) (λu s1=>Ap (As X.prog X.w) X.A (call (.builtin "sorted") [u]) (NewR X pins σ H P α ((_S.srt lt' ks).map enc)) E s1) E s:=by
 have hsz:its.toArray.size=ks.length:=by rw[Ay,hl]
 have mem:∀ k,k∈_S.srt lt' ks↔k∈ks:=λk=>_S.yY kd.ord k ks;have inn:∀ i,i<ks.length->ks.getD i d∈ks:=λi hi=>by simp[Gs,hi]
 refine _S.o9 (U:=_S.srt lt' ks) ad (I.ok.hd hc) om ha (λi=>ks.getD i d) (λi v hv=>hk i v (by simpa using hv)) om (λi hi=>(mem _).mpr (inn i (by rw[<- hsz];exact hi))) λh1 tk1 Z kp=>?_
 have seen:∀ k∈_S.y8 (λi=>ks.getD i d) its.toArray.size,k∈ks:=λk hk'=>by
  obtain⟨i,hi,rfl⟩:=_S.jC.mp hk';exact inn i (by rw[<- hsz];exact hi)
 have I1:Inv X pins σ H { s with heap:=h1,toks:=tk1 }:=I.kept kp
 refine _S.QJ (s:={ s with heap:=h1,toks:=tk1 }) kd (I.ok.hd hc) om kp Z (λk hk'=>hf k (seen k hk')) (U:=_S.srt lt' ks) om (λk hk'=>(mem k).mpr (seen k hk')) λh2 tk2 D c ps kp2 hD hob hps hp hpl=>?_
 rw[hsz,JG kd.ord] at hps;have vv:∀ (ps:Aa (K × Ac)),(∀ p∈ps,is p.1 p.2/\p.2∈its)->∃ vs,qH vs (ps.map (·.2))/\qD X.K P α ((ps.map (·.1)).map enc) vs:=by
  intro ps
  induction ps with
  |nil=>exact λ_=>⟨[],.nil,.nil⟩
  |cons p ps ih =>
   intro h;obtain⟨vs,a1,a2⟩:=ih λq hq=>h q (by simp[hq])
   obtain⟨v,b1,b2⟩:=back p.1 p.2 (h p (by simp)).1 (h p (by simp)).2
   exact⟨v::vs,.cons b1 a1,.cons b2 a2⟩
 obtain⟨vs,a1,a2⟩:=vv ps λp hpm=>by simpa using hp p hpm
 rw[hps] at a2;have nd:([(D,HO.lst vs)].map (·.1)).Nodup:=by simp
 have I2:Inv X pins σ (xU H [(D,HO.lst vs)]) { s with heap:=h2,toks:=tk2 }:=Inv.laidL (s:={ s with heap:=h1,toks:=tk1 }) (L:=[(D,HO.lst vs)]) (t':=tk2) I1 kp2 (λp hpm=>by
  have:p=(D,HO.lst vs):=by simpa using hpm
  subst this;exact hD) λp hpm=>by
  have:p=(D,HO.lst vs):=by simpa using hpm
  subst this;refine⟨?_,ps.map (·.2),c,a1,hob⟩
  have:=a1.length;rw[Aq] at this;rw[this,Ev];omega
 exact⟨D,vs,rfl,I1.hok.fresh hD,I2,a2⟩
set_option tactic.hygienic true in
theorem FW {d:D}{xs:Aa D}{v:V}{vv:Ac}(I:Inv X pins σ H s)(r:Rel X.K H P α S)(p:Rep X.K P α d v)(q:qI v vv)(h:fV d S=Ab xs) :
  ∃ a vs its,vv=.ref a/\qD X.K P α xs vs/\qH vs its/\(s.heap.IsList a its.toArray\/s.heap.IsTuple a its.toArray)/\xs.length=its.length:=by
 cases d with
 |lst ys=>exact eY I r p q h
 |tup ys=>exact eY I r p q h
 |loc n =>
  have hS:S[n]? = Ab (.lst xs):=by
   have h:(match S[n]? with|some (.lst xs)=>Ab xs|_=>none)=Ab xs:=h
   split at h
   .rename_i e;cases h;exact e
   .cases h
  simp only[Rep] at p;obtain⟨a,rfl,ha⟩:=p;cases (show vv=Bs a from q)
  obtain⟨vs,z,t⟩:=r.at' n a _ ha hS;obtain⟨its,rv,p,hz⟩:=I.list (SqL.of z);exact⟨a,vs,its,rfl,t,rv,.inl p.isList,by rw[t.length,rv.length]⟩
 |_=>cases h
end
section
variable {X:Cx}{e:Br}{fa:DE}{p1 p2 pos1 pos2:Ex}{mu:Ar}
set_option tactic.hygienic true in
theorem cE (hc:X.calm=true)(hu:X.A.units+64<Dw)(hg:Gl X "sorted")(hm:X.mg "sorted" = none)(hg2:Gl X "set")(hm2:X.mg "set" = none)(ha:PE X e (tD X fa))(he:Bl [e] X.env=(false,eval e X.env)::Bl [] X.env:=by rfl) :
  PE X (.Call (.Name "sorted" p1) [.Call (.Name "set" p2) [e] [] pos2] [] pos1) (tD X (yV mu fa)):=by
 intro pins s σ H Q I h;obtain⟨P,α,env,S,r,re,af⟩:=h;refine Gd (yE I hg hm lC ?_);refine Js ?_ rfl rfl;refine Jt ?_;refine Call_ (yE I hg2 hm2 YF (Hi ?_ he rfl));rw[he];refine Jt (thn (zK ha I r re af) λvv s1 ⟨v,H1,P1,α1,d,S1,G1,af1⟩=>Mu ?_);cases hq:(fV d S1).bind uZ with
 |none=>simp only[hq] at af1;exact Ao af1
 |some ys =>
   simp only[hq] at af1;obtain⟨xs,hd,hs⟩:=Ey.mp hq;obtain⟨a,vs,its,rfl,t1,rv1,e1,l1⟩:=FW G1.inv G1.rel G1.rep G1.val hd;have main:Ap (As X.prog X.w) X.A (call (.type "set") [.ref a]) (λu s1=>Ap (As X.prog X.w) X.A (call (.builtin "sorted") [u]) (NewR X pins σ H1 P1 α1 ys) X.xe s1) X.xe s1:=by
    unfold uZ at hs;cases hi:xV xs with
    |some ns =>
     rw[hi] at hs;dsimp only at hs
     split at hs
     .rename_i hlt
      cases hs;have:=uO hi;subst this;have:=yW t1;subst this;refine bV (d:=0) (_S.KB X.prog X.w s1.heap) (_S.MS s1.heap) hc hu G1.inv G1.rel e1 ns (by simpa using l1) (λi u hu'=>?_) hlt (λ_ _=>trivial) D.int λk u hk _=>?_
      .have hi:Ji its ns:=by simpa using kW rv1
       obtain⟨t,rfl⟩:=Pr hi i u hu';exact Wm _ _ _ _
      .obtain⟨t,rfl⟩:=_S.wM hk
       exact⟨.int k,⟨t,rfl⟩,by simp only[Rep]⟩
     .cases hs
    |none =>
     rw[hi] at hs;dsimp only at hs;cases ht:xS xs with
     |none=>rw[ht] at hs;cases hs
     |some ks =>
      rw[ht] at hs;dsimp only at hs
      split at hs
      .rename_i hlt
       cases hs;have hlt':=Fc.mp hlt;have:=fW ht;subst this;have at':∀ (i:Ai) (u:Ac),its[i]? = Ab u->∃ b,u=.ref b/\Pe (Bi X.prog X.w) s1.heap (ks.getD i []) b/\∃ vv,qI vv u/\Rep X.K P1 α1 (tpD (ks.getD i [])) vv:=λi u hu'=>by
        have hii:i<its.length:=(Az.mp hu').1;have hik:i<ks.length:=by rw[Aq] at l1;omega
        obtain⟨v,p,q,_⟩:=wC t1 rv1 (j:=i) (by rw[Ay];exact hii)
        have hd:(ks.map tpD).getD i D.non=tpD (ks.getD i []):=by simp[Gs,hik]
        rw[hd] at p;have hu2:its.toArray[i]'(by rw[Ay];exact hii)=u:=by
         rw[An hii] at hu';simpa using hu'
        rw[hu2] at q;obtain⟨b,ws,us,rfl,sq,t,rv,⟨o,ho,hcl,m,hd⟩,_,_⟩:=yH G1.inv G1.rel (show Rep X.K P1 α1 (.tup ((ks.getD i []).map D.int)) v from p)
        cases (show u=Bs b from q)
        have:=yW t;subst this;exact⟨b,rfl,⟨o,us.toArray,m,ho,hcl,hd,by simpa using n8 rv⟩,.ref b,rfl,p⟩
       refine bV (d:=[]) (_S.KC X.prog X.w s1.heap) (_S.MT s1.heap) hc hu G1.inv G1.rel e1 ks (by simpa using l1) (λi u hu'=>?_) (Bx hlt'.1) (λk hk=>?_) tpD λk u hk hm'=>?_
       .obtain⟨b,rfl,q,_⟩:=at' i u hu'
        exact⟨b,rfl,q⟩
       .have:=Be.mp hlt'.2 k hk
        intro z;subst z;cases this
       .obtain⟨i,hi',rfl⟩:=Cd.mp hm'
        obtain⟨b,eb,q,w,rw',pw⟩:=at' i _ (An hi');have:k=ks.getD i []:=_S.isT.inj hk ⟨b,eb,q⟩;rw[this];exact⟨w,rw',pw⟩
      .cases hs
   refine thn main λu s2 h2=>Mu (thn h2 λu' s3 ⟨D,vs',e,hn,I',rp'⟩=>?_);subst e;cases mu with
   |true=>exact⟨.ref D,_,I',rfl,jY G1.rel hn rp' λv' H' P' α' r' e1 e2 rp=>af1 v' H' P' α' r' (G1.same.trans e1) (G1.pre.trans e2) rp⟩
   |false=>exact⟨.ref D,_,I',rfl,wG G1.rel hn rp' λv' H' P' α' r' e1 e2 rp=>af1 v' H' P' α' r' (G1.same.trans e1) (G1.pre.trans e2) rp⟩
end
section
variable {X:Cx}{cm:Ar}{k:Ai}{e:Br}{fa:DE}{p1 p2 pos1 pos2:Ex}{mu:Ar}
theorem cJ (hc:X.calm=true)(hr:RoomC cm k X.A)(hg:Gl X "sorted")(hm:X.mg "sorted" = none)(hg2:Gl X "set")(hm2:X.mg "set" = none)(ha:QE X e fa)(he:Bl [e] X.env=(false,eval e X.env)::Bl [] X.env:=by rfl) :
  QE X (.Call (.Name "sorted" p1) [.Call (.Name "set" p2) [e] [] pos2] [] pos1) (yV mu fa):=⟨cE hc hr.units hg hm hg2 hm2 ha.1 he⟩
end
end _D
section
namespace _D
open PySem PySem.Spec PyProof.Rows _L
mutual
def zC:D->Aa Am
 |.int n=>[1,n]
 |.tup xs=>2::z0 xs
 |_=>[]
def z0:Aa D->Aa Am
 |[]=>[0]
 |x::xs=>zC x++z0 xs
end
mutual
def w9:D->D->Ar
 |.int _,.int _=>true
 |.tup xs,.tup ys=>wO xs ys
 |_,_=>false
def wO:Aa D->Aa D->Ar
 |x::xs,y::ys=>w9 x y&&wO xs ys
 |_,_=>true
end
def ltN (a b:D):Ar:=_H.lexLt (zC a) (zC b)
def trb:Ai->D->Ar
 |_,.int _=>true
 |n+1,.tup xs=>xs.all (trb n)
 |_,_=>false
inductive Tr:Ai->D->Prop
 |int (n:Ai) (i:Am):Tr n (.int i)
 |tup (n:Ai) (xs:Aa D) (h:∀ x∈xs,Tr n x):Tr (n+1) (.tup xs)
theorem G4:∀ {n:Ai} {d:D},trb n d=true->Tr n d:=by
 intro n
 induction n with
 |zero=>intro d h;cases d <;> first|exact .int _ _|exact Cr h
 |succ n ih =>
  intro d h;cases d with
  |int i=>exact .int _ i
  |tup xs=>exact .tup n xs λx hx=>ih (Be.mp (show xs.all (trb n)=true from h) x hx)
  |_=>exact Cr h
theorem yU {n:Ai}{d:D}(h:Tr n d):∃ k r,zC d=k::r/\0<k:=by
 cases h with
 |int _ i=>exact⟨1,[i],rfl,by decide⟩
 |tup n xs=>exact⟨2,z0 xs,rfl,by decide⟩
theorem zN (x:D)(xs:Aa D):z0 (x::xs)=zC x++z0 xs:=rfl
theorem lX:∀ {xs ys:Aa D} {n m:Ai},(∀ x∈xs,Tr n x)->(∀ y∈ys,Tr m y)->(∀ x∈xs,∀ y∈ys,w9 x y=true->∀ r r':Aa Am,_H.lexLt (zC x++r) (zC y++r')=if eqD x y=true then _H.lexLt r r' else ltN x y)->wO xs ys=true ->
  ∀ r r':Aa Am,_H.lexLt (z0 xs++r) (z0 ys++r')=if xE xs ys=true then _H.lexLt r r' else _H.lexLt (z0 xs) (z0 ys)
 |[],[],_,_,_,_,_,_,r,r'=>rfl
 |[],y::ys,_,_,_,h2,_,_,r,r'=>by
  obtain⟨k,t,e,p⟩:=yU (h2 y (by simp))
  rw[Bc (by intro z;cases z),zN,e]
  show _H.lexLt (0::r) (k::_)=_H.lexLt [0] (k::_);rw[_H.lexLt_cons,_H.lexLt_cons,Bc om,Bc om]
 |x::xs,[],_,_,h1,_,_,_,r,r'=>by
  obtain⟨k,t,e,p⟩:=yU (h1 x (by simp))
  rw[Bc (by intro z;cases z),zN,e]
  show _H.lexLt (k::_) (0::r')=_H.lexLt (k::_) [0];rw[_H.lexLt_cons,_H.lexLt_cons,Bc om,Bc om]
 |x::xs,y::ys,_,_,h1,h2,h3,hc,r,r'=>by
  have hc':(w9 x y&&wO xs ys)=true:=hc;rw[Au] at hc';have ih:=lX (λz hz=>h1 z (by simp[hz])) (λz hz=>h2 z (by simp[hz])) (λz hz y' hy=>h3 z (by simp[hz]) y' (by simp[hy])) hc'.2
  rw[zN,zN,Fl,Fl,h3 x (by simp) y (by simp) hc'.1,h3 x (by simp) y (by simp) hc'.1,ih,lJ]
  cases eqD x y <;> cases xE xs ys <;> simp
theorem VX {n:Ai}{a:D}(ha:Tr n a):∀ {m:Ai} {b:D},Tr m b->w9 a b=true->∀ r r':Aa Am,_H.lexLt (zC a++r) (zC b++r')=if eqD a b=true then _H.lexLt r r' else ltN a b:=by
 induction ha with
 |int n i =>
  intro m b hb hc r r';cases hb with
  |int _ j =>
   show _H.lexLt (1::i::r) (1::j::r')=if (i == j)=true then _ else _H.lexLt [1,i] [1,j]
   simp only[_H.lexLt_cons,Dt,Pa]
   split <;> rfl
  |tup _ ys=>exact Cr hc
 |tup n xs hx ih =>
  intro m b hb hc r r';cases hb with
  |int _ j=>exact Cr hc
  |tup m ys hy =>
   have h:=lX hx hy (λx hx' y hy' hc'=>ih x hx' (hy y hy') hc') hc r r';show _H.lexLt (2::(z0 xs++r)) (2::(z0 ys++r'))=if xE xs ys=true then _ else _H.lexLt (2::z0 xs) (2::z0 ys)
   rw[_H.lexLt_cons,_H.lexLt_cons,Bb rfl,Bb rfl,h]
theorem nM {xs ys:Aa D}:ltN (.tup xs) (.tup ys)=_H.lexLt (z0 xs) (z0 ys):=by
 show _H.lexLt (2::_) (2::_)=_;rw[_H.lexLt_cons,Bb rfl]
theorem pL {n m:Ai}{x y:D}{xs ys:Aa D}(hx:Tr n x)(hy:Tr m y)(hc:w9 x y=true):_H.lexLt (z0 (x::xs)) (z0 (y::ys))=if eqD x y=true then _H.lexLt (z0 xs) (z0 ys) else ltN x y:=VX hx hy hc _ _
set_option tactic.hygienic true in
theorem nK (i j:Am):ltN (.int i) (.int j)=decide (i<j):=by
 show _H.lexLt [1,i] [1,j]=_;rw[_H.lexLt_cons,Bb rfl,_H.lexLt_cons]
 split
 .rename_i h;subst h;simp[_H.lexLt_nil_nil]
 .rfl
theorem lF:∀ {xs ys:Aa D} {n m:Ai},(∀ x∈xs,Tr n x)->(∀ y∈ys,Tr m y)->(∀ x∈xs,∀ y∈ys,∀ r r':Aa Am,zC x++r=zC y++r'->x=y/\r=r')->∀ r r':Aa Am,z0 xs++r=z0 ys++r'->xs=ys/\r=r'
 |[],[],_,_,_,_,_,r,r',e=>⟨rfl,by injection e⟩
 |[],y::ys,_,_,_,h2,_,r,r',e=>by
  obtain⟨k,t,e',p⟩:=yU (h2 y (by simp))
  rw[zN,e'] at e;injection e with e1 e2
  omega
 |x::xs,[],_,_,h1,_,_,r,r',e=>by
  obtain⟨k,t,e',p⟩:=yU (h1 x (by simp))
  rw[zN,e'] at e;injection e with e1 e2
  omega
 |x::xs,y::ys,_,_,h1,h2,h3,r,r',e=>by
  rw[zN,zN,Fl,Fl] at e;obtain⟨e1,e2⟩:=h3 x (by simp) y (by simp) _ _ e
  obtain⟨e3,e4⟩:=lF (λz hz=>h1 z (by simp[hz])) (λz hz=>h2 z (by simp[hz])) (λz hz y' hy=>h3 z (by simp[hz]) y' (by simp[hy])) _ _ e2
  exact⟨by rw[e1,e3],e4⟩
theorem Z7 {n:Ai}{a:D}(ha:Tr n a):∀ {m:Ai} {b:D},Tr m b->∀ r r':Aa Am,zC a++r=zC b++r'->a=b/\r=r':=by
 induction ha with
 |int n i =>
  intro m b hb r r' e;cases hb with
  |int _ j=>injection e with _ e;injection e with e1 e2;exact⟨by rw[e1],e2⟩
  |tup _ ys=>injection e with e _;cases e
 |tup n xs hx ih =>
  intro m b hb r r' e;cases hb with
  |int _ j=>injection e with e _;cases e
  |tup m ys hy =>
   injection e with _ e
   obtain⟨e1,e2⟩:=lF hx hy (λx hx' y hy'=>ih x hx' (hy y hy')) r r' e;exact⟨by rw[e1],e2⟩
theorem fF {n m:Ai}{a b:D}(ha:Tr n a)(hb:Tr m b)(e:zC a=zC b):a=b:=(Z7 ha hb [] [] (by rw[e])).1
theorem NU {n:Ai}{a:D}(ha:Tr n a):eqD a a=true:=by
 induction ha with
 |int n i=>show (i == i)=true;simp
 |tup n xs _ ih =>
  show xE xs xs=true;rw[wX];simp only[So,BEq.rfl,Wh,Be,Ei];intro j hj;exact ih _ (by simp[Gs,hj])
theorem kK:∀ {xs ys:Aa D},wO xs ys=true->∀ {j:Ai} {x y:D},xs[j]? = Ab x->ys[j]? = Ab y->w9 x y=true
 |[],_,_,j,x,y,e,_=>by simp at e
 |_::_,[],_,j,x,y,_,e=>by simp at e
 |a::xs,b::ys,h,j,x,y,e1,e2=>by
  have h':(w9 a b&&wO xs ys)=true:=h;rw[Au] at h';cases j with
  |zero=>cases e1;cases e2;exact h'.1
  |succ j=>exact kK h'.2 (j:=j) (by simpa using e1) (by simpa using e2)
theorem D2 {a b c:D}(h1:ltN a b=false)(h2:ltN b c=false):ltN a c=false:=by
 cases h:ltN a c with
 |false=>rfl
 |true =>
  rcases _S.x8.tri h2 with e|e
  .exact absurd (show ltN a b=true by unfold ltN at *;rw[e];exact h) (by rw[h1];simp)
  .exact absurd (show ltN a b=true from _S.x8.tr h e) (by rw[h1];simp)
def pQ (xs:Aa D):Aa D:=_S.yR ltN xs
theorem jD (xs:Aa D):(pQ xs).Perm xs:=_S.y0 xs
theorem dH (xs:Aa D):(pQ xs).map zC=_S.yR _H.lexLt (xs.map zC):=by
 refine _S.jZ _S.x8 ?_ (_S.kF _S.x8 _) (((jD xs).map zC).trans (_S.y0 _).symm);unfold _S.Nf;rw[Dr];have:=Sw (le:=λa b=>!ltN b a) (λa b c h1 h2=>?_) (λa b=>?_) xs
 .exact this.imp λ{a b} h=>show ltN b a=false by simpa using h
 .simp only[Qt] at *
  exact D2 h2 h1
 .cases h:ltN b a with
  |false=>simp
  |true =>
   cases h':ltN a b with
   |false=>simp[h']
   |true=>exact absurd (_S.x8.tr h h') (by rw[_S.x8.irr];simp)
theorem BR {xs ys:Aa D}(h:∀ x∈xs,∀ y∈ys,zC x=zC y->x=y)(e:xs.map zC=ys.map zC):xs=ys:=by
 induction xs generalizing ys with
 |nil=>cases ys with
  |nil=>rfl
  |cons y ys=>cases e
 |cons x xs ih =>
  cases ys with
  |nil=>cases e
  |cons y ys =>
   injection e with e1 e2
   rw[h x (by simp) y (by simp) e1,ih (λa ha b hb=>h a (by simp[ha]) b (by simp[hb])) e2]
theorem M1 {n:Ai}{xs ys:Aa D}(h:∀ x∈xs,Tr n x)(p:ys.Perm xs)(s:ys.Pairwise λa b=>ltN b a=false):pQ xs=ys:=by
 refine BR (λa ha b hb=>fF (h a ((jD xs).mem_iff.mp ha)) (h b (p.mem_iff.mp hb))) ?_;rw[dH];refine _S.jZ _S.x8 (_S.kF _S.x8 _) ?_ ((_S.y0 _).trans (p.map zC).symm);unfold _S.Nf;rw[Dr];exact s
end _D
end
namespace _D
open PySem PySem.Spec PyProof.Rows _L PySem.SeqAt
variable {xs:Aa D}{n:Ai}{h:Bj}{A:Bo}
def iV (A:Bo)(s:Ah)(u v:Ac)(c:Ar):Prop:=∀ (prog:Bd) (w:Bt) (E:Ac->Ah->Prop) (Q:Ac->Ah->Prop),Q (.bool c) s->Ap (As prog w) A (Za .Lt u v) Q E s
inductive LexV (A:Bo)(s:Ah):Aa Ac->Aa Ac->Ar->Prop
 |nn:LexV A s [] [] false
 |nc (v:Ac) (vs:Aa Ac):LexV A s [] (v::vs) true
 |cn (u:Ac) (us:Aa Ac):LexV A s (u::us) [] false
 |eq (u v:Ac) (us vs:Aa Ac) (b:Ar) (he:wE A s u v true) (h:LexV A s us vs b):LexV A s (u::us) (v::vs) b
 |ne (u v:Ac) (us vs:Aa Ac) (b:Ar) (he:wE A s u v false) (h:iV A s u v b):LexV A s (u::us) (v::vs) b
section
open PySem.SeqAt
open PySem.AutoSeq1 (wpAny_loadPart')
open PySem.MeetsSeq PySem.MeetsSeq2 PySem.MeetsSeq3
theorem QM (l b:Af)(items items2:Bn Ac)(n n2:Ai)(dd dd2:Al Af)(sl sl2:Bn (Al Ac))(r:Ar) :
  Meets (Hl.«tuple.__lt__» ⟨[.ref l,.ref b],[]⟩)
   (λA R s=>s.heap.get? l=Ab { cls:=.type "tuple",dict:=dd,data:=.seq items n,slots:=sl } /\ s.heap.get? b=Ab { cls:=.type "tuple",dict:=dd2,data:=.seq items2 n2,slots:=sl2 } /\
    LexV A.in1 s items.toList items2.toList r/\R (.ok (.ret (.bool r))) s):=
 .of_wp λprog w A R s h=>by
  obtain⟨hp,g,d,tk,os⟩:=s;obtain⟨hl,hb,hx,h⟩:=h;have f2:=Rk
  wp_walk using wpAny_loadPart' hl,wpAny_loadPart' hb,Kw _ (λrest b s'=>b.1=none/\s'=⟨hp,g,d,tk,os⟩/\∃ (us vs:Aa Ac),rest=us.zip vs/\LexV A.in1 ⟨hp,g,d,tk,os⟩ us vs r/\us.length+items2.size=vs.length+items.size) _
  case turn =>
   rintro⟨y,x⟩ rest b s' ⟨hb',rfl,us,vs,hz,hx',hlen⟩;cases hx' with
   |nn=>cases hz
   |nc v vs=>cases hz
   |cn u us=>cases hz
   |eq u v us vs _ he h' =>
    rw[Ih] at hz;injection hz with hyx hrest
    injection hyx with hy hx
    subst hy hx;refine Ad (he prog w _ _ ?_)
    wp_walk
    exact⟨rfl,rfl,_,_,hrest,h',by simp only[Ch] at hlen;omega⟩
   |ne u v us vs _ he h' =>
    rw[Ih] at hz;injection hz with hyx hrest
    injection hyx with hy hx
    subst hy hx;refine Ad (he prog w _ _ ?_);have hri:=h' prog w
    wp_walk using hri
    exact⟨_,rfl,by simpa using h⟩
  case fin =>
   rintro⟨b1,b2⟩ s' ⟨hb',rfl,us,vs,hz,hx',hlen⟩;simp only at hb';subst hb';have hv:r=decide (items.size<items2.size):=by
    cases hx' with
    |nn=>simp only[Ez] at hlen;exact(Cn om).symm
    |nc v vs=>simp only[Ez,Ch] at hlen;exact(Cy om).symm
    |cn u us=>simp only[Ez,Ch] at hlen;exact(Cn om).symm
    |eq u v us vs _ he h'=>cases hz
    |ne u v us vs _ he h'=>cases hz
   rw[hv] at h
   wp_walk
   exact⟨_,rfl,by simpa [Nn] using h⟩
  case h =>
   exact⟨rfl,rfl,items.toList,items2.toList,rfl,hx,by simp;omega⟩
end
theorem U0 {s:Ah}{l b:Af}{items items2:Bn Ac}{r:Ar}(hl:s.heap.IsTuple l items)(hb:s.heap.IsTuple b items2)(hu:A.units<Dw)(h:LexV A.in1 s items.toList items2.toList r):iV A s (.ref l) (.ref b) r:=by
 intro prog w E Q hQ;obtain⟨⟨cls,dd,data,sl⟩,ho,hc,n,hd⟩:=id hl;obtain⟨⟨cls2,dd2,data2,sl2⟩,ho2,hc2,n2,hd2⟩:=id hb;simp only at hc hd hc2 hd2;subst hc hd hc2 hd2;exact Tj (op:=.Lt) ⟨_,ho,rfl⟩ ⟨_,ho2,rfl⟩ Uh Tk (Sl _ _) (QM l b items items2 n n2 dd dd2 sl sl2 r)
  ⟨ho,ho2,h,show Fp r≠Vl/\Q (.bool r) s from⟨(λx=>nomatch x),hQ⟩⟩ hu
inductive TrV (h:Bj):Ai->D->Ac->Prop
 |int (n:Ai) (i:Am) (t:Pi):TrV h n (.int i) (.int i t)
 |tup (n:Ai) (a:Af) (xs:Aa D) (its:Aa Ac) (ht:h.IsTuple a its.toArray) (hl:xs.length=its.length) (hs:∀ (j:Ai) (x:D) (v:Ac),xs[j]? = Ab x->its[j]? = Ab v->TrV h n x v):TrV h (n+1) (.tup xs) (.ref a)
theorem TrV.tr {d:D}{v:Ac}(t:TrV h n d v):Tr n d:=by
 induction t with
 |int n i t=>exact .int n i
 |tup n a xs its ht hl hs ih =>
  refine .tup n xs λx hx=>?_;obtain⟨j,hj,e⟩:=Cd.mp hx;exact ih j x (its[j]' om) (by rw[An hj,e]) (An om)
theorem TrV.sup {h':Bj}(S:_S.Sup h h'){n:Ai}{d:D}{v:Ac}(t:TrV h n d v):TrV h' n d v:=by
 induction t with
 |int n i t=>exact .int n i t
 |tup n a xs its ht hl hs ih =>
  obtain⟨o,ho,r⟩:=ht;exact .tup n a xs its ⟨o,S _ _ ho,r⟩ hl ih
theorem TrV.det {d:D}{v:Ac}(t:TrV h n d v):∀ {m:Ai} {d':D},TrV h m d' v->d=d':=by
 induction t with
 |int n i t=>intro m d' t';cases t' with|int _ _ _=>rfl
 |tup n a xs its ht hl hs ih =>
  intro m d' t';cases t' with
  |tup m _ ys its2 ht2 hl2 hs2 =>
   have e:=n6 ht ht2;have e':its=its2:=by simpa using congrArg Xj e
   subst e';have:xs=ys:=Nw om λj h1 h2=>ih j _ (its[j]' om) (An h1) (An om) (hs2 j _ _ (An h2) (An om));rw[this]
theorem TrV.eq {s:Ah}{a:D}{u:Ac}(t:TrV s.heap n a u):∀ {m:Ai} {b:D} {v:Ac} {A:Bo},TrV s.heap m b v->w9 a b=true->A.units+n<Dw->wE A s u v (eqD a b):=by
 induction t with
 |int n i t =>
  intro m b v A t' hc hu;cases t' with
  |int _ j t'=>exact EqAt.int_int i t j t'
  |tup _ _ _ _ _ _ _=>exact Cr hc
 |tup n a xs its ht hl hs ih =>
  intro m b v A t' hc hu;cases t' with
  |int _ j t'=>exact Cr hc
  |tup m b ys its2 ht2 hl2 hs2 =>
   refine(K2 om ht ht2 hl hl2 (λj h1 h2=>?_) λe=>?_).eq
   .have h1':j<its.length:=by simpa using h1
    have h2':j<its2.length:=by simpa using h2
    have e1:xs[j]? = Ab (xs.getD j .non):=by simp[Gs,show j<xs.length by omega]
    have e2:ys[j]? = Ab (ys.getD j .non):=by simp[Gs,show j<ys.length by omega]
    have f1:its[j]? = Ab its.toArray[j]:=by simp[h1']
    have f2:its2[j]? = Ab its2.toArray[j]:=by simp[h2']
    exact ih j _ _ e1 f1 (hs2 j _ _ e2 f2) (kK hc e1 e2) (by show A.units+1+n<Dw;omega)
   .subst e
    have:=TrV.det (.tup n a xs its ht hl hs) (.tup m a ys its2 ht2 hl2 hs2);injection this with this
    subst this;exact NU (TrV.tr (.tup n a xs its ht hl hs))
theorem aL {s:Ah}:∀ {xs ys:Aa D} {us vs:Aa Ac} {n m:Ai},xs.length=us.length->ys.length=vs.length->(∀ x∈xs,Tr n x)->(∀ y∈ys,Tr m y)->wO xs ys=true ->
  (∀ (j:Ai) (x y:D) (u v:Ac),xs[j]? = Ab x->ys[j]? = Ab y->us[j]? = Ab u->vs[j]? = Ab v->wE A s u v (eqD x y)/\iV A s u v (ltN x y))->LexV A s us vs (_H.lexLt (z0 xs) (z0 ys))
 |[],[],[],[],_,_,_,_,_,_,_,_=>.nn
 |[],y::ys,[],v::vs,_,_,_,_,_,h2,_,_=>by
  obtain⟨k,t,e,p⟩:=yU (h2 y (by simp))
  have:_H.lexLt (z0 []) (z0 (y::ys))=true:=by
   rw[zN,e];show _H.lexLt [0] (k::_)=_;rw[_H.lexLt_cons,Bc om];exact Cy p
  rw[this];exact .nc v vs
 |x::xs,[],u::us,[],_,_,_,_,h1,_,_,_=>by
  obtain⟨k,t,e,p⟩:=yU (h1 x (by simp))
  have:_H.lexLt (z0 (x::xs)) (z0 []) = false:=by
   rw[zN,e];show _H.lexLt (k::_) [0]=_;rw[_H.lexLt_cons,Bc om];exact Cn om
  rw[this];exact .cn u us
 |x::xs,y::ys,u::us,v::vs,_,_,l1,l2,h1,h2,hc,h=>by
  have hc':(w9 x y&&wO xs ys)=true:=hc;rw[Au] at hc';obtain⟨e1,e2⟩:=h 0 x y u v rfl rfl rfl rfl;rw[pL (h1 x (by simp)) (h2 y (by simp)) hc'.1]
  cases hq:eqD x y with
  |true =>
   rw[hq] at e1;exact .eq u v us vs _ e1 (aL (by simpa using l1) (by simpa using l2) (λz hz=>h1 z (by simp[hz])) (λz hz=>h2 z (by simp[hz])) hc'.2 λj a b c d q1 q2 q3 q4=>h (j+1) a b c d (by simpa using q1) (by simpa using q2) (by simpa using q3) (by simpa using q4))
  |false =>
   rw[hq] at e1;exact .ne u v us vs _ e1 e2
 |[],_,_::_,_,_,_,l1,_,_,_,_,_=>by simp at l1
 |_::_,_,[],_,_,_,l1,_,_,_,_,_=>by simp at l1
 |_,[],_,_::_,_,_,_,l2,_,_,_,_=>by simp at l2
 |_,_::_,_,[],_,_,_,l2,_,_,_,_=>by simp at l2
theorem TrV.lt {s:Ah}{a:D}{u:Ac}(t:TrV s.heap n a u):∀ {m:Ai} {b:D} {v:Ac} {A:Bo},TrV s.heap m b v->w9 a b=true->A.units+n<Dw->iV A s u v (ltN a b):=by
 induction t with
 |int n i t =>
  intro m b v A t' hc hu;cases t' with
  |int _ j t' =>
   intro prog w E Q hQ;rw[nK] at hQ;exact(Ox hQ:Ap (As prog w) A (Cu .Lt (.int i t) (.int j t')) Q E s)
  |tup _ _ _ _ _ _ _=>exact Cr hc
 |tup n a xs its ht hl hs ih =>
  intro m b v A t' hc hu;cases t' with
  |int _ j t'=>exact Cr hc
  |tup m b ys its2 ht2 hl2 hs2 =>
   have t1:=TrV.tr (.tup n a xs its ht hl hs);have t2:=TrV.tr (.tup m b ys its2 ht2 hl2 hs2);cases t1 with
   |tup _ _ t1 =>
    cases t2 with
    |tup _ _ t2 =>
     refine U0 ht ht2 om ?_;rw[nM];refine aL (by simpa using hl) (by simpa using hl2) t1 t2 hc λj x y u v e1 e2 e3 e4=>?_
     have hu':A.in1.units+n<Dw:=by show A.units+1+n<Dw;omega
     have e3':its[j]? = Ab u:=by simpa using e3
     have e4':its2[j]? = Ab v:=by simpa using e4
     exact⟨(hs j x u e1 e3').eq (hs2 j y v e2 e4') (kK hc e1 e2) hu',ih j x u e1 e3' (hs2 j y v e2 e4') (kK hc e1 e2) hu'⟩
section
variable {X:Cx}{pins:Aa (Af × Ci)}{σ : _L.St}{H P:Hp}{α : Aa Af}{S:Sto}{s:Ah}
theorem WX (I:Inv X pins σ H s)(r:Rel X.K H P α S):∀ (n:Ai) {d:D} {v:V} {u:Ac},trb n d=true->Rep X.K P α d v->qI v u->TrV s.heap n d u:=by
 intro n
 induction n with
 |zero =>
  intro d v u h p q;cases d with
  |int i=>simp only[Rep] at p;subst p;obtain⟨t,rfl⟩:=q;exact .int _ i t
  |_=>exact Cr h
 |succ n ih =>
  intro d v u h p q;cases d with
  |int i=>simp only[Rep] at p;subst p;obtain⟨t,rfl⟩:=q;exact .int _ i t
  |tup xs =>
   obtain⟨a,vs,its,rfl,q1,t1,rv1,h1,l1,_⟩:=yH I r p;cases (show u=Bs a from q)
   have la:=t1.length;have lb:=rv1.length;refine .tup n a xs its h1 om λj x w e1 e2=>?_;obtain⟨y,f1,f2⟩:=t1.get e1;obtain⟨z,g1,g2⟩:=rv1.get f1;cases g1.symm.trans e2;exact ih (Be.mp (show xs.all (trb n)=true from h) x (Bk e1)) f2 g2
  |_=>exact Cr h
end
def neT:D->Ar
 |.tup (_::_)=>true
 |_=>false
def sOk (xs:Aa D):Ar:=xs.all λa=>neT a&&trb 6 a&&xs.all λb=>w9 a b
theorem uX (h:sOk xs=true){x:D}(hx:x∈xs):neT x=true/\Tr 6 x/\∀ y∈xs,w9 x y=true:=by
 have:=Be.mp h x hx;simp only[Au] at this;exact⟨this.1.1,G4 this.1.2,λy hy=>Be.mp this.2 y hy⟩
def tyF:D->Ac
 |.tup (.int _::_)=>.type "int"
 |_=>.type "tuple"
def isN (h:Bj)(k:Aa Am)(v:Ac):Prop:=∃ d,TrV h 6 d v/\zC d=k
section
open PySem.W
variable {prog:Bd}{w:Bt}{h0:Bj}
theorem rX {s:Ah}{b:Ar}{Q:Ar->Ah->Prop}:∀ {xs ys:Aa D} {us vs:Aa Ac} {n m i N M:Ai},xs.length=us.length->ys.length=vs.length ->
  (∀ (j:Ai) (x:D) (u:Ac),xs[j]? = Ab x->us[j]? = Ab u->TrV s.heap n x u)->(∀ (j:Ai) (x:D) (u:Ac),ys[j]? = Ab x->vs[j]? = Ab u->TrV s.heap m x u)->wO xs ys=true->A.units+n<Dw->((b&&i == 0)=true->∀ x,xs[0]? = Ab x->∃ j,x=.int j) ->
  N+vs.length=M+us.length->Q (_H.lexLt (z0 xs) (z0 ys)) s->KatLex prog w A b (decide (N<M)) Q (us.zip vs) i s
 |[],[],[],[],_,_,_,N,M,_,_,_,_,_,_,_,hl,h=>by
  have:decide (N<M)=false:=Cn (by simp at hl;omega)
  rw[this];exact h
 |[],y::ys,[],v::vs,_,_,_,N,M,_,_,_,h2,_,_,_,hl,h=>by
  have:decide (N<M)=true:=Cy (by simp at hl;omega)
  rw[this];obtain⟨k,t,e,p⟩:=yU (h2 0 y v rfl rfl).tr;rw[zN,e] at h;have q:_H.lexLt (z0 []) (k::t++z0 ys)=true:=by
   show _H.lexLt [0] (k::_)=_;rw[_H.lexLt_cons,Bc om];exact Cy p
  rw[q] at h;exact h
 |x::xs,[],u::us,[],_,_,_,N,M,_,_,h1,_,_,_,_,hl,h=>by
  have:decide (N<M)=false:=Cn (by simp at hl;omega)
  rw[this];obtain⟨k,t,e,p⟩:=yU (h1 0 x u rfl rfl).tr;rw[zN,e] at h;have q:_H.lexLt (k::t++z0 xs) (z0 []) = false:=by
   show _H.lexLt (k::_) [0]=_;rw[_H.lexLt_cons,Bc om];exact Cn om
  rw[q] at h;exact h
 |x::xs,y::ys,u::us,v::vs,n,m,i,N,M,l1,l2,h1,h2,hc,hu,hb,hl,h=>by
  have hc':(w9 x y&&wO xs ys)=true:=hc;rw[Au] at hc';have t1:=h1 0 x u rfl rfl;have t2:=h2 0 y v rfl rfl;rw[pL t1.tr t2.tr hc'.1] at h;rw[Ih];refine kat_cons (t1.eq t2 hc'.1 hu prog w _ _ ?_);refine kat_go (λe=>kat_yes ?_) λe=>kat_no ?_
  .rw[Bb e] at h
   refine rX (n:=n) (m:=m) (by simpa using l1) (by simpa using l2) (λj a b e1 e2=>h1 (j+1) a b (by simpa using e1) (by simpa using e2)) (λj a b e1 e2=>h2 (j+1) a b (by simpa using e1) (by simpa using e2)) hc'.2 hu (λz=>?_) (by simp at hl;omega) h
   simp at z
  .rw[Bc (by rw[e];simp)] at h
   cases hq:b&&i == 0 with
   |true =>
    obtain⟨j,rfl⟩:=hb hq x rfl;cases t1 with
    |int _ _ t =>
     cases t2 with
     |int _ k t' =>
      rw[nK] at h;exact oneLt_int h
     |tup _ _ _ _ _ _ _=>exact Cr hc'.1
   |false=>exact kat_one _ _ (t1.lt t2 hc'.1 hu prog w _ _ h)
 |[],_,_::_,_,_,_,_,_,_,l1,_,_,_,_,_,_,_,_=>by simp at l1
 |_::_,_,[],_,_,_,_,_,_,l1,_,_,_,_,_,_,_,_=>by simp at l1
 |_,[],_,_::_,_,_,_,_,_,_,l2,_,_,_,_,_,_,_=>by simp at l2
 |_,_::_,_,[],_,_,_,_,_,_,l2,_,_,_,_,_,_,_=>by simp at l2
theorem MB {ys:Aa D}(hc:w9 (.tup xs) (.tup ys)=true)(h1:xs≠[])(h2:ys≠[]){n m:Ai}(t1:Tr n (.tup xs))(t2:Tr m (.tup ys)):tyF (.tup xs)=tyF (.tup ys):=by
 cases xs with
 |nil=>exact absurd rfl h1
 |cons x xs =>
  cases ys with
  |nil=>exact absurd rfl h2
  |cons y ys =>
   have hc':(w9 x y&&wO xs ys)=true:=hc;rw[Au] at hc';cases t1 with
   |tup _ _ t1 =>
    cases t2 with
    |tup _ _ t2 =>
     have a1:=t1 x (by simp)
     have a2:=t2 y (by simp)
     cases a1 with
     |int _ i=>cases a2 with
      |int _ j=>rfl
      |tup _ _ _=>exact Cr hc'.1
     |tup _ _ _=>cases a2 with
      |int _ j=>exact Cr hc'.1
      |tup _ _ _=>rfl
theorem G9 {M:Mr}{T:Ac}:∀ {vs:Aa Ac},(∀ v∈vs,∃ d,TrV h 6 d v/\neT d=true/\tyF d=T)->∃ fs,KatTups h vs fs/\fs.length=vs.length/\∀ f∈fs,Looks M h (typeOf f) T
 |[],_=>⟨[],trivial,rfl,λf hf=>by simp at hf⟩
 |v::vs,hv=>by
  obtain⟨fs,a1,a2,a3⟩:=G9 (M:=M) (vs:=vs) λu hu=>hv u (by simp[hu])
  obtain⟨d,t,hn,ht⟩:=hv v (by simp)
  cases t with
  |int _ _ _=>cases hn
  |tup n a xs its hi hl hs =>
   cases xs with
   |nil=>cases hn
   |cons x xs =>
    cases its with
    |nil=>simp at hl
    |cons f its =>
     obtain⟨o,ho,hc,k,hd⟩:=hi;refine⟨f::fs,AaL ho hc hd rfl a1,by simp[a2],λg hg=>?_⟩
     rcases Aw.mp hg with rfl|hg
     .have q:=hs 0 x g rfl rfl
      cases q with
      |int _ i tk =>
       rw[<- ht];exact AaC rfl
      |tup _ b ys jts hi2 _ _ =>
       obtain⟨o2,ho2,hc2,_⟩:=hi2;rw[<- ht,show tyF (.tup (.tup ys::xs))=o2.cls from hc2.symm]
       exact(Looks.ld ho2).andThen .now
     .exact a3 g hg
theorem TF (ok:sOk xs=true){vs:Aa Ac}{ks:Aa (Aa Am)}(hl:vs.length=ks.length)(hv:∀ i v,vs[i]? = Ab v->isN h0 (ks.getD i []) v)(hf:∀ k∈ks,∃ x∈xs,zC x=k)(h2:2<=vs.length):_S.Cmps prog w h0 vs (_S.jH _H.lexLt ks []):=by
 have at':∀ i (hi:i<vs.length),∃ d,d∈xs/\TrV h0 6 d (vs.getD i Er)/\zC d=ks.getD i []:=λi hi=>by
  obtain⟨d,t,e⟩:=hv i vs[i] (An hi);obtain⟨x,hx,e2⟩:=hf (ks.getD i []) (by simp[Gs,show i<ks.length by omega])
  have:=fF t.tr (uX ok hx).2.1 (e.trans e2.symm);subst this;exact⟨d,hx,by simpa [Gs,hi] using t,e⟩
 obtain⟨d0,hd0,_,_⟩:=at' 0 om;have ty:∀ d∈xs,tyF d=tyF d0:=λd hd=>by
  obtain⟨n1,t1,c1⟩:=uX ok hd;obtain⟨n2,t2,_⟩:=uX ok hd0;have c:=c1 d0 hd0;cases d with
  |tup as =>
   cases d0 with
   |tup bs=>exact MB c (λz=>by subst z;cases n1) (λz=>by subst z;cases n2) t1 t2
   |_=>cases n2
  |_=>cases n1
 refine⟨tuples' (tyF d0 != Gk "tuple"),λA hu s hS=>⟨λQ E h=>?_,λi j C hi hj h=>?_⟩⟩
 .obtain⟨fs,a1,a2,a3⟩:=G9 (M:=As prog w) (h:=s.heap) (T:=tyF d0) (vs:=vs) λv hm=>by
   obtain⟨i,hi,e⟩:=Cd.mp hm;obtain⟨d,q1,q2,_⟩:=at' i hi;have:vs.getD i Er=v:=by simp[Gs,hi,e]
   rw[this] at q2;exact⟨d,q2.sup hS,(uX ok q1).1,ty d q1⟩
  refine kat_kind a1 om a3 ?_ h;unfold tyF
  split <;> decide
 .obtain⟨a,a1,a2,a3⟩:=at' i hi
  obtain⟨b,b1,b2,b3⟩:=at' j hj;unfold _S.jH at h;unfold kas_ask;rw[<- a3,<- b3] at h;have t1:=a2.sup hS;have t2:=b2.sup hS;obtain⟨n1,_,c1⟩:=uX ok a1;obtain⟨n2,_,_⟩:=uX ok b1;have tya:=ty a a1;have c:=c1 b b1;generalize vs.getD i Er=u at *;generalize vs.getD j Er=v at *;cases t1 with
  |int _ _ _=>cases n1
  |tup n p ps its hi1 l1 s1 =>
   cases t2 with
   |int _ _ _=>cases n2
   |tup m q qs jts hi2 l2 s2 =>
    obtain⟨o1,ho1,_,k1,d1⟩:=hi1;obtain⟨o2,ho2,_,k2,d2⟩:=hi2;have h':C (_H.lexLt (z0 ps) (z0 qs)) s:=by
     have:=@nM ps qs;unfold ltN at this;rw[this] at h;exact h
    refine kat_lt ho1 d1 ho2 d2 (rX (n:=5) (m:=5) l1 l2 s1 s2 c om (λz x hx=>?_) (by simp;omega) h')
    rw[<- tya] at z;cases ps with
    |nil=>cases hx
    |cons x' ps =>
     cases hx;cases x with
     |int i=>exact⟨i,rfl⟩
     |_=>exact absurd z (by simp[tyF])
theorem HU (ok:sOk xs=true):_S.Kind prog w (isN h0) (λ_=>0) _H.lexLt [] (λk=>∃ x∈xs,zC x=k) h0:=
 ⟨_S.x8,λ{k k' v} ⟨d,t,e⟩ ⟨d',t',e'⟩=>by rw[<- e,<- e',t.det t'],λh1 h2 h3 h4=>TF ok h1 h2 h3 h4⟩
end
end _D
namespace _D
open PySem PySem.Spec PyProof.Rows _L
variable {Q:Ac->Ah->Prop}
def vS (d:D)(S:Sto):Al (Aa (Key × D)):=match d with
 |.loc n=>match S[n]? with
  |some (.dct kvs)=>Ab kvs
  |_=>none
 |_=>none
def fK:G2:=λa b S=>match vS a S,yO b with
 |some kvs,Ab k=>match xA kvs k with
  |some d=>.ok d S
  |none=>.bad
 |_,_=>.bad
section
variable {X:Cx}{pins:Aa (Af × Ci)}{σ : _L.St}{H P:Hp}{α : Aa Af}{S:Sto}{s:Ah}
set_option tactic.hygienic true in
theorem ZI (r:Rel X.K H P α S){d:D}{kvs:Aa (Key × D)}{v:V}(h:vS d S=Ab kvs)(p:Rep X.K P α d v):∃ a ws,v=.ref a/\H a=Ab (.dK ws)/\KVs X.K P α kvs ws:=by
 unfold vS at h
 split at h
 .split at h
  .rename_i hS
   cases h;simp only[Rep] at p;obtain⟨b,rfl,q⟩:=p;obtain⟨ws,z,t⟩:=r.at' _ b _ q hS;exact⟨b,ws,rfl,z,t⟩
  .cases h
 .cases h
set_option tactic.hygienic true in
theorem N1 {o i:Br}{fo fi:DE}{pos:Ex}(hu:X.A.units+1<Dw)(ho:PE X o (tD X fo))(hi:PE X i (tD X fi))(hs:YD i:=by intro _ _;rfl):PE X (.Subscript o i pos) (tD X (d2 fK fo fi)):=by
 intro pins s σ H Q I h;obtain⟨P,α,env,S,r,re,af⟩:=h;refine M5 PySem.F.slot_dict_getitem.lookup hs (thn (zK ho I r re af) λvv s1 ⟨v,H1,P1,α1,a,S1,G1,af1⟩=>?_);refine thn (zK hi G1.inv G1.rel G1.env (P:=P1) (α:=α1) (Ok:=OkV X P1 α1 Q) (g:=λy S2=>fK a y S2) (qR.base G1.same G1.pre af1)) λuu s2 ⟨u,H2,P2,α2,b,S2,G2,af2⟩=>?_;have pa:=Rep.mono G2.same G2.pre _ _ G1.rep;have pb:=G2.rep;have I2:=G2.inv;have r2:=G2.rel;have af3:=qR.base G2.same G2.pre af2;unfold fK at af3
 split at af3
 .rename_i kvs k hd hk
  split at af3
  .rename_i d hv
   obtain⟨p,ws,rfl,z,t⟩:=ZI r2 hd pa;have ei:=mM hk pb;subst ei;cases (show vv=Bs p from G1.val)
   obtain⟨w,h1,h2⟩:=(bB t).1 d hv;have g:uE H2 p (kV k) (Ab w):=.inl ⟨_,k,.inl z,rfl,h1.symm⟩;exact⟨cF I2 g,ZD hu I2 g G2.val λw' s3 I3 rw'=>⟨w,H2,I3,rw',xr af3 r2 h2⟩⟩
  .exact Ao af3
 .exact Ao af3
end
def btN (xs:Aa D)(i j:Ai):Ar:=ltN (xs.getD i .non) (xs.getD j .non)
def eA (xs:Aa D):D:=xs.getD (Ec (btN xs) (xs.length-1)) .non
theorem MX (xs:Aa D):∀ k,Ec (btN xs) k<=k/\∀ j,j<=k->btN xs j (Ec (btN xs) k)=false
 |0=>⟨AT _,λj hj=>by
  have:j=0:=by omega
  subst this;exact _S.x8.irr _⟩
 |k+1=>by
  obtain⟨h1,h2⟩:=MX xs k;rw[Ec];cases h:btN xs (k+1) (Ec (btN xs) k) with
  |true =>
   rw[Bb rfl];refine⟨AT _,λj hj=>?_⟩;cases q:btN xs j (k+1) with
   |false=>rfl
   |true =>
    by_cases hk:j=k+1
    .subst hk;exact absurd (_S.x8.irr _) (by unfold btN ltN at q;rw[q];simp)
    .exact absurd (show btN xs j (Ec (btN xs) k)=true from _S.x8.tr q h) (by rw[h2 j om];simp)
  |false =>
   rw[Bc (by simp)]
   refine⟨by omega,λj hj=>?_⟩
   by_cases hk:j=k+1
   .subst hk;exact h
   .exact h2 j om
theorem XB {xs:Aa D}(h:0<xs.length):eA xs∈xs/\∀ y∈xs,ltN y (eA xs)=false:=by
 obtain⟨h1,h2⟩:=MX xs (xs.length-1);have hm:Ec (btN xs) (xs.length-1)<xs.length:=by omega
 refine⟨by unfold eA;rw[Fo,An hm];exact Hr _,λy hy=>?_⟩
 obtain⟨j,hj,e⟩:=Cd.mp hy;have:=h2 j om;unfold btN at this;rw[Fo,An hj] at this;rw[<- e];exact this
def mOk (xs:Aa D):Ar:=xs.all λa=>trb 6 a&&xs.all λb=>w9 a b
def lsD (d:D)(S:Sto):Al (Aa D):=match d with
 |.lst xs=>Ab xs
 |.loc n=>match S[n]? with
  |some (.lst xs)=>Ab xs
  |_=>none
 |_=>none
section
variable {prog:Bd}{w:Bt}{A:Bo}{R:Sa->Ah->Prop}{I:Af}{fp wr:Aa Af}{n:Ai}{P:Ai->Ac->Prop}{St:Ai->Bj->Prop}{bt:Ai->Ai->Ar}{S:Af}{h0:Bj}{kw:Aa (Av × Ac)}
def YA (prog:Bd)(w:Bt)(A:Bo)(h0:Bj)(op:Uf)(P:Ai->Ac->Prop)(bt:Ai->Ai->Ar):Prop:=
 ∀ i j vi vj (s:Ah) (Q:Ac->Ah->Prop) (E:Ac->Ah->Prop),_S.Sup h0 s.heap->P i vi->P j vj->Q (.bool (bt i j)) s->Ap (As prog w) A (Za op vi vj) Q E s
theorem dZ:(toString "min" ++ toString ".loop" : Ef) = "min.loop":=by decide
theorem U6 (W:Walks prog w A.in1 I fp wr n P St)(hcmp:YA prog w A.in1 h0 .Lt P bt)(hf:S ∉ fp)(hS0:h0.get? S=none)(hw0:∀ b∈wr,h0.get? b=none) :
  ∀ (k j:Ai) (s:Ah) (u:Ac) (c:Ai),j+1+k=n->_S.Sup h0 s.heap->St (j+1) s.heap->P (Ec bt j) u->s.heap.get? S=Ab { cls:=.type "list",dict:=none,data:=.seq #[u,u] c,slots:=#[] } ->
  (∀ v h' tk,P (Ec bt (n-1)) v->(∀ b o,b ∉ wr->b≠S->s.heap.get? b=Ab o->h'.get? b=Ab o)->R (.ok (.ret v)) { s with heap:=h',toks:=tk }) ->
  Go (As prog w) A (.builtin "min.loop" ⟨[.ref I,.none,.ref S],kw⟩) R s:=by
 have hw:S ∉ wr:=λz=>hf (W.sub _ z);intro k
 induction k with
 |zero =>
  intro j s u c hk hs st hu hS hR;have hn:j+1=n:=by omega
  subst hn;refine EQ Nh ?_;rw[Eo Gh _];refine Ad (Ep hS rfl ?_);refine Ad (Hk (W.done s _ _ st λh' tk q=>?_));refine Ad ?_;exact Hy (q S _ hw hS) rfl (Ad (Hs (Ak (hR u _ tk hu λb o z1 z2 e=>(Bg _ _ (El z2)).trans (q b o z1 e)))))
 |succ k ih =>
  intro j s u c hk hs st hu hS hR;refine EQ Nh ?_;rw[Eo Gh _];refine Ad (Ep hS rfl ?_);refine Ad (Hk (W.item (j+1) s _ _ om st λv h' tk hv st' q=>?_));have hS':=q S _ hw hS;have hs':_S.Sup h0 h':=λb o e=>q b o (λz=>by rw[hw0 b z] at e;cases e) (hs b o e)
  refine Ad (Ak ?_);refine Ad (Hk (Ct (Ad (hcmp (j+1) (Ec bt j) v u _ _ _ hs' hv hu ?_))));refine Ad (Ct (Ms ?_));refine Ad (Hs (Ak ?_));cases hb:bt (j+1) (Ec bt j) with
  |true =>
   rw[Bb rfl];refine Ad ?_;refine Hy hS' rfl (Ad (Hs ?_));rw[dZ];refine Ak ⟨Gu Gh _,ih (j+1) _ v _ om (λb o e=>(Bg _ _ λy:S=b=>by rw[<- y,hS0] at e;cases e).trans (hs' b o e)) (W.frame _ _ _ st' λb z o e=>(Bg _ _ λy:S=b=>hf (y▸z)).trans e) ?_ (DL _ hS' rfl) λv' h2 tk2 p2 q2=>hR v' h2 tk2 p2 λb o z1 z2 e=>q2 b o z1 z2 ((Bg _ _ (El z2)).trans (q b o z1 e))⟩
   rw[Ec,Bb hb];exact hv
  |false =>
   rw[Bc (by simp)]
   refine Ad (Hs ?_);rw[dZ];refine Ak ⟨Gu Gh _,ih (j+1) _ u c om hs' st' ?_ hS' λv' h2 tk2 p2 q2=>hR v' h2 tk2 p2 λb o z1 z2 e=>q2 b o z1 z2 (q b o z1 e)⟩;rw[Ec,Bc (by rw[hb];simp)]
   exact hu
theorem XD (W:Walks prog w A.in1 I fp wr n P St)(hcmp:YA prog w A.in1 h0 .Lt P bt)(hf:S ∉ fp)(hS0:h0.get? S=none)(hw0:∀ b∈wr,h0.get? b=none){s:Ah}{c:Ai}(hs:_S.Sup h0 s.heap)(st:St 0 s.heap)(hn:0<n)(hS:s.heap.get? S=Ab { cls:=.type "list",dict:=none,data:=.seq #[] c,slots:=#[] })
  (hR:∀ v h' tk,P (Ec bt (n-1)) v->(∀ b o,b ∉ wr->b≠S->s.heap.get? b=Ab o->h'.get? b=Ab o)->R (.ok (.ret v)) { s with heap:=h',toks:=tk }) :
  Go (As prog w) A (.builtin "min.loop" ⟨[.ref I,.none,.ref S],kw⟩) R s:=by
 have hw:S ∉ wr:=λz=>hf (W.sub _ z);refine EQ Nh ?_;rw[Eo Gh _];refine Ad (Ep hS rfl ?_);refine Ad (Hk (W.item 0 s _ _ hn st λv h' tk hv st' q=>?_));have hS':=q S _ hw hS;have hs':_S.Sup h0 h':=λb o e=>q b o (λz=>by rw[hw0 b z] at e;cases e) (hs b o e)
 refine Ad (Ak ?_);refine Ad ?_;refine Hy hS' rfl ?_;rw[dZ];refine Ak ⟨Gu Gh _,U6 W hcmp hf hS0 hw0 (n-1) 0 _ v _ om (λb o e=>(Bg _ _ λy:S=b=>by rw[<- y,hS0] at e;cases e).trans (hs' b o e)) (W.frame _ _ _ st' λb z o e=>(Bg _ _ λy:S=b=>hf (y▸z)).trans e) hv (DL _ hS' rfl) λv' h2 tk2 p2 q2=>hR v' h2 tk2 p2 λb o z1 z2 e=>q2 b o z1 z2 ((Bg _ _ (El z2)).trans (q b o z1 e))⟩
end
section
variable {prog:Bd}{w:Bt}{A:Bo}{E:Ac->Ah->Prop}{s:Ah}{l:Af}{its:Bn Ac}
theorem U5 {bt:Ai->Ai->Ar}(hh:A.handled=none)(hl:s.heap.IsList l its)(hn:0<its.size)(hcmp:YA prog w A.in1 s.heap .Lt (λi v=>its[i]? = Ab v) bt)
  (h:∀ v h' tk,its[Ec bt (its.size-1)]? = Ab v->(∀ b o,s.heap.get? b=Ab o->h'.get? b=Ab o)->Q v { s with heap:=h',toks:=tk }) : Ap (As prog w) A (call (.builtin "min") [.ref l]) Q E s:=by
 have hlt:l<s.heap.objs.size:=by obtain⟨_,e,_⟩:=hl;exact Ax e
 have none_at:∀ b,s.heap.objs.size<=b->s.heap.get? b=none:=λb hb=>by
  cases q:s.heap.get? b with
  |none=>rfl
  |some o=>exact absurd (Ax q) (Ir.mpr hb)
 refine call_function_tree PySem.F.kind_min PySem.F.plain_min PySem.F.entry_min (PySem.F.args_min1 _) ?_;refine Ad (Lu (show Ps "min" ["key","default"] 0 ⟨[],[]⟩ = pure [none,none] from rfl) ?_)
 refine Ad (Ak ?_);refine Ad (Fm hl ?_);refine Ad (Dg ?_);have W:=Wi (prog:=prog) (w:=w) (A:=A.in1) hh s.heap.objs.size l (Bv hlt) its;rw[dZ];have sz:(s.heap.push { cls:=.type "list_iterator",data:=.fields #[.ref l,.int 0 0] }).objs.size=s.heap.objs.size+1:=Dk ..;refine Ak ⟨Gu Gh _,XD (h0:=s.heap) W hcmp ?_ (none_at _ (by rw[sz];exact Jk _)) (λb hb=>?_) (λb o e=>Ag _ (Ag _ e)) (W.frame _ _ _ ⟨⟨_,Ba _ rfl,rfl,rfl⟩,hl.push _⟩ λb _ o e=>Ag _ e) hn (Ba _ rfl) λv h' tk hv q=>?_⟩
 .rw[sz]
  simp only[Aw,Ca,Eu,Sh];exact⟨Zp _,El (Bv (Kj hlt))⟩
 .simp only[Aw,Ca,Eu] at hb
  subst hb;exact none_at _ (AT _)
 .refine h v h' tk hv λb o e=>q b o (λhm=>?_) (λhm=>?_) (Ag _ (Ag _ e))
  .simp only[Aw,Ca,Eu] at hm
   subst hm;exact absurd (Ax e) (Dp _)
  .subst hm
   exact absurd (Ax e) (by rw[sz];exact Ir.mpr (Jk _))
end
def mC:DF:=λds S=>match ds with
 |[d]=>match lsD d S with
  |some (x::xs)=>if mOk (x::xs)=true then .ok (eA (x::xs)) S else .bad
  |_=>.bad
 |_=>.bad
section
variable {X:Cx}{pins:Aa (Af × Ci)}{σ : _L.St}{H P:Hp}{α : Aa Af}{S:Sto}{s:Ah}
set_option tactic.hygienic true in
theorem KE (I:Inv X pins σ H s)(r:Rel X.K H P α S){d:D}{xs:Aa D}{v:V}(h:lsD d S=Ab xs)(p:Rep X.K P α d v):∃ a vs its,v=.ref a/\qD X.K P α xs vs/\qH vs its/\s.heap.IsList a its.toArray/\xs.length=its.length:=by
 unfold lsD at h
 split at h
 .cases h
  obtain⟨a,ws,its,n,rfl,_,t,rvi,e,l,_⟩:=yF I r p;exact⟨a,ws,its,rfl,t,rvi,⟨_,e,rfl,n,rfl⟩,l⟩
 .split at h
  .rename_i hS
   cases h;simp only[Rep] at p;obtain⟨b,rfl,q⟩:=p;obtain⟨ws,z,t⟩:=r.at' _ b _ q hS;obtain⟨its,rvi,pl,_⟩:=I.list (.inl (.inl z));exact⟨b,ws,its,rfl,t,rvi,pl.isList,by rw[t.length,rvi.length]⟩
  .cases h
 .cases h
theorem X8 {xs:Aa D}(h:mOk xs=true){x:D}(hx:x∈xs):trb 6 x=true/\∀ y∈xs,w9 x y=true:=by
 have:=Be.mp h x hx;simp only[Au] at this;exact⟨this.1,λy hy=>Be.mp this.2 y hy⟩
theorem GP (hc:X.calm=true)(hu:X.A.units+64<Dw):w8 X (.builtin "min") mC:=by
 intro pins σ H s P α S vs us ds Q I r rv rp af
 match ds,af,rp with
 |[],af,_=>exact Ao af
 |_::_::_,af,_=>exact Ao af
 |[d],af,rp =>
  simp only[mC] at af;cases hd:lsD d S with
  |none=>rw[hd] at af;exact Ao af
  |some xs =>
   rw[hd] at af;cases xs with
   |nil=>exact Ao af
   |cons x xs =>
    dsimp only at af;obtain⟨ok,af⟩:=xB (X:=X) af;obtain⟨v,u,rfl,rfl,p,q⟩:=wH rp rv;obtain⟨a,ws,its,rfl,t,rvi,hl,ll⟩:=KE I r hd p;cases (show u=Bs a from q)
    have at':∀ (i:Ai) (u:Ac),its.toArray[i]? = Ab u->∃ vv,TrV s.heap 6 ((x::xs).getD i .non) u/\qI vv u/\Rep X.K P α ((x::xs).getD i .non) vv/\(x::xs).getD i .non∈x::xs:=λi u hi=>by
     have hi':its[i]? = Ab u:=by simpa using hi
     have hii:i<its.length:=(Az.mp hi').1;have hx:(x::xs)[i]? = Ab ((x::xs)[i]' om):=An om;obtain⟨y,f1,f2⟩:=t.get hx;obtain⟨z,g1,g2⟩:=rvi.get f1;cases g1.symm.trans hi';have e:(x::xs).getD i .non=(x::xs)[i]' om:=by rw[Fo,hx];rfl
     rw[e];exact⟨y,WX I r 6 (X8 ok (Hr _)).1 f2 g2,g2,f2,Hr _⟩
    have hz:its.toArray.size=xs.length+1:=by simp only[Ay];rw[<- ll];rfl
    refine U5 (bt:=btN (x::xs)) (I.ok.hd hc) hl om (λi j vi vj s' Q' E' hs hi hj hQ=>?_) λv h' tk hv hk=>?_
    .obtain⟨_,t1,_,_,m1⟩:=at' i vi hi
     obtain⟨_,t2,_,_,m2⟩:=at' j vj hj;exact(t1.sup hs).lt (t2.sup hs) ((X8 ok m1).2 _ m2) (by show X.A.units+1+6<Dw;omega) _ _ _ _ hQ
    .obtain⟨vv,_,rv',rp',_⟩:=at' _ v hv
     rw[hz] at rp';exact⟨vv,H,I.kept (t':=tk) hk,rv',xr af r rp'⟩
end
section
open _S PySem.W
variable {prog:Bd}{w:Bt}{A:Bo}{E:Ac->Ah->Prop}{s:Ah}
theorem QD {arg:Ac}{Rc:Aa Ac->Ah->Prop}(hu:A.units+16<Dw)(hcol:∀ {R:Aa Ac->Ah->Prop},(∀ vs s1,Rc vs s1->R vs s1)->Ap (As prog w) A.in1 (collect arg) R E s)
  (h:∀ (vs:Aa Ac) (s1:Ah),Rc vs s1->∃ xs:Aa D,sOk xs=true/\xs.length=vs.length/\xs.length<=63/\(∀ (i:Ai) (x:D) (v:Ac),xs[i]? = Ab x->vs[i]? = Ab v->TrV s1.heap 6 x v) /\
   ∀ (h':Bj) (a:Af) (c:Ai) (ps:Aa (Aa Am × Ac)),(∀ b o,s1.heap.get? b=Ab o->h'.get? b=Ab o)->s1.heap.objs.size<=a->h'.get? a=Ab (Dj "list" (ps.map (·.2)).toArray c)->ps.map (·.1)=(pQ xs).map zC->(∀ p∈ps,isN s1.heap p.1 p.2/\p.2∈vs)->Q (.ref a) { s1 with heap:=h',toks:=s1.toks }) :
  Ap (As prog w) A (call (.builtin "sorted") [arg]) Q E s:=by
 refine Ln Zo Xv Xw (Xx _) ?_;unfold Hl.«sorted»;refine Ad (m:=xL "sorted" 1 1 _) (Ak ?_);refine Ad (hcol λvs s1 hR=>?_);obtain⟨xs,ok,hl,hz,ht,h⟩:=h vs s1 hR;refine Ad (Rf ?_ (by rw[Ev];omega))
 have hD:(s1.heap.push (Dj "list" vs.toArray 0)).get? s1.heap.objs.size=Ab (Dj "list" vs.toArray 0):=Ba _ rfl;have n0:s1.heap.get? s1.heap.objs.size=none:=by
  cases q:s1.heap.get? s1.heap.objs.size with
  |none=>rfl
  |some o=>exact absurd (Ax q) (Dp _)
 have kd:=HU (prog:=prog) (w:=w) (h0:=s1.heap) ok;have hlen:vs.length=(xs.map zC).length:=by rw[Aq];omega
 have hks:∀ i v,vs[i]? = Ab v->isN s1.heap ((xs.map zC).getD i []) v:=λi v hi=>by
  have hii:i<xs.length:=by have:=(Az.mp hi).1;omega
  refine⟨xs[i],ht i _ v (An hii) hi,?_⟩;simp[Gs,hii]
 show Ap _ _ _ _ _ { s1 with heap:=s1.heap.push (Dj "list" vs.toArray 0),toks:=s1.toks }
 refine Ad (Ct (Dz Vg ⟨_,hD,rfl⟩ Ud (oV (h0:=s1.heap) (is:=isN s1.heap) kd.ord kd.inj (d:=[]) (vs:=vs) hlen hks hD (by show A.units+2+8<Dw;omega) om (λh2=>kd.cmps hlen hks (λk hk=>by
  obtain⟨x,hx,e⟩:=Bz.mp hk;exact⟨x,hx,e⟩) h2) (λb o e=>Ag _ e) n0 λps pm nf=>⟨_,rfl,?_⟩) (Vh _)))
 refine Ak ⟨_,rfl,?_⟩;have old:∀ b o,b≠s1.heap.objs.size->(s1.heap.push (Dj "list" vs.toArray 0)).get? b=Ab o->((((s1.heap.push (Dj "list" vs.toArray 0)).update s1.heap.objs.size (Eg λ_=>#[])).push (Dj "tuple" vs.toArray 0)).push (Dj "list" #[] 0)).get? b=Ab o:=λb o hb e =>
  Ag _ (Ag _ ((Bg _ _ (El hb)).trans e))
 obtain⟨e1,he1⟩:∃ e1,((s1.heap.push (Dj "list" vs.toArray 0)).update s1.heap.objs.size (Eg λ_=>#[])).get? s1.heap.objs.size=Ab (Dj "list" #[] e1):=⟨_,Iy hD (λ_=>#[])⟩;have he6:=Iy (Ag (Dj "list" #[] 0) (Ag (Dj "tuple" vs.toArray 0) he1)) (λ_=>(ps.map (·.2)).toArray)
 have pk:(ps.map (·.1)).Perm (xs.map zC):=by
  have:=pm.map (·.1)
  rwa [NE om] at this
 refine h _ s1.heap.objs.size _ ps (λb o e=>?_) (AT _) he6 ?_ (λp hp=>?_)
 .have hb:b≠s1.heap.objs.size:=λz=>by
   subst z;exact absurd (Ax e) (Dp _)
  exact(Bg _ _ (El hb)).trans (old b o hb (Ag _ e))
 .rw[dH]
  exact jZ kd.ord nf (kF kd.ord _) (pk.trans (y0 _).symm)
 .obtain⟨i,e1,e2⟩:=cA (d:=[]) hlen (pm.mem_iff.mp hp)
  exact⟨e2▸hks i _ e1,Bk e1⟩
end
def wD (kvs:Aa (Key × D)):Aa D:=kvs.map λp=>.tup [kD p.1,p.2]
def b0 (f:DE):DE:=λenv S=>(f env S).bind λd S1=>match vS d S1 with
 |some kvs=>if (decide ((wD kvs).length<=63)&&sOk (wD kvs))=true then .ok (.loc S1.length) (S1++[.lst (pQ (wD kvs))]) else .bad
 |none=>.bad
section
variable {X:Cx}{o:Br}{fo:DE}{apos cpos pos p2:Ex}
set_option tactic.hygienic true in
theorem ZH {d:D}{S:Sto}{kvs:Aa (Key × D)}(h:vS d S=Ab kvs):∃ n,d=.loc n/\S[n]? = Ab (.dct kvs):=by
 unfold vS at h
 split at h
 .split at h
  .rename_i hS
   cases h;exact⟨_,rfl,hS⟩
  .cases h
 .cases h
theorem ZK (hc:X.calm=true)(hu:X.A.units+64<Dw)(hg:Gl X "sorted")(hm:X.mg "sorted" = none)(ho:PE X o (tD X fo))(hbase:Qx o "items" X.env (eval o X.env)=eval o X.env:=by rfl)(hline:(apos.endLine == cpos.line)=true:=by rfl) :
  PE X (.Call (.Name "sorted" p2) [.Call (.Attribute o "items" apos) [] [] cpos] [] pos) (tD X (b0 fo)):=by
 intro pins s σ H Q I h;obtain⟨P,α,env,S,r,re,af⟩:=h;refine Gd (yE I hg hm lC ?_);refine Js ?_ rfl rfl;refine Jt (wpAny_Call_method0_late hbase hline (thn (zK ho I r re af) λvv s1 ⟨v,H1,P1,α1,d,S1,G1,af1⟩=>?_));cases hd:vS d S1 with
 |none=>rw[hd] at af1;exact Ao af1
 |some kvs =>
  rw[hd] at af1;dsimp only at af1;obtain⟨hok,af1⟩:=xB (X:=X) af1;rw[Au,Ce] at hok;obtain⟨hz5,ok⟩:=hok;obtain⟨n,rfl,hS⟩:=ZH hd;have rp:=G1.rep;have I1:=G1.inv;have r1:=G1.rel;have ht:tyD (.loc n) S1=Ab "dict":=Y2 hS;obtain⟨h1,h2⟩:=Y0 I1 G1.val (Y1 r1 rp ht (by simp))
  simp only[Rep] at rp;obtain⟨a,rfl,ha⟩:=rp;cases (show vv=Bs a from G1.val)
  obtain⟨vs,z,t⟩:=r1.at' n a _ ha hS;obtain⟨hz,hds,us,rel,dd⟩:=JZ I1.hok z;refine⟨"dict","dict.items",Mj,Ta,PySem.F.type_dict_items,h1,h2,Tu rfl (PySem.evalArgs_none ?_)⟩;refine Xm Ta dd.typeIs PySem.F.entry_dict_items (PySem.F.args_dict_items_1 _) (meets_dict_items (zI X.prog X.w) a hds) ⟨⟨us,dd⟩,?_⟩;obtain⟨ep,oa,es,hoa,rest⟩:=dd.dictAt;refine Mu ?_;have hlu:us.length<=sizeLine:=by rw[<- rel.length];exact hz
  have I2:=I1.kept (t':=s1.toks) (h':=s1.heap.push { cls:=.type "dict_items",data:=.fields #[.ref a] }) λb u e=>Ag _ e;refine QD (Rc:=λus' s'=>∃ (h':Bj) (tk:Ai) (as:Aa Af),us'=as.map Bs/\s'={ s1 with heap:=h',toks:=tk } /\ (∀ b o,(s1.heap.push { cls:=.type "dict_items",data:=.fields #[.ref a] }).get? b=Ab o->h'.get? b=Ab o)/\as.length=us.length/\PySem.W.KdxG (zI X.prog X.w) us (s1.heap.push { cls:=.type "dict_items",data:=.fields #[.ref a] }).objs.size h' as)
   om (λ{R} hR=>PySem.W.kdx_collect (s:={ s1 with heap:=s1.heap.push { cls:=.type "dict_items",data:=.fields #[.ref a] } }) (knd:=zI X.prog X.w) (d:=a) (kvs:=us) (ep:=ep) (I1.ok.hd hc) ⟨_,Ba _ rfl,rfl,rfl⟩ ⟨oa,es,Ag _ hoa,rest⟩ hlu λh' tk as hk hlen g=>hR _ _ ⟨h',tk,as,rfl,rfl,hk,hlen,g⟩) ?_
  rintro _ _ ⟨h',tk,as,rfl,rfl,hk,hlen,g⟩;have hlv:as.length=vs.length:=by rw[hlen,rel.length]
  have hfst:(vH as vs).map (·.1)=as:=hZ as vs hlv
  have nd:((vH as vs).map (·.1)).Nodup:=by
   rw[hfst];exact g.rise.imp λhlt=>Bv hlt
  have hge:∀ p∈vH as vs,(s1.heap.push { cls:=.type "dict_items",data:=.fields #[.ref a] }).objs.size<=p.1:=λp hp=>by
   have:p.1∈as:=by rw[<- hfst];exact Bz.mpr ⟨p,hp,rfl⟩
   exact Fy (g.above _ this)
  have I3:Inv X pins σ (xU H1 (vH as vs)) { s1 with heap:=h',toks:=tk }:=Inv.laidL (s:={ s1 with heap:=s1.heap.push { cls:=.type "dict_items",data:=.fields #[.ref a] } }) (L:=vH as vs) (t':=tk) I2 hk hge λp hp=>by
   obtain⟨j,q,e1,e2,e3⟩:=c0 hp;obtain⟨u,e4,e5⟩:=mO rel e2;obtain⟨key,k,x,f1,f2,f3⟩:=g.pairs j p.1 e1;rw[e4] at f1;cases f1;rw[e3];exact⟨(by decide:2<=sizeLine),[key,u],.cons (HS f2) (.cons e5 .nil),_,f3,rfl,_,rfl⟩
  obtain⟨r3,e3⟩:=r1.pureL (L:=vH as vs) (λp hp=>I2.hok.fresh (hge p hp)) nd;have rps:qD X.K (xU P1 (vH as vs)) α1 (wD kvs) (as.map V.ref):=dN (KVs.mono e3 (Bh _) t) hlv λp hp=>c8 nd hp;have lk:(wD kvs).length=as.length:=by have:=rps.length;rwa [Aq] at this
  have at':∀ (i:Ai) (x:D) (u:Ac),(wD kvs)[i]? = Ab x->(as.map Bs)[i]? = Ab u->TrV h' 6 x u/\∃ w,qI w u/\Rep X.K (xU P1 (vH as vs)) α1 x w:=λi x u hx hu'=>by
   obtain⟨y,f1,f2⟩:=rps.get hx;obtain⟨z',g1,g2⟩:=(Y5 as).get f1;cases g1.symm.trans hu';refine⟨WX I3 r3 6 ?_ f2 g2,y,g2,f2⟩;have:=Be.mp ok _ (Bk hx);simp only[Au] at this;exact this.1.2
  refine⟨wD kvs,ok,by rw[lk,Aq],hz5,λi x u hx hu'=>(at' i x u hx hu').1,λh2 b c ps kp hb hob hps hp=>?_⟩
  have vv:∀ (ps:Aa (Aa Am × Ac)) (ys:Aa D),ps.map (·.1)=ys.map zC->(∀ y∈ys,y∈wD kvs)->(∀ p∈ps,isN h' p.1 p.2/\p.2∈as.map Bs)->∃ ws,qH ws (ps.map (·.2))/\qD X.K (xU P1 (vH as vs)) α1 ys ws:=by
   intro ps
   induction ps with
   |nil =>
    intro ys e _ _;cases ys with
    |nil=>exact⟨[],.nil,.nil⟩
    |cons _ _=>cases e
   |cons p ps ih =>
    intro ys e hy h;cases ys with
    |nil=>cases e
    |cons y ys =>
     injection e with e1 e2
     obtain⟨ws,a1,a2⟩:=ih ys e2 (λx hx=>hy x (by simp[hx])) λq hq=>h q (by simp[hq])
     obtain⟨⟨d',t',c'⟩,hm'⟩:=h p (by simp)
     obtain⟨i,hi,ei⟩:=Cd.mp hm';have hik:i<(wD kvs).length:=by rw[lk];simpa using hi
     obtain⟨t2,w,rw',pw⟩:=at' i _ p.2 (An hik) (by rw[An hi,ei])
     have hd':=t'.det t2;subst hd';have:(wD kvs)[i]=y:=fF t2.tr (uX ok (hy y (by simp))).2.1 (c'.trans e1)
     rw[this] at pw;exact⟨w::ws,.cons rw' a1,.cons pw a2⟩
  obtain⟨ws,a1,a2⟩:=vv ps (pQ (wD kvs)) hps (λy hy=>(jD _).mem_iff.mp hy) hp;have hwl:ws.length<=sizeLine:=by
   have q1:=a2.length;have q2:=(jD (wD kvs)).length_eq;rw[Ev];omega
  have I4:Inv X pins σ (xU (xU H1 (vH as vs)) [(b,HO.lst ws)]) { s1 with heap:=h2,toks:=tk }:=Inv.laidL (s:={ s1 with heap:=h',toks:=tk }) (L:=[(b,HO.lst ws)]) (t':=tk) I3 kp (λp hpm=>by
   have:p=(b,HO.lst ws):=by simpa using hpm
   subst this;exact hb) λp hpm=>by
   have:p=(b,HO.lst ws):=by simpa using hpm
   subst this;exact⟨hwl,ps.map (·.2),c,a1,hob⟩
  exact⟨.ref b,_,I4,rfl,jY r3 (I3.hok.fresh hb) a2 (qR.base (G1.same.trans e3) G1.pre af1)⟩
end
section
variable {X:Cx}{o:Br}{fo:DE}{apos cpos pos p2:Ex}{cm:Ar}{k:Ai}
theorem W6 (hc:X.calm=true)(hr:RoomC cm k X.A)(hg:Gl X "sorted")(hm:X.mg "sorted" = none)(ho:QE X o fo)(hbase:Qx o "items" X.env (eval o X.env)=eval o X.env:=by rfl)(hline:(apos.endLine == cpos.line)=true:=by rfl) :
  QE X (.Call (.Name "sorted" p2) [.Call (.Attribute o "items" apos) [] [] cpos] [] pos) (b0 fo):=⟨ZK hc hr.units hg hm ho.1 hbase hline⟩
end
section
variable {prog:Bd}{w:Bt}{A:Bo}{R:Sa->Ah->Prop}{I:Af}{fp wr:Aa Af}{n:Ai}{P:Ai->Ac->Prop}{St:Ai->Bj->Prop}{S q:Af}{h0:Bj}{kw:Aa (Av × Ac)}{kf:Ai->Am}
def YC (prog:Bd)(w:Bt)(A:Bo)(h0:Bj)(q:Af)(P:Ai->Ac->Prop)(kf:Ai->Am):Prop:=
 ∀ i v (s:Ah) (Q:Ac->Ah->Prop) (E:Ac->Ah->Prop),_S.Sup h0 s.heap->P i v->(∀ t h' tk,(∀ b o,s.heap.get? b=Ab o->h'.get? b=Ab o)->Q (.int (kf i) t) { s with heap:=h',toks:=tk }) -> Ap (As prog w) A (call (.ref q) [v]) Q E s
def gtK (kf:Ai->Am)(i j:Ai):Ar:=decide (kf i>kf j)
theorem sA:(toString "max" ++ toString ".loop" : Ef) = "max.loop":=by decide
theorem U9 (W:Walks prog w A.in1 I fp wr n P St)(hq:YC prog w A.in1 h0 q P kf)(hf:S ∉ fp)(hS0:h0.get? S=none)(hw0:∀ b∈wr,h0.get? b=none) :
  ∀ (k j:Ai) (s:Ah) (u:Ac) (t:Pi) (c:Ai),j+1+k=n->_S.Sup h0 s.heap->St (j+1) s.heap->P (Ec (gtK kf) j) u->s.heap.get? S=Ab { cls:=.type "list",dict:=none,data:=.seq #[u,.int (kf (Ec (gtK kf) j)) t] c,slots:=#[] } ->
  (∀ v h' tk,P (Ec (gtK kf) (n-1)) v->(∀ b o,b ∉ wr->b≠S->s.heap.get? b=Ab o->h'.get? b=Ab o)->R (.ok (.ret v)) { s with heap:=h',toks:=tk }) ->
  Go (As prog w) A (.builtin "max.loop" ⟨[.ref I,.ref q,.ref S],kw⟩) R s:=by
 have hw:S ∉ wr:=λz=>hf (W.sub _ z);intro k
 induction k with
 |zero =>
  intro j s u t c hk hs st hu hS hR;have hn:j+1=n:=by omega
  subst hn;refine EQ Ni ?_;rw[Eo Gi _];refine Ad (Ep hS rfl ?_);refine Ad (Hk (W.done s _ _ st λh' tk q=>?_));refine Ad ?_;exact Hy (q S _ hw hS) rfl (Ad (Hs (Ak (hR u _ tk hu λb o z1 z2 e=>(Bg _ _ (El z2)).trans (q b o z1 e)))))
 |succ k ih =>
  intro j s u t c hk hs st hu hS hR;refine EQ Ni ?_;rw[Eo Gi _];refine Ad (Ep hS rfl ?_);refine Ad (Hk (W.item (j+1) s _ _ om st λv h' tk hv st' q=>?_));have hS':=q S _ hw hS;have hs':_S.Sup h0 h':=λb o e=>q b o (λz=>by rw[hw0 b z] at e;cases e) (hs b o e)
  refine Ad (Hk (Ct (hq (j+1) v _ _ _ hs' hv λt2 h2 tk2 kp=>?_)));have hS2:=kp S _ hS';have hs2:_S.Sup h0 h2:=λb o e=>kp b o (hs' b o e);have st2:=W.frame _ _ _ st' λb _ o e=>kp b o e;refine Ad (Hk (Ct (Ad (gt_int ?_))));refine Ad (Ct (Ms ?_));refine Ad (Hs (Ak ?_));cases hb:gtK kf (j+1) (Ec (gtK kf) j) with
  |true =>
   have hb':decide (kf (j+1)>kf (Ec (gtK kf) j))=true:=hb;rw[hb',Bb rfl];refine Ad ?_;refine Hy hS2 rfl (Ad (Hs ?_));rw[sA];have eb:Ec (gtK kf) (j+1)=j+1:=by rw[Ec,Bb hb]
   have hS3:∃ c',(h2.update S (Eg λ_=>#[v,.int (kf (j+1)) t2])).get? S=Ab { cls:=.type "list",dict:=none,data:=.seq #[v,.int (kf (Ec (gtK kf) (j+1))) t2] c',slots:=#[] }:=by
    rw[eb];exact⟨_,DL _ hS2 rfl⟩
   obtain⟨c',hS3⟩:=hS3;exact Ak ⟨Gu Gi _,ih (j+1) _ v t2 c' om (λb o e=>(Bg _ _ λy:S=b=>by rw[<- y,hS0] at e;cases e).trans (hs2 b o e)) (W.frame _ _ _ st2 λb z o e=>(Bg _ _ λy:S=b=>hf (y▸z)).trans e) (by rw[eb];exact hv) hS3 λv' h3 tk3 p3 q3=>hR v' h3 tk3 p3 λb o z1 z2 e=>q3 b o z1 z2 ((Bg _ _ (El z2)).trans (kp b o (q b o z1 e)))⟩
  |false =>
   have hb':decide (kf (j+1)>kf (Ec (gtK kf) j))=false:=hb;rw[hb',Bc (by simp)]
   refine Ad (Hs ?_);rw[sA];refine Ak ⟨Gu Gi _,ih (j+1) _ u t c om hs2 st2 ?_ ?_ λv' h3 tk3 p3 q3=>hR v' h3 tk3 p3 λb o z1 z2 e=>q3 b o z1 z2 (kp b o (q b o z1 e))⟩
   .rw[Ec,Bc (by rw[hb];simp)]
    exact hu
   .rw[Ec,Bc (by rw[hb];simp)]
    exact hS2
theorem XF (W:Walks prog w A.in1 I fp wr n P St)(hq:YC prog w A.in1 h0 q P kf)(hf:S ∉ fp)(hS0:h0.get? S=none)(hw0:∀ b∈wr,h0.get? b=none){s:Ah}{c:Ai}(hs:_S.Sup h0 s.heap)(st:St 0 s.heap)(hn:0<n)(hS:s.heap.get? S=Ab { cls:=.type "list",dict:=none,data:=.seq #[] c,slots:=#[] })
  (hR:∀ v h' tk,P (Ec (gtK kf) (n-1)) v->(∀ b o,b ∉ wr->b≠S->s.heap.get? b=Ab o->h'.get? b=Ab o)->R (.ok (.ret v)) { s with heap:=h',toks:=tk }) :
  Go (As prog w) A (.builtin "max.loop" ⟨[.ref I,.ref q,.ref S],kw⟩) R s:=by
 have hw:S ∉ wr:=λz=>hf (W.sub _ z);refine EQ Ni ?_;rw[Eo Gi _];refine Ad (Ep hS rfl ?_);refine Ad (Hk (W.item 0 s _ _ hn st λv h' tk hv st' q'=>?_));have hS':=q' S _ hw hS;have hs':_S.Sup h0 h':=λb o e=>q' b o (λz=>by rw[hw0 b z] at e;cases e) (hs b o e)
 refine Ad (Hk (Ct (hq 0 v _ _ _ hs' hv λt2 h2 tk2 kp=>?_)));have hS2:=kp S _ hS';refine Ad ?_;refine Hy hS2 rfl ?_;rw[sA];exact Ak ⟨Gu Gi _,U9 W hq hf hS0 hw0 (n-1) 0 _ v t2 _ om (λb o e=>(Bg _ _ λy:S=b=>by rw[<- y,hS0] at e;cases e).trans (kp b o (hs' b o e))) (W.frame _ _ _ st' λb z o e=>(Bg _ _ λy:S=b=>hf (y▸z)).trans (kp b o e)) hv (DL _ hS2 rfl) λv' h3 tk3 p3 q3=>hR v' h3 tk3 p3 λb o z1 z2 e=>q3 b o z1 z2 ((Bg _ _ (El z2)).trans (kp b o (q' b o z1 e)))⟩
end
section
variable {prog:Bd}{w:Bt}{A:Bo}{E:Ac->Ah->Prop}{s:Ah}{l q:Af}{its:Bn Ac}{kf:Ai->Am}
theorem UB (a v:Ac):Zm "max" ⟨[a],[(Fz "key",v)]⟩:=by unfold Zm;kernel_rfl
theorem U8 (hh:A.handled=none)(hl:s.heap.IsList l its)(hn:0<its.size)(hq:YC prog w A.in1 s.heap q (λi v=>its[i]? = Ab v) kf)
  (h:∀ v h' tk,its[Ec (gtK kf) (its.size-1)]? = Ab v->(∀ b o,s.heap.get? b=Ab o->h'.get? b=Ab o)->Q v { s with heap:=h',toks:=tk }) : Ap (As prog w) A (call (.builtin "max") [.ref l] [(Fz "key",.ref q)]) Q E s:=by
 have hlt:l<s.heap.objs.size:=by obtain⟨_,e,_⟩:=hl;exact Ax e
 have none_at:∀ b,s.heap.objs.size<=b->s.heap.get? b=none:=λb hb=>by
  cases q:s.heap.get? b with
  |none=>rfl
  |some o=>exact absurd (Ax q) (Ir.mpr hb)
 refine kmk_tree PySem.F.kind_max PySem.F.plain_max PySem.F.entry_max (UB _ _) ?_;refine Ad (Lu (show Ps "max" ["key","default"] 0 ⟨[],[(Fz "key",.ref q)]⟩=pure [Ab (.ref q),none] from rfl) ?_)
 refine Ad (Ak ?_);refine Ad (Fm hl ?_);refine Ad (Dg ?_);have W:=Wi (prog:=prog) (w:=w) (A:=A.in1) hh s.heap.objs.size l (Bv hlt) its;rw[sA];have sz:(s.heap.push { cls:=.type "list_iterator",data:=.fields #[.ref l,.int 0 0] }).objs.size=s.heap.objs.size+1:=Dk ..;have st:=W.frame _ _ _ (show (s.heap.push { cls:=.type "list_iterator",data:=.fields #[.ref l,.int 0 0] }).IsListIter s.heap.objs.size l 0/\(s.heap.push { cls:=.type "list_iterator",data:=.fields #[.ref l,.int 0 0] }).IsList l its from⟨⟨_,Ba _ rfl,rfl,rfl⟩,hl.push _⟩) λb _ o e=>Ag { cls:=.type "list",data:=.seq ([] : Aa Ac).toArray } e
 refine Ak ⟨Gu Gi _,XF (h0:=s.heap) W hq ?_ (none_at _ (by rw[sz];exact Jk _)) (λb hb=>?_) (λb o e=>Ag _ (Ag _ e)) st hn (Ba _ rfl) λv h' tk hv q'=>?_⟩
 .rw[sz]
  simp only[Aw,Ca,Eu,Sh];exact⟨Zp _,El (Bv (Kj hlt))⟩
 .simp only[Aw,Ca,Eu] at hb
  subst hb;exact none_at _ (AT _)
 .refine h v h' tk hv λb o e=>q' b o (λhm=>?_) (λhm=>?_) (Ag _ (Ag _ e))
  .simp only[Aw,Ca,Eu] at hm
   subst hm;exact absurd (Ax e) (Dp _)
  .subst hm
   exact absurd (Ax e) (by rw[sz];exact Ir.mpr (Jk _))
end
section
variable {prog:Bd}{w:Bt}{A:Bo}{s:Ah}{z qual:Av}{params:Lg}{scope:Em}{cl:Aa (Av × Af)}{pm ctv:Ac}{a c' t:Af}{oc:Ci}{ws:Bn Ac}{tk0 tk1:Pi}{k n:Am}{kj:Ai}{p1 p2 p3:Ex}{its:Bn Ac}{j:Ai}
theorem LI {E:Ac->Ah->Prop}(hdp:A.depth<Mm)(nl:s.heap.NoLimit)(hs:Ck (nD scope [z]))(hz:(z == ("__debug__" : Av))=false)(hb:∀ (q:Av) (b:Br) (cl:Aa (Av × Af)) (pm cdv ctv u:Ac),Na (Mp "<lambda>" q params b scope cl pm cdv ctv) ⟨[u],[]⟩=pure [(z,u)])
  (ho:s.heap.get? a=Ab (Ka "<lambda>" qual params (.Subscript (.Name z p1) (.Constant (.int k) kj p2) p3) scope cl pm c' ctv)) (hc:s.heap.get? c'=Ab oc) (hd:oc.data=.fields ws) (hw:ws[1]? = Ab (.str qual tk0))
  (ht:Nj s.heap t its) (h1 : -(2 ^ 62)<k/\k<2 ^ 62) (hj:Ui k its.size=Ab j) (hi:its[j]? = Ab (.int n tk1)) (h:∀ h' tk,(∀ b o,s.heap.get? b=Ab o->h'.get? b=Ab o)->Q (.int n tk1) { s with heap:=h',toks:=tk }) :
  Ap (As prog w) A (call (.ref a) [.ref t]) Q E s:=by
 have S:=LZ (q:=qual) (params:=params) (body:=.Subscript (.Name z p1) (.Constant (.int k) kj p2) p3) hs (by simp)
 refine Nd (Vq hdp ho rfl S.co S.gen rfl ⟨c',oc,ws,tk0,rfl,hc,hd,hw⟩ ?_);rw[hb qual _ cl pm (.ref c') ctv (.ref t)];refine Ak (Vr S.nocell (λy hy=>by rw[Dl.mp hy];exact S.par z (by simp)) (λh₁ hns hsb=>?_) S.kind)
 have hk₁:∀ b o,s.heap.get? b=Ab o->h₁.get? b=Ab o:=λb o e=>hsb.extBut b o (Bv (Ax e)) (Ag _ e);refine⟨nl.keeps hk₁,Vs ?_⟩;refine Sc (Vw (Vk S.kind (S.par z (by simp)) hns (show Ls z [(z,Bs t)].reverse=Ab (.ref t) by simp) (Ww ?_)) hz)
 have ht₁:Nj h₁ t its:=ht.keeps hk₁;exact Nc (x:=.int n tk1) ht₁.typeIs Wz.lookup (getItem_tuple (j:=j) (Q:=λr s'=>r=.int n tk1/\Q r s') ht₁ om om hj hi ⟨rfl,h h₁ _ hk₁⟩) rfl
end
def pH (k:Am)(d:D):Al Am:=match d with
 |.tup ds=>match _L.atI ds k with
  |some (.int n)=>Ab n
  |_=>none
 |_=>none
def yK (k:Am):Aa D->Al (Aa Am)
 |[]=>Ab []
 |d::ds=>match pH k d,yK k ds with
  |some n,Ab ns=>Ab (n::ns)
  |_,_=>none
def rZ (ns:Aa Am)(xs:Aa D):D:=xs.getD (Ec (gtK λi=>ns.getD i 0) (xs.length-1)) .non
def UA (k:Am)(ds:Aa D)(S:Sto):Res D:=match ds with
 |[d]=>match lsD d S with
  |some (x::xs)=>match yK k (x::xs) with
   |some ns=>.ok (rZ ns (x::xs)) S
   |none=>.bad
  |_=>.bad
 |_=>.bad
def oD (k:Am)(fA:DA):DE:=λenv S=>(fA env S).bind λds S1=>UA k ds S1
theorem rR {k:Am}:∀ {xs:Aa D} {ns:Aa Am} {i:Ai} {x:D},yK k xs=Ab ns->xs[i]? = Ab x->pH k x=Ab (ns.getD i 0)
 |[],_,_,_,_,h=>by cases h
 |d::ds,ns,i,x,e,h=>by
  cases h1:pH k d with
  |none=>simp only[yK,h1] at e;cases e
  |some n =>
   cases h2:yK k ds with
   |none=>simp only[yK,h1,h2] at e;cases e
   |some ms =>
    simp only[yK,h1,h2] at e;cases e;cases i with
    |zero=>cases h;exact h1
    |succ i =>
     show pH k x=Ab (ms.getD i 0);exact rR (xs:=ds) h2 h
set_option tactic.hygienic true in
theorem VR {k:Am}{d:D}{n:Am}(h:pH k d=Ab n):∃ ds,d=.tup ds/\_L.atI ds k=Ab (.int n):=by
 unfold pH at h
 split at h
 .split at h
  .rename_i e;cases h;exact⟨_,rfl,e⟩
  .cases h
 .cases h
section
variable {X:Cx}{e:Br}{fA:DA}{p pos kp lpos p1 p2 p3:Ex}{cm:Ar}{kk:Ai}{y z:Av}{params:Lg}{scope:Em}{k:Am}{kj:Ai}
theorem P8 (hc:X.calm=true)(hr:RoomC cm kk X.A)(M:LmK X y)(hg:Gl X "max")(hm:X.mg "max" = none)(hB:jL X.env.scope X.N scope [] = true)(hs:Ck (nD scope [z]))(hz:(z == ("__debug__" : Av))=false)(hk : -(2 ^ 62)<k/\k<2 ^ 62)(hdef:Sj params X.env=([],[]))
  (hb:∀ (q:Av) (b:Br) (cl:Aa (Av × Af)) (pm cdv ctv u:Ac),Na (Mp "<lambda>" q params b scope cl pm cdv ctv) ⟨[u],[]⟩=pure [(z,u)]) (ha:PA X [e] (tDA X fA)) (he:Bl [e] X.env=(false,eval e X.env)::Bl [] X.env:=by rfl) :
  PE X (.Call (.Name "max" p) [e] [⟨Ab "key",.Lambda params (.Subscript (.Name z p1) (.Constant (.int k) kj p2) p3) scope lpos,kp⟩] pos) (tD X (oD k fA)):=by
 intro pins s σ H Q I h;obtain⟨P,α,env,S,r,re,af⟩:=h;obtain⟨m1,m2,m3,c,T,m4⟩:=M.1;refine Gd (yE I hg hm (u:=.builtin "max") (by decide +kernel) ?_ (by decide) (by decide))
 refine callWith_kw (thn (wK ha I r re af pos) λus s1 ⟨vs,H1,P1,α1,ds,S1,I1,rv,r1,re1,rp,e1,e2',af1⟩=>kws_cons (rW I1 r1 m1 m4 (m2 c T m4) m3 hdef (rV hB I1.ok) λa H2 s2 pm ctv c' oc ws t I2 r2 hc' hd hs'=>kws_nil ?_)) (by rw[he];rfl) (by rw[he];rfl)
 show Ap _ _ (call (.builtin "max") us [(Fz "key",.ref a)]) _ _ s2
 match ds,af1,rp with
 |[],af1,_=>exact Ao af1
 |_::_::_,af1,_=>exact Ao af1
 |[dd],af1,rp =>
  simp only[UA] at af1;cases hls:lsD dd S1 with
  |none=>rw[hls] at af1;exact Ao af1
  |some xs =>
   rw[hls] at af1;cases xs with
   |nil=>exact Ao af1
   |cons x xs =>
    dsimp only at af1;cases hks:yK k (x::xs) with
    |none=>rw[hks] at af1;exact Ao af1
    |some ns =>
     rw[hks] at af1;obtain⟨v',u',rfl,rfl,p',q⟩:=wH rp rv;obtain⟨a',wl,its,rfl,t',rvi,hl,ll⟩:=KE I2 r2 hls p';cases (show u'=Bs a' from q)
     have I3:Inv X pins σ H2 s2:=I2.pins_of λp hp=>I2.pin p (Bp _ (Cc _ hp));have at':∀ (i:Ai) (u:Ac),its.toArray[i]? = Ab u->∃ vv,qI vv u/\Rep X.K P1 α1 ((x::xs).getD i .non) vv/\pH k ((x::xs).getD i .non)=Ab (ns.getD i 0):=λi u hi=>by
      have hi':its[i]? = Ab u:=by simpa using hi
      have hii:i<its.length:=(Az.mp hi').1;have hx:(x::xs)[i]? = Ab ((x::xs)[i]' om):=An om;obtain⟨y,f1,f2⟩:=t'.get hx;obtain⟨z,g1,g2⟩:=rvi.get f1;cases g1.symm.trans hi';have e:(x::xs).getD i .non=(x::xs)[i]' om:=by rw[Fo,hx];rfl
      rw[e];exact⟨y,g2,f2,rR hks hx⟩
     have hz':its.toArray.size=xs.length+1:=by simp only[Ay];rw[<- ll];rfl
     have ho:=(I2.pin _ (Bp _ (.head _))).1;have hoc:=(I2.hok c' _ hc').1;refine U8 (kf:=λi=>ns.getD i 0) (I2.ok.hd hc) hl om (λi v s3 Q' E' hsup hi hQ=>?_) λv h' tk hv hk'=>?_
     .obtain⟨vv,g1,g2,g3⟩:=at' i v hi
      obtain⟨dt,ed,et⟩:=VR g3;rw[ed] at g2;obtain⟨b,wv,bt,rfl,_,tt,rt,ht,lt,_⟩:=yH I2 r2 g2;cases (show v=Bs b from g1)
      obtain⟨j,j1,j2,j3,_,_⟩:=tJ et;obtain⟨vj,f1,f2⟩:=tt.get j2;obtain⟨uj,f3,f4⟩:=rt.get f1;simp only[Rep] at f2;subst f2;obtain⟨tj,rfl⟩:=f4;refine LI (A:=X.A.in1) hr.depth (I2.nolimit.keeps hsup) hs hz hb (hsup _ _ ho) (hsup _ _ hoc) hd hs' (ht.keeps hsup) hk ?_ (by simpa using f3) λh' tk kp=>hQ tj h' tk kp
      rw[Ay,<- lt];exact j1
     .obtain⟨vv,rv',rp',_⟩:=at' _ v hv
      rw[hz'] at rp';exact⟨vv,H2,I3.kept (t':=tk) hk',rv',af1 vv H2 P1 α1 r2 e1 e2' rp'⟩
theorem aMk (M:LmK X y)(hc:X.calm=true)(hr:RoomC cm kk X.A)(h:Ck (okG X "max" && jL X.env.scope X.N scope []))(hs:Ck (nD scope [z]))(hz:Ck (okN z))(hk : -(2 ^ 62)<k/\k<2 ^ 62)(hdef:Sj params X.env=([],[]))
  (hb:∀ (q:Av) (b:Br) (cl:Aa (Av × Af)) (pm cdv ctv u:Ac),Na (Mp "<lambda>" q params b scope cl pm cdv ctv) ⟨[u],[]⟩=pure [(z,u)]) (hm:X.mg "max" = none) (ha:QA X [e] fA) (he:Bl [e] X.env=(false,eval e X.env)::Bl [] X.env:=by rfl) :
  QE X (.Call (.Name "max" p) [e] [⟨Ab "key",.Lambda params (.Subscript (.Name z p1) (.Constant (.int k) kj p2) p3) scope lpos,kp⟩] pos) (oD k fA):=by
 unfold Ck at h hz;rw[Au] at h;exact⟨P8 hc hr M (w5 h.1).1 hm h.2 hs (uS hz).1 hk hdef hb ha.1 he⟩
end
def tV:G2:=λa b S=>match vS b S,yO a with
 |some kvs,Ab k=>.ok (.bl (xA kvs k).isSome) S
 |_,_=>.bad
section
variable {X:Cx}
set_option tactic.hygienic true in
theorem SA (hu:X.A.units+1<Dw):OpD X (Cu .In) tV:=by
 intro pins σ H s P α S v u vv uu a b Q I r rv ru pa pb af;unfold tV at af
 split at af
 .rename_i kvs k hd hk
  obtain⟨p,ws,rfl,z,t⟩:=ZI r hd pb;have ei:=mM hk pa;subst ei;cases (show uu=Bs p from ru)
  obtain⟨k1,k2⟩:=bB (k:=k) t;have g:uE H p (kV k) (yD ws k):=.inl ⟨_,k,.inl z,rfl,rfl⟩;refine O1 hu I g rv λs' I'=>⟨.bl _,H,I',rfl,?_⟩;cases hv:xA kvs k with
  |none=>rw[hv] at af;rw[k2 hv];exact xr af r (by simp only[Rep];rfl)
  |some d =>
   obtain⟨w',e1,e2⟩:=k1 d hv;rw[hv] at af;rw[e1];exact xr af r (by simp only[Rep];rfl)
 .exact Ao af
end
section
variable {X:Cx}{cm:Ar}{k:Ai}{o i:Br}{fo fi:DE}{pos:Ex}
theorem EK (hc:X.calm=true)(hr:RoomC cm k X.A):ZCall X (.builtin "min") mC:=⟨GP hc hr.units⟩
theorem RC (hr:RoomC cm k X.A)(ho:QE X o fo)(hi:QE X i fi)(hs:YD i:=by intro _ _;rfl):QE X (.Subscript o i pos) (d2 fK fo fi):=⟨N1 (hu1 hr) ho.1 hi.1 hs⟩
end
section
variable {X:Cx}{cm:Ar}{k:Ai}{e ei ek:Br}{fe fi fk:DE}{p2 pos:Ex}
theorem AZ (hr:RoomC cm k X.A):ZOp X (Cu .In) tV:=⟨SA (hu1 hr)⟩
end
end _D
namespace _D
open PySem
variable {kvs:Aa (_L.Key × D)}{ds:Aa D}{v:Ac}{n p:Ai}{lo hi:Al Am}{b a:Am}{f1:DE}{F:DF}{S1 S' S2:Sto}{env':qE}
def Nx (o:Out)(Q:qE->Sto->Prop):Prop:=∃ env S,o=.nx env S/\Q env S
def Rt (o:Out)(Q:D->Sto->Prop):Prop:=∃ d S,o=.rt d S/\Q d S
def Ok {β:Type}(r:Res β)(Q:β->Sto->Prop):Prop:=∃ d S,r=.ok d S/\Q d S
theorem KJ {o:Out}{Q:qE->Sto->Prop}{env:qE}{S:Sto}(h:o=.nx env S)(q:Q env S):Nx o Q:=⟨env,S,h,q⟩
theorem qS {β:Type}{r:Res β}{Q:β->Sto->Prop}{d:β}{S:Sto}(h:r=.ok d S)(q:Q d S):Ok r Q:=⟨d,S,h,q⟩
theorem DC {f g:DS}{env:qE}{S:Sto}{Q:qE->Sto->Prop}(h:Nx (f env S) λenv1 S1=>Nx (g env1 S1) Q):Nx (qM f g env S) Q:=by
 obtain⟨env1,S1,e,env2,S2,e2,q⟩:=h;exact⟨env2,S2,by unfold qM;rw[e];exact e2,q⟩
theorem WQ {f g:DS}{env:qE}{S:Sto}{Q:D->Sto->Prop}(h:Nx (f env S) λenv1 S1=>Rt (g env1 S1) Q):Rt (qM f g env S) Q:=by
 obtain⟨env1,S1,e,env2,S2,e2,q⟩:=h;exact⟨env2,S2,by unfold qM;rw[e];exact e2,q⟩
theorem CH {t:DT}{f g:DS}{env:qE}{S:Sto}{b:Ar}{Q:qE->Sto->Prop}(h:t env S=.ok b S1)(k:Nx ((if b then f else g) env S1) Q):Nx (sIf t f g env S) Q:=by
 obtain⟨env2,S2,e2,q⟩:=k;refine⟨env2,S2,?_,q⟩;unfold sIf;rw[h];cases b <;> exact e2
theorem XJ {f:DE}{i:Ai}{env:qE}{S:Sto}{Q:qE->Sto->Prop}(h:Ok (f env S) λd S1=>Q (env.set i (Ab d)) S1):Nx (qV f (gNm i) env S) Q:=by
 obtain⟨d,S1,e,q⟩:=h;exact⟨_,S1,by unfold qV gNm;rw[e];rfl,q⟩
theorem RS {f:DE}{env:qE}{S:Sto}{Q:D->Sto->Prop}(h:Ok (f env S) Q):Rt (zA f env S) Q:=by
 obtain⟨d,S1,e,q⟩:=h;exact⟨_,S1,by unfold zA;rw[e];rfl,q⟩
theorem DB {fi:DI}{g:DG}{f:DS}{env:qE}{S:Sto}{Q:qE->Sto->Prop}(h:fi env S=.ok ds S1)(k:Nx (yM g f ds env S1) Q):Nx (vP fi g f env S) Q:=by
 obtain⟨env2,S2,e2,q⟩:=k;exact⟨env2,S2,by unfold vP;rw[h];exact e2,q⟩
theorem aW {g:DG}{f:DS}{Q:qE->Sto->Prop}(I:Aa D->qE->Sto->Prop)(turn:∀ d ds env S,I (d::ds) env S->∃ env1 S1,g d env S=.ok env1 S1/\Nx (f env1 S1) (I ds))(last:∀ env S,I [] env S->Q env S) :
  ∀ {ds:Aa D} {env:qE} {S:Sto},I ds env S->Nx (yM g f ds env S) Q
 |[],env,S,h=>⟨env,S,rfl,last env S h⟩
 |d::ds,env,S,h=>by
  obtain⟨env1,S1,e1,env2,S2,e2,h2⟩:=turn d ds env S h;obtain⟨env3,S3,e3,q⟩:=aW I turn last (ds:=ds) h2;refine⟨env3,S3,?_,q⟩;unfold yM;simp only[e1,Res.toS,e2];exact e3
theorem fN {fe:DE}{env:qE}{S:Sto}{acc:Aa D}{x:D}(h:fe env S=.ok x S1)(hl:acc.length<lim):zG fe env S acc=.ok (env,acc++[x]) S1:=by
 unfold zG;rw[h];simp[Res.bind,hl]
theorem p7 {cap:Aa (Al Ai)}{fi:DI2}{g:DG}{t:DT}{k:DK}{env:qE}{S:Sto}{o:Al (Ai × MO)}{items:Aa D}(h:fi env S=.ok (o,items) S1)(e:goL o g t k items (xJ cap env) S1 [] = .ok (env',ds) S'):zD false cap fi g t k env S=.ok (.lst ds) S':=by
 unfold zD;rw[h];simp only[Res.bind,e,mkM];rfl
theorem RU {g:DS}{S:Sto}{d:D}{env:qE}(hs:yG n ds=env)(h:g env S=.rt d S'):qT n g ds S=.ok d S':=by
 subst hs;unfold qT;rw[h];rfl
theorem tX {S:Sto}{i:Ai}{m:MO}(h:S[i]? = Ab m)(e:S<+:S'):S'[i]? = Ab m:=by
 obtain⟨r,rfl⟩:=e;rw[Cb (Az.mp h).1];exact h
theorem cY {α β:Type}(sel:α->Ar)(val:α->β)(l:Aa α) : (l.flatMap λd=>if sel d then [val d] else []) = (l.filter sel).map val:=by
 induction l with
 |nil=>rfl
 |cons d l ih =>
  rw[Kk,ih];cases h:sel d <;> simp[h]
theorem goT {α:Type}{enc:α->D}{o:Al (Ai × MO)}{g:DG}{t:DT}{k:DK}(out:α->Aa D)(C:qE->Sto->Prop)(hC:∀ env S,C env S->stn o S) :
  ∀ (xs:Aa α) (env:qE) (S:Sto) (acc:Aa D),C env S->acc.length+(xs.flatMap out).length<=lim ->
  (∀ x∈xs,∀ env S acc,C env S->acc.length+(out x).length<=lim->∃ env1 S1 b S2,g (enc x) env S=.ok env1 S1/\t env1 S1=.ok b S2/\((b=false/\out x=[]/\C env1 S2)\/(b=true/\∃ env3 S3,k env1 S2 acc=.ok (env3,acc++out x) S3/\C env3 S3))) ->
  ∃ env' S',goL o g t k (xs.map enc) env S acc=.ok (env',acc++xs.flatMap out) S'/\C env' S'
 |[],env,S,acc,h,hl,_=>⟨env,S,by simp[goL,j0.mpr (hC _ _ h)],h⟩
 |x::xs,env,S,acc,h,hl,step=>by
  rw[Kk,Cj] at hl;obtain⟨env1,S1,b,S2,e1,e2,r⟩:=step x (Cz ..) env S acc h om;have hst:=j0.mpr (hC _ _ h);rcases r with⟨rfl,h0,h2⟩|⟨rfl,env3,S3,e3,h3⟩
  .obtain⟨env',S',e,q⟩:=goT out C hC xs env1 S2 acc h2 om λd hd=>step d (Cc _ hd)
   refine⟨env',S',?_,q⟩;simp only[Ee,goL,hst,Dt,e1,e2,Res.bind,Bu,Eh,Kk,h0,Hn];exact e
  .obtain⟨env',S',e,q⟩:=goT out C hC xs env3 S3 (acc++out x) h3 (by rw[Cj];omega) λd hd=>step d (Cc _ hd)
   refine⟨env',S',?_,q⟩;simp only[Ee,goL,hst,Dt,e1,e2,Res.bind,e3,Kk];rw[e,Fl]
section
variable {α β:Type}{enc:α->D}{enc2:β->D}{cap:Aa (Al Ai)}{fi:DI2}{g:DG}{t:DT}{fe:DE}{env:qE}{S S0:Sto}{o:Al (Ai × MO)}{xs:Aa α}
theorem HM (hst:stn o S)(sel:α->Ar)(val:α->D)(C:qE->Prop)(h0:C env)(hl:xs.length<=lim)
  (step:∀ x∈xs,∀ env,C env->∃ env1,g (enc x) env S=.ok env1 S/\C env1/\t env1 S=.ok (sel x) S/\(sel x=true->fe env1 S=.ok (val x) S)) :
  ∃ env',goL o g t (zG fe) (xs.map enc) env S [] = .ok (env',(xs.filter sel).map val) S:=by
 have lf:(xs.flatMap λd=>if sel d then [val d] else []).length<=lim:=by
  rw[cY,Aq];exact Cq (Ip _ _) hl
 obtain⟨env',S',e,_,q⟩:=goT (enc:=enc) (o:=o) (g:=g) (t:=t) (k:=zG fe) (λd=>if sel d then [val d] else []) (λenv S'=>C env/\S'=S) (λ_ _ h=>h.2▸hst) xs env S [] ⟨h0,rfl⟩ (by simpa using lf) (λd hd env S' acc hC hl=>by
  obtain⟨hc,rfl⟩:=hC;obtain⟨env1,e1,c1,e2,k⟩:=step d hd env hc;refine⟨env1,S',sel d,S',e1,e2,?_⟩;cases hs:sel d with
  |false=>exact .inl ⟨rfl,by simp,c1,rfl⟩
  |true =>
   refine .inr ⟨rfl,env1,S',?_,c1,rfl⟩;simp only[Dt];exact fN (k hs) (by simp only[hs,Dt,No] at hl;omega))
 subst q;refine⟨env',?_⟩;rw[e,Hn,cY]
theorem cP (h:fi env S=.ok (o,xs.map enc) S)(hst:stn o S)(sel:α->Ar)(val:α->D)(C:qE->Prop)(h0:C (xJ cap env))(hl:xs.length<=lim)
  (step:∀ x∈xs,∀ env,C env->∃ env1,g (enc x) env S=.ok env1 S/\C env1/\t env1 S=.ok (sel x) S/\(sel x=true->fe env1 S=.ok (val x) S)) :
  zD false cap fi g t (zG fe) env S=.ok (.lst ((xs.filter sel).map val)) S:=by
 obtain⟨env',e⟩:=HM hst sel val C h0 hl step;exact p7 h e
end
theorem JY {o:G2}{f g:DE}{env:qE}{S:Sto}{a b:D}(h1:f env S=.ok a S1)(h2:g env S1=.ok b S2):d2 o f g env S=o a b S2:=by
 unfold d2;rw[h1];simp only[Res.bind];rw[h2]
theorem pX {env:qE}{S:Sto}{a:D}(h1:f1 env S=.ok a S1):qN 1 F (qA f1 (qB)) env S=F [a] S1:=by
 simp only[qN,qA,qB,h1,Res.bind,Ch,Ez,Dt]
theorem JV {f2:DE}{env:qE}{S:Sto}{a b:D}(h1:f1 env S=.ok a S1)(h2:f2 env S1=.ok b S2):qN 2 F (qA f1 (qA f2 (qB))) env S=F [a,b] S2:=by
 simp only[qN,qA,qB,h1,h2,Res.bind,Ch,Ez,Dt]
theorem G6 {f:DE}{env:qE}{S:Sto}{b:Ar}(h:f env S=.ok (.bl b) S1):dTr f env S=.ok b S1:=by
 unfold dTr;rw[h];rfl
theorem ZG {env:qE}{S:Sto}{a:D}(h1:f1 env S=.ok a S1):qA f1 (qB) env S=.ok [a] S1:=by
 simp only[qA,qB,h1,Res.bind]
theorem TQ {f2:DE}{env:qE}{S:Sto}{a b:D}(h1:f1 env S=.ok a S1)(h2:f2 env S1=.ok b S2):qA f1 (qA f2 (qB)) env S=.ok [a,b] S2:=by
 simp only[qA,qB,h1,h2,Res.bind]
theorem WY {g:DA}{env:qE}{S:Sto}{as:Aa D}(k:g env S=.ok as S1)(h:as.length<=lim):qU g env S=.ok (.tup as) S1:=by
 simp only[qU,k,Res.bind,h,Dt]
theorem tE {env:qE}{i:Ai}{d:D}{S:Sto}(h:env[i]? = Ab (Ab d)):qC i env S=.ok d S:=by simp only[qC,h]
theorem QZ {α:Type}(p:α->Ar)(l:Aa α) : zX (l.map λx=>D.bl (p x))=Ab (l.map p):=by
 induction l with
 |nil=>rfl
 |cons x l ih =>
  show (zX (l.map λx=>D.bl (p x))).map (p x::·)=_
  rw[ih];rfl
section
variable {β γ:Type}{env:qE}{S:Sto}
theorem qW {r:Res β}{k:β->Sto->Res γ}{Q:γ->Sto->Prop}(h:Ok r λd S1=>Ok (k d S1) Q):Ok (r.bind k) Q:=by
 obtain⟨d,S1,rfl,h⟩:=h;exact h
theorem zW {r:Res β}{d:β}(h:Ok r λd' S'=>d'=d/\S'=S):r=.ok d S:=by
 obtain⟨_,_,e,rfl,rfl⟩:=h;exact e
theorem zE {r:Res β}{Q Q':β->Sto->Prop}(h:Ok r Q)(k:∀ d S,Q d S->Q' d S):Ok r Q':=by
 obtain⟨d,S,e,q⟩:=h;exact⟨d,S,e,k d S q⟩
variable {Q:D->Sto->Prop}{f g:DE}{fa:DA}{o:G2}{i j:Ai}
theorem o_c {d:D}(h:Q d S):Ok (dC d env S) Q:=⟨_,_,rfl,h⟩
theorem o_v {d:D}(e:env[i]? = Ab (Ab d))(h:Q d S):Ok (qC i env S) Q:=⟨_,_,tE e,h⟩
theorem o_2 (h:Ok (f env S) λa S1=>Ok (g env S1) λb S2=>Ok (o a b S2) Q):Ok (d2 o f g env S) Q:=qW (zE h λ_ _=>qW)
theorem o_1 {u:D->Sto->Res D}(h:Ok (f env S) λa S1=>Ok (u a S1) Q):Ok (d1 u f env S) Q:=qW h
theorem sE {Q:Aa D->Sto->Prop}(h:Q [] S):Ok (qB env S) Q:=⟨_,_,rfl,h⟩
theorem kA {Q:Aa D->Sto->Prop}(h:Ok (f env S) λa S1=>Ok (fa env S1) λas S2=>Q (a::as) S2):Ok (qA f fa env S) Q:=qW (zE h λ_ _ k=>qW (zE k λ_ _ q=>⟨_,_,rfl,q⟩))
theorem qAh (h:Ok (fa env S) λas S1=>as.length<=lim/\Q (.tup as) S1):Ok (qU fa env S) Q:=qW (zE h λ_ _ k=>⟨_,_,Bb k.1,k.2⟩)
theorem CN (h:Ok (fa env S) λas S1=>as.length<=lim/\Q (.lst as) S1):Ok (xD fa env S) Q:=qW (zE h λ_ _ k=>⟨_,_,Bb k.1,k.2⟩)
theorem qAQ (h:Ok (fa env S) λas S1=>as.length<=lim/\Q (.loc S1.length) (S1++[.lst as])):Ok (kN fa env S) Q:=qW (zE h λ_ _ k=>⟨_,_,Bb k.1,k.2⟩)
theorem qAY (h:Q (.loc S.length) (S++[.dct []])) : Ok (rA env S) Q:=⟨_,_,rfl,h⟩
theorem qAM (h:Q .dct0 S):Ok (dU env S) Q:=⟨_,_,rfl,h⟩
theorem XM (h:Ok (fa env S) λas S1=>as.length=n/\Ok (F as S1) Q):Ok (qN n F fa env S) Q:=qW (zE h λ_ _ k=>by rw[Bb k.1];exact k.2)
theorem qAd {as:Aa D}(h:Ok (F as S) Q):Ok (okO F as S) Q:=by
 obtain⟨d,S1,e,q⟩:=h;exact⟨d,S1,XQ e,q⟩
theorem qAn (h:Ok (fa env S) λas S1=>Ok (F as S1) Q):Ok (qL F fa env S) Q:=qW h
theorem qAX (h:Q (.int (a+b)) S):Ok (zH (.int a) (.int b) S) Q:=⟨_,_,rfl,h⟩
theorem pM {a b:Aa D}(l:a.length+b.length<=lim)(h:Q (.tup (a++b)) S):Ok (zH (.tup a) (.tup b) S) Q:=⟨_,_,Bb l,h⟩
theorem vB {a b:Aa D}(l:a.length+b.length<=lim)(h:Q (.lst (a++b)) S):Ok (zH (.lst a) (.lst b) S) Q:=⟨_,_,Bb l,h⟩
theorem qAg (h:Q (.int (a-b)) S):Ok (wA (.int a) (.int b) S) Q:=⟨_,_,rfl,h⟩
theorem qAc (h:Q (.int (-a)) S):Ok (kR (.int a) S) Q:=⟨_,_,rfl,h⟩
theorem qAb (l : -(2 ^ 64)<a/\a<2 ^ 64)(h:Q (.int (a*b)) S):Ok (zU (.int a) (.int b) S) Q:=by
 refine⟨_,_,?_,h⟩;unfold zU i2;rw[sU];unfold sT;simp only[l,and_self,decide_true,Bool.true_or,Dt]
theorem qAa (l:0<b)(h:Q (.int (a % b)) S):Ok (jJ (.int a) (.int b) S) Q:=by
 refine⟨_,_,?_,h⟩;unfold jJ i2;simp[l]
theorem qAZ (l:0<b/\b<1073741824)(h:Q (.int (a/b)) S):Ok (fJ (.int a) (.int b) S) Q:=by
 refine⟨_,_,?_,h⟩;unfold fJ i2 T1;simp[l]
theorem qAv (h:Q (.bl (decide (a<b))) S):Ok (gLt (.int a) (.int b) S) Q:=⟨_,_,rfl,h⟩
theorem qAu (h:Q (.bl (decide (a<=b))) S):Ok (gLe (.int a) (.int b) S) Q:=⟨_,_,rfl,h⟩
theorem qAt (h:Q (.bl (decide (b<a))) S):Ok (gGt (.int a) (.int b) S) Q:=⟨_,_,rfl,h⟩
theorem qAr (h:Q (.bl (decide (b<=a))) S):Ok (gGe (.int a) (.int b) S) Q:=⟨_,_,rfl,h⟩
theorem DM (h:Q (.bl (decide (a=b))) S):Ok (gEq (.int a) (.int b) S) Q:=⟨_,_,by kernel_rfl!,h⟩
theorem qAw (h:Q (.bl (!decide (a=b))) S):Ok (gNe (.int a) (.int b) S) Q:=⟨_,_,by kernel_rfl!,h⟩
theorem Q2 {a:Aa D}{k:Am}{d:D}(e:_L.atI a k=Ab d)(h:Q d S):Ok (gIx (.tup a) (.int k) S) Q:=⟨d,S,by show _D.vM (_L.atI a k) S=_;rw[e];rfl,h⟩
theorem Q1 {a:Aa D}{k:Am}{d:D}(e:_L.atI a k=Ab d)(h:Q d S):Ok (gIx (.lst a) (.int k) S) Q:=⟨d,S,by show _D.vM (_L.atI a k) S=_;rw[e];rfl,h⟩
theorem qAP {a:Aa D}(h:Q (.int a.length) S):Ok (xF [.tup a] S) Q:=⟨_,_,rfl,h⟩
theorem qAO {a:Aa D}(h:Q (.int a.length) S):Ok (xF [.lst a] S) Q:=⟨_,_,rfl,h⟩
theorem qAT {a:Aa D}(h:Q (.tup a) S):Ok (jV [.lst a] S) Q:=⟨_,_,rfl,h⟩
theorem qAR {a:Aa D}(h:Q (.lst a) S):Ok (dX [.tup a] S) Q:=⟨_,_,rfl,h⟩
theorem oY (h:Ok (f env S) λd S1=>∃ b,d=.bl b/\(b=true->Ok (g env S1) Q)/\(b=false->Q (.bl false) S1)):Ok (p5 f g env S) Q:=qW (zE h λd S1 ⟨b,e,k1,k2⟩=>by
 subst e;cases b with
 |true=>exact k1 rfl
 |false=>exact⟨_,_,rfl,k2 rfl⟩)
theorem qA1 {fl fh:DO}(h:Ok (f env S) λd S1=>Ok (fl env S1) λlo S2=>Ok (fh env S2) λhi S3=>Ok (gSl d lo hi S3) Q):Ok (dSl f fl fh env S) Q:=qW (zE h λ_ _ k=>qW (zE k λ_ _=>qW))
theorem qAf {a:Aa D}(h:Q (.tup (xK a lo hi)) S):Ok (gSl (.tup a) lo hi S) Q:=⟨_,_,rfl,h⟩
theorem qAe {a:Aa D}(h:Q (.lst (xK a lo hi)) S):Ok (gSl (.lst a) lo hi S) Q:=⟨_,_,rfl,h⟩
theorem qAo {Q:Al Am->Sto->Prop}(h:Q none S):Ok (v8 env S) Q:=⟨_,_,rfl,h⟩
theorem qAp {Q:Al Am->Sto->Prop}(h:Ok (f env S) λd S1=>∃ k,d=.int k/\Q (Ab k) S1):Ok (xX f env S) Q:=qW (zE h λ_ _ ⟨_,e,q⟩=>by subst e;exact⟨_,_,rfl,q⟩)
theorem qAm {T:Ef}{m:D->Aa D->Sto->Res D}(h:Ok (f env S) λa S1=>tyD a S1=Ab T/\Ok (fa env S1) λas S2=>Ok (m a as S2) Q):Ok (dBm T m f fa env S) Q:=qW (zE h λ_ _ k=>by rw[k.1,Bb (by simp)];exact qW k.2)
theorem DH {a b:D}{xs ys:Aa D}(e1:lstM a S=Ab xs)(e2:lstM b S=Ab ys)(l:xs.length+ys.length<=lim)(h:Q (.loc S.length) (S++[.lst (xs++ys)])):Ok (b8 a b S) Q:=⟨_,_,by unfold b8;rw[e1,e2];exact Bb l,h⟩
theorem DD {a b:D}{xs ys:Aa D}(e1:lstM a S=Ab xs)(e2:lstM b S=Ab ys)(l:xs.length+ys.length<=lim)(h:Q (.lst (xs++ys)) S):Ok (b7 a b S) Q:=⟨_,_,by unfold b7;rw[e1,e2];exact Bb l,h⟩
theorem oZ {xs:Aa D}{d:D}(e:S[i]? = Ab (.lst xs))(l:xs.length<lim)(h:Q .non (S.set i (.lst (xs++[d])))):Ok (y9 (.loc i) [d] S) Q:=by
 refine⟨_,_,?_,h⟩;show (match S[i]? with|some (.lst xs)=>(if xs.length<lim then Res.ok D.non (S.set i (.lst (xs++[d]))) else .bad)|_=>.bad)=_
 rw[e];exact Bb l
variable {Q:Ar->Sto->Prop}{t u:DT}
theorem DY (h:Ok (f env S) λd S1=>∃ b,xO d S1=Ab b/\Q b S1):Ok (dTr f env S) Q:=qW (zE h λd S1 ⟨b,e,k⟩=>by
 rw[e];exact⟨_,_,rfl,k⟩)
theorem DU (h:Ok (t env S) λb S1=>Q (!b) S1):Ok (v7 t env S) Q:=qW (zE h λ_ _ k=>⟨_,_,rfl,k⟩)
theorem qAi (h:Q true S):Ok (xM env S) Q:=⟨_,_,rfl,h⟩
theorem bF (h:Ok (t env S) λb S1=>(b=true->Q true S1)/\(b=false->Ok (u env S1) Q)):Ok (kO t u env S) Q:=qW (zE h λb S1 k=>by
 cases b with
 |true=>exact⟨_,_,rfl,k.1 rfl⟩
 |false=>exact k.2 rfl)
theorem DJ (h:Ok (t env S) λb S1=>(b=true->Ok (u env S1) Q)/\(b=false->Q false S1)):Ok (u7 t u env S) Q:=qW (zE h λb S1 k=>by
 cases b with
 |true=>exact k.1 rfl
 |false=>exact⟨_,_,rfl,k.2 rfl⟩)
theorem o4 {xs:Aa D}{a:Ai}(h:a<xs.length):_L.atI xs (a:Am)=Ab xs[a]:=by
 have e:_L.ixN xs.length (a:Am)=Ab a:=by simp[_L.ixN];omega
 simp[_L.atI,e,h]
theorem yS (S:Sto)(m:MO):(S++[m])[S.length]? = Ab m:=by simp
theorem eZ (S:Sto)(m m':MO):(S++[m]).set S.length m'=S++[m']:=by simp
theorem sL {xs:Aa D}(h:S[j]? = Ab (.lst xs)):tyD (.loc j) S=Ab "list":=by
 show (match S[j]? with|some (.lst _)=>Ab "list" | some (.dct _)=>Ab "dict" | _=>none)=_
 rw[h]
theorem HV {xs:Aa D}(h:S[j]? = Ab (.lst xs)):lstM (.loc j) S=Ab xs:=by
 show (match S[j]? with|some (.lst xs)=>Ab xs|_=>none)=_
 rw[h]
theorem sD {Q:D->Sto->Prop}{a:Aa D}{k:Ai}(h:k<a.length)(q:∀ d∈a,Q d S):Ok (gIx (.lst a) (.int (k:Am)) S) Q:=Q1 (o4 h) (q _ (Hr h))
theorem qAN {Q:Aa D->Sto->Prop}(h:Ok (f env S) λd S1=>∃ xs,d=.tup xs/\Q (yI xs) S1):Ok (dW (qA f qB) env S) Q:=qW (kA (zE h λ_ _ ⟨xs,e,q⟩=>sE ⟨_,_,by rw[e];rfl,q⟩))
theorem BV {Q:Aa D->Sto->Prop}(h:Ok (f env S) λd S1=>∃ ds,zV d=Ab ds/\Q ds S1):Ok (uL f env S) Q:=qW (zE h λd S1 ⟨ds,e,k⟩=>⟨ds,S1,by rw[e];rfl,k⟩)
theorem KM {Q:Aa D->Sto->Prop}(h:Ok (fa env S) λas S1=>∃ ds,pO as=Ab ds/\Q ds S1):Ok (yN fa env S) Q:=qW (zE h λd S1 ⟨ds,e,k⟩=>⟨ds,S1,by rw[e];rfl,k⟩)
theorem KW (n:Ai)(h:n<=1000000):pO [.int (n:Am)]=Ab ((Cg n).map λ(i:Ai)=>D.int (i:Am)):=by
 unfold pO;have : -(2 ^ 62)<=(n:Am)/\(n:Am)<2 ^ 62:=⟨by omega,by omega⟩
 refine(Bb this).trans ?_;unfold wZ;rw[Fn]
 congr 2
 funext i
 rw[Int.zero_add]
theorem qAS {Q:Aa D->Sto->Prop}(h:Ok (f env S) λd S1=>∃ k:Am,d=.int k/\0<=k/\k<=1000000/\Q ((Cg k.toNat).map λ(i:Ai)=>D.int (i:Am)) S1):Ok (yN (qA f qB) env S) Q:=KM (kA (zE h λ_ _ ⟨k,e,h0,h1,q⟩=>sE ⟨_,by
 have:=KW k.toNat om;rw[Int.toNat_of_nonneg h0] at this;rw[e,this],q⟩))
theorem gB {Q:D->Sto->Prop}{xs:Aa D}{k:Am}{d:D}(e:S[i]? = Ab (.lst xs))(e':_L.atI xs k=Ab d)(h:Q d S):Ok (gIx (.loc i) (.int k) S) Q:=by
 refine⟨d,S,?_,h⟩;show (match S[i]? with|some (.lst xs)=>_D.vM (_L.atI xs k) S|_=>.bad)=_
 rw[e];show _D.vM (_L.atI xs k) S=_;rw[e'];rfl
theorem XN {Q:D->Sto->Prop}{xs:Aa D}(e:S[i]? = Ab (.lst xs))(h:Q (.int xs.length) S):Ok (xF [.loc i] S) Q:=by
 refine⟨_,_,?_,h⟩;have e':oQ (.loc i) S=Ab xs.length:=by
  show (match S[i]? with|some (.lst xs)=>Ab xs.length|_=>none)=_
  rw[e]
 show (match oQ (.loc i) S with|some n=>Res.ok (D.int n) S|none=>.bad)=_
 rw[e']
theorem CP {Q:D->Sto->Prop}{xs:Aa D}{k:Ai}(e:S[i]? = Ab (.lst xs))(hk:k<xs.length)(hb:k<1000000)(h:Q xs[k] (S.set i (.lst (xs.eraseIdx k)))):Ok (pC (.loc i) [.int (k:Am)] S) Q:=by
 refine⟨_,_,?_,h⟩;show bG S i (λxs=>if 0<=(k:Am)/\(k:Am)<1000000 then (match xs[(k:Am).toNat]? with|some d=>Res.ok d (S.set i (.lst (xs.eraseIdx (k:Am).toNat)))|none=>.bad) else .bad)=_
 unfold bG;rw[e];show (if 0<=(k:Am)/\(k:Am)<1000000 then _ else _)=_
 rw[Bb ⟨by omega,by omega⟩,Fn,An hk]
theorem DW {Q:Qm->Sto->Prop}{d:D}{n:Am}(e:S[i]? = Ab (.dct kvs))(hl:kvs.length<lim)(h:Q () (S.set i (.dct (yB kvs (.inl n) d)))):Ok (wQ (.loc i) (.int n) d S) Q:=by
 refine⟨_,_,?_,h⟩;show (match S[i]? with|some (.dct kvs)=>(match yO (.int n) with|some k=>(if kvs.length<lim then Res.ok () (S.set i (.dct (yB kvs k d))) else .bad)|none=>.bad)|_=>pD (.loc i) (.int n) d S)=_
 rw[e];exact Bb hl
theorem XO {Q:Qm->Sto->Prop}{xs:Aa D}{d:D}{n:Am}(e:S[i]? = Ab (.lst xs))(e':_L.ixN xs.length n=Ab j)(h:Q () (S.set i (.lst (xs.set j d)))):Ok (wQ (.loc i) (.int n) d S) Q:=by
 refine⟨_,_,?_,h⟩;simp[wQ,pD,e,e']
theorem rB (h:S[i]? = Ab (.dct kvs)):vS (.loc i) S=Ab kvs:=by
 show (match S[i]? with|some (.dct kvs)=>Ab kvs|_=>none)=_
 rw[h]
theorem CJ {Q:D->Sto->Prop}{n:Am}(e:S[i]? = Ab (.dct kvs))(h:Q (.bl (xA kvs (.inl n)).isSome) S):Ok (tV (.int n) (.loc i) S) Q:=⟨_,_,by unfold tV;rw[rB e];rfl,h⟩
theorem CM {Q:D->Sto->Prop}{n:Am}{d:D}(e:S[i]? = Ab (.dct kvs))(e':xA kvs (.inl n)=Ab d)(h:Q d S):Ok (fK (.loc i) (.int n) S) Q:=by
 refine⟨d,S,?_,h⟩;unfold fK;rw[rB e];show (match xA kvs (.inl n) with|some d=>Res.ok d S|none=>.bad)=_
 rw[e']
theorem oN {xs:Aa D}(h:env[i]? = Ab (Ab (.tup xs))):dIt (qC i) env S=.ok (none,xs) S:=by
 unfold dIt;rw[tE h];rfl
theorem OH {xs:Aa D}(h:env[i]? = Ab (Ab (.lst xs))):dIt (qC i) env S=.ok (none,xs) S:=by
 unfold dIt;rw[tE h];rfl
theorem OI {xs:Aa D}(h:env[i]? = Ab (Ab (.loc j)))(e:S[j]? = Ab (.lst xs)):dIt (qC i) env S=.ok (Ab (j,.lst xs),xs) S:=by
 unfold dIt;rw[tE h];show (match S[j]? with|some (.lst xs)=>Res.ok (Ab (j,MO.lst xs),xs) S|_=>.bad)=_
 rw[e]
theorem OJ (h:n<=1000000):wR (yN (qA (dC (.int (n:Am))) qB)) env S=.ok (none,(Cg n).map λ(i:Ai)=>D.int (i:Am)) S:=zW (qW (KM (kA (o_c (sE ⟨_,KW n h,_,_,rfl,rfl,rfl⟩)))))
theorem fH {α:Type}(f:α->β):∀ l:Aa α,l.flatMap (λx=>[f x])=l.map f
 |[]=>rfl
 |x::l=>by rw[Kk,fH f l];rfl
theorem k9 {α:Type}{enc:α->D}{o:Al (Ai × MO)}{cap:Aa (Al Ai)}{fi:DI2}{tg:DG}{fe:DE}{Q:D->Sto->Prop}(xs:Aa α)(val:α->D)(C:qE->Sto->Prop)(hi:fi env S=.ok (o,xs.map enc) S1)(h0:C (xJ cap env) S1)(hl:xs.length<=lim)(hst:∀ env S,C env S->stn o S)
  (step:∀ x∈xs,∀ env S,C env S->Ok (tg (enc x) env S) λenv1 S1=>Ok (t env1 S1) λb S2=>b=true/\Ok (fe env1 S2) λd S3=>d=val x/\C env1 S3) (q:∀ env' S',C env' S'->Q (.lst (xs.map val)) S'):Ok (zD false cap fi tg t (zG fe) env S) Q:=by
 have fm:=fH val xs;obtain⟨env',S',e,c⟩:=goT (enc:=enc) (o:=o) (g:=tg) (t:=t) (k:=zG fe) (λx=>[val x]) C hst xs (xJ cap env) S1 [] h0 (by rw[fm,Aq];simpa using hl) (λx hx env S acc hC hl=>by
  obtain⟨env1,S1,e1,b,S2,e2,rfl,d,S3,e3,rfl,c3⟩:=step x hx env S hC;exact⟨env1,S1,true,S2,e1,e2,.inr ⟨rfl,env1,S3,fN e3 (by simp at hl;omega),c3⟩⟩)
 rw[fm,Hn] at e;exact⟨_,_,p7 hi e,q env' S' c⟩
theorem sC {α:Type}{Q:D->Sto->Prop}{l:Aa α}{p:α->Ar}(h:Q (.bl (l.all p)) S):Ok (pA false [.lst (l.map λx=>.bl (p x))] S) Q:=by
 refine⟨_,_,?_,h⟩;show (match (zV (.lst (l.map λx=>D.bl (p x)))).bind zX with|some bs=>Res.ok (D.bl (bs.all id)) S|none=>.bad)=_
 rw[show (zV (.lst (l.map λx=>D.bl (p x)))).bind zX=Ab (l.map p) from QZ p l]
 simp only[Jr];rfl
theorem DQ {Q:D->Sto->Prop}{gg:G2}{a b x y:D}{z:D}(e1:vL fG S a=Ab x)(e2:vL fG S b=Ab y)(e3:gg x y (u9 S)=.ok z (u9 S))(ha:o6 z=true)(h:Q z S):Ok (bD gg a b S) Q:=by
 refine⟨z,S,?_,h⟩;unfold bD;rw[e1,e2];show oR (gg x y (u9 S)) S=_;rw[e3];exact Bb ha
theorem BQ {f:D->Al D}{xs:Aa D}(h:∀ x∈xs,f x=Ab x):mapO f xs=Ab xs:=by
 induction xs with
 |nil=>rfl
 |cons x xs ih=>simp[mapO,h x (Cz ..),ih λy hy=>h y (Cc _ hy)]
theorem eV {xs:Aa D}(e:S[i]? = Ab (.lst xs))(h:∀ x∈xs,vL 19 S x=Ab x):vL fG S (.loc i)=Ab (.lst xs):=by
 show (match S[i]? with|some (.lst xs)=>(mapO (vL 19 S) xs).map D.lst|_=>none)=_
 rw[e];show (mapO (vL 19 S) xs).map D.lst=_;rw[BQ h];rfl
theorem qA0 {Q:qE->Sto->Prop}{h:G3}{d:D}(k:Ok (f env S) λa S1=>Ok (g env S1) λb S2=>Ok (h a b d S2) λ_ S3=>Q env S3):Ok (gSb f g h d env S) Q:=qW (zE k λ_ _ k=>qW (zE k λ_ _ k=>qW (zE k λ_ _ q=>⟨_,_,rfl,q⟩)))
variable {Q:qE->Sto->Prop}
theorem qAx {d:D}(h:Q (env.set i (Ab d)) S):Ok (gNm i d env S) Q:=⟨_,_,rfl,h⟩
theorem OO {gs:DGs}{xs:Aa D}(h:xs.length=n/\Ok (gs xs env S) Q):Ok (gTp n gs (.tup xs) env S) Q:=by
 obtain⟨d,S1,e,q⟩:=h.2;exact⟨d,S1,by show (if xs.length=n then gs xs env S else .bad)=_;rw[Bb h.1];exact e,q⟩
theorem qAs (h:Q env S):Ok (vA [] env S) Q:=⟨_,_,rfl,h⟩
theorem qAq {t:DG}{gs:DGs}{x:D}{xs:Aa D}(h:Ok (t x env S) λenv1 S1=>Ok (gs xs env1 S1) Q):Ok (zR t gs (x::xs) env S) Q:=qW h
def Wo (P:Out->Prop)(o:Out):Prop:=P o
def JB (g:DS)(P:Out->Prop):Out->Prop
 |.nx env S=>P (g env S)
 |o=>P o
def cD (b:Ar)(f g:DS):DS:=match b with
 |true=>f
 |false=>g
def O7 (Q:D->Sto->Prop):Out->Prop
 |.rt d S=>Q d S
 |.nx _ S=>Q .non S
 |_=>Fh
def oU {α:Type}(I:Aa α -> qE->Sto->Prop)(xs:Aa α)(P:Out->Prop):Out->Prop
 |.nx env S=>I xs env S
 |.ct env S=>I xs env S
 |.bk env S=>P (.nx env S)
 |o=>P o
variable {P:Out->Prop}{sf sg:DS}{fi:DI}{tg:DG}{d:D}
theorem GD (h:Wo (JB sg P) (sf env S)):Wo P (qM sf sg env S):=by
 unfold qM;unfold Wo at h ⊢;cases e:sf env S <;> rw[e] at h <;> exact h
theorem AS (R:qE->Sto->Prop)(h:∀ P':Out->Prop,(∀ env S,R env S->Wo P' (.nx env S))->Wo P' (sf env S))(k:∀ env S,R env S->Wo P (sg env S)):Wo P (qM sf sg env S):=GD (h _ k)
theorem EC (h:Wo P (sg env S)):Wo (JB sg P) (.nx env S):=h
theorem qA4 (h:Wo P (.rt d S)):Wo (JB sg P) (.rt d S):=h
theorem qAV (h:Wo P (.nx env S)):Wo P (zL env S):=h
theorem gK {r:Res β}{k:β->Sto->Out}(h:Ok r λd S1=>Wo P (k d S1)):Wo P (r.toS env k):=by
 obtain⟨d,S1,rfl,h⟩:=h;exact h
theorem qAj (h:Ok (f env S) λd S1=>Ok (tg d env S1) λenv' S2=>Wo P (.nx env' S2)):Wo P (qV f tg env S):=gK (zE h λ_ _=>gK)
theorem qAU (h:Ok (f env S) λ_ S1=>Wo P (.nx env S1)):Wo P (wU f env S):=gK h
theorem GC (h:Ok (f env S) λd S1=>Wo P (.rt d S1)):Wo P (zA f env S):=gK h
theorem qAl (h:Ok (fa env S) λds S1=>∃ a b,ds=[a,b]/\Wo P (.nx ((env.set i (Ab a)).set j (Ab b)) S1)):Wo P (pP i j fa env S):=gK (zE h λ_ _ ⟨_,_,e,q⟩=>by subst e;exact q)
theorem qA3 (h:Ok (t env S) λb S1=>Wo P (cD b sf sg env S1)):Wo P (sIf t sf sg env S):=gK (zE h λb S1 q=>by cases b <;> exact q)
theorem w_t (h:Wo P (sf env S)):Wo P (cD true sf sg env S):=h
theorem w_f (h:Wo P (sg env S)):Wo P (cD false sf sg env S):=h
theorem qAk {b:Ar}(h:Wo P (cD b sg sf env S)):Wo P (cD (!b) sf sg env S):=by cases b <;> exact h
theorem wJ {p:Prop}[Mq p](h1:p->Wo P (sf env S))(h2:¬ p->Wo P (sg env S)):Wo P (cD (decide p) sf sg env S):=by
 by_cases h:p
 .rw[Cy h];exact h1 h
 .rw[Cn h];exact h2 h
theorem AU (h:Ok (fi env S) λds S1=>Wo P (yM tg sf ds env S1)):Wo P (vP fi tg sf env S):=gK h
theorem u0 {α:Type}{enc:α->D}(I:Aa α -> qE->Sto->Prop)(turn:∀ x xs env S,I (x::xs) env S->Ok (tg (enc x) env S) λenv1 S1=>Wo (oU I xs P) (sf env1 S1))(last:∀ env S,I [] env S->Wo P (.nx env S)) :
  ∀ {xs:Aa α} {env:qE} {S:Sto},I xs env S->Wo P (yM tg sf (xs.map enc) env S)
 |[],env,S,h=>last env S h
 |x::xs,env,S,h=>by
  obtain⟨env1,S1,e1,h1⟩:=turn x xs env S h;rw[Ee,yM];unfold Wo at h1 ⊢;simp only[e1,Res.toS];cases e2:sf env1 S1 with
  |nx env2 S2=>rw[e2] at h1;exact u0 I turn last h1
  |ct env2 S2=>rw[e2] at h1;exact u0 I turn last h1
  |bk env2 S2=>rw[e2] at h1;exact h1
  |rt d2 S2=>rw[e2] at h1;exact h1
  |ex c2 x2 env2 S2=>rw[e2] at h1;exact h1
  |bad=>rw[e2] at h1;exact h1
theorem iP (I:Aa D->qE->Sto->Prop)(turn:∀ x xs env S,I (x::xs) env S->Ok (tg x env S) λenv1 S1=>Wo (oU I xs P) (sf env1 S1))(last:∀ env S,I [] env S->Wo P (.nx env S)){xs:Aa D}{env:qE}{S:Sto}(h:I xs env S):Wo P (yM tg sf xs env S):=by
 have:=u0 (enc:=id) I turn last h
 rwa [Qi] at this
def whQ (I:Ai->qE->Sto->Prop)(n:Ai)(P:Out->Prop):Out->Prop
 |.nx env S=>∃ m,m<n/\I m env S
 |.ct env S=>∃ m,m<n/\I m env S
 |.bk env S=>P (.nx env S)
 |o=>P o
theorem MC (I:Ai->qE->Sto->Prop)(turn:∀ n env S,I n env S->Ok (t env S) λb S1=>(b=true->Wo (whQ I n P) (sf env S1))/\(b=false->Wo P (.nx env S1))){n:Ai}(hn:n<big)(h:I n env S):Wo P (t7 t sf env S):=by
 have key:∀ N n env S,n<N->I n env S->Wo P (u3 t sf N env S):=by
  intro N
  induction N with
  |zero=>intro n env S h;omega
  |succ N ih =>
   intro n env S h hI;obtain⟨b,S1,e1,k1,k2⟩:=turn n env S hI;unfold u3;rw[e1];cases b with
   |false=>exact k2 rfl
   |true =>
    have k:=k1 rfl;unfold Wo at k ⊢;simp only[Res.toS,Dt];cases e2:sf env S1 with
    |nx env2 S2=>rw[e2] at k;obtain⟨m,hm,hI2⟩:=k;exact ih m env2 S2 om hI2
    |ct env2 S2=>rw[e2] at k;obtain⟨m,hm,hI2⟩:=k;exact ih m env2 S2 om hI2
    |bk env2 S2=>rw[e2] at k;exact k
    |rt d2 S2=>rw[e2] at k;exact k
    |ex c2 x2 env2 S2=>rw[e2] at k;exact k
    |bad=>rw[e2] at k;exact k
 exact key big n env S hn h
theorem ED {I:Ai->qE->Sto->Prop}(m:Ai)(hm:m<n)(h:I m env S):Wo (whQ I n P) (.nx env S):=⟨m,hm,h⟩
theorem eW {x:D}(hs:yG n ds=env)(h:sf env S=.ex v x env' S'):qT n sf ds S=.ex v x S':=by
 subst hs;unfold qT;rw[h];rfl
theorem NW {x:D}(h:f env S=.ex v x S'):qM (wU f) sg env S=.ex v x env S':=by
 simp only[qM,wU,h,Res.toS]
theorem SI {x:D}(h:f env S=.ok x S'):qM (wU f) sg env S=sg env S':=by
 simp only[qM,wU,h,Res.toS]
theorem K7 {x:D}(h:t env S=.ok true S1)(k:sf env S1=.ex v x env' S'):sIf t sf sg env S=.ex v x env' S':=by
 simp only[sIf,h,Res.toS,Dt];exact k
theorem eP (v:Ac)(x:Av)(env:qE)(S:Sto):vX v (qA (dC (.str x)) (qB)) env S=.ex v .non env S:=by
 unfold vX;rw[ZG (show dC (.str x) env S=.ok (.str x) S from rfl)]
 show (if ([D.str x]:Aa D).length<=lim then Out.ex v D.non env S else Out.bad)=_
 exact Bb (Dd rfl)
theorem vW {α:Type}{I:Aa α -> qE->Sto->Prop}{xs:Aa α}(h:I xs env S):Wo (oU I xs P) (.nx env S):=h
theorem zJ {Q:D->Sto->Prop}(hs:yG n ds=env)(h:Wo (O7 Q) (sf env S)):Ok (qT n sf ds S) Q:=by
 subst hs;unfold qT;unfold Wo at h;cases e:sf (yG n ds) S <;> rw[e] at h <;> first|exact⟨_,_,rfl,h⟩|exact Ao h
end
abbrev Pt:=Am × Am
variable {ps:Aa Pt}
def ptD (p:Pt):D:=.tup [.int p.1,.int p.2]
def xZ (l:Aa Pt):D:=.tup (l.map ptD)
def kP (p:Pt):Aa Am:=[p.1,p.2]
def pK (k:Aa Am):Pt:=(k.getD 0 0,k.getD 1 0)
theorem uQ (ps:Aa Pt):ps.map ptD=(ps.map kP).map tpD:=by
 rw[Fg];rfl
def ltP (p q:Pt):Ar:=_H.lexLt [p.1,p.2] [q.1,q.2]
abbrev Up (l:Aa Pt):Prop:=l.Pairwise λp q=>ltP p q=true
def yC (ps:Aa Pt):Aa Pt:=(_S.srt _H.lexLt (ps.map kP)).map pK
theorem pW {ks:Aa (Aa Am)}(h:∀ k∈ks,k∈ps.map kP):ks.map tpD=(ks.map pK).map ptD/\(ks.map pK).map kP=ks:=by
 have e:∀ k∈ks,kP (pK k)=k:=λk hk=>by
  obtain⟨p,_,rfl⟩:=Bz.mp (h k hk);rfl
 have e2:(ks.map pK).map kP=ks:=by
  rw[Fg]
  conv=>rhs;rw[<- Qi ks]
  exact Hz e
 exact⟨by rw[uQ,e2],e2⟩
theorem LH {p q:Pt}(h:kP p=kP q):p=q:=by
 injection h with h1 h2
 injection h2 with h2 _
 exact Zu h1 h2
theorem hW (ps:Aa Pt):∀ k∈_S.srt _H.lexLt (ps.map kP),k∈ps.map kP:=λk hk=>(_S.yY _S.x8 k _).mp hk
theorem gH (ps:Aa Pt)(p:Pt):p∈yC ps↔p∈ps:=by
 unfold yC;constructor
 .intro h
  obtain⟨k,hk,rfl⟩:=Bz.mp h;obtain⟨q,hq,rfl⟩:=Bz.mp (hW ps k hk);exact hq
 .intro h
  exact Bz.mpr ⟨kP p,(_S.yY _S.x8 _ _).mpr (Bz.mpr ⟨p,h,rfl⟩),rfl⟩
theorem M2 (ps:Aa Pt):Up (yC ps):=by
 have h:=_S.kG _S.x8 (ps.map kP);rw[<- (pW (hW ps)).2,Dr] at h;exact h
theorem rN {K:Type}(lt':K->K->Ar)(x:K):∀ l:Aa K,(_S.uN lt' x l).length<=l.length+1
 |[]=>by simp[_S.uN]
 |y::l=>by
  have:=rN lt' x l;unfold _S.uN
  split
  .simp
  .split <;> simp <;> omega
theorem bL {K:Type}(lt':K->K->Ar):∀ l:Aa K,(_S.srt lt' l).length<=l.length
 |[]=>by simp[_S.srt]
 |x::l=>by
  have h1:=rN lt' x (_S.srt lt' l);have h2:=bL lt' l;rw[_S.srt,Ch];omega
theorem hJ (ps:Aa Pt):(yC ps).length<=ps.length:=by
 unfold yC;rw[Aq];exact Cq (bL _ _) (by simp)
theorem bW (ps:Aa Pt)(hl:ps.length<=63):uZ (ps.map ptD)=Ab ((yC ps).map ptD):=by
 unfold uZ yC;rw[<- (pW (hW ps)).1];cases ps with
 |nil=>rfl
 |cons p ps =>
  have h0:xV ((p::ps).map ptD)=none:=rfl;rw[h0,uQ,vZ];have h2:(((p::ps).map kP).all λk=>!k.isEmpty)=true:=by
   rw[Jr,Be];intro q _;rfl
  have h1:(_S.srt _H.lexLt ((p::ps).map kP)).length<=63:=Cq (bL _ _) (by rw[Aq];exact hl)
  exact Bb (by rw[h2,Cy h1];rfl)
def pR (ps:Aa Pt):Aa Pt:=(_S.yR _H.lexLt (ps.map kP)).map pK
theorem iM (ps:Aa Pt):∀ k∈_S.yR _H.lexLt (ps.map kP),k∈ps.map kP:=λk hk=>(_S.y0 _).mem_iff.mp hk
theorem E1 (ps:Aa Pt):(pR ps).map kP=_S.yR _H.lexLt (ps.map kP):=(pW (iM ps)).2
theorem pS (ps:Aa Pt):(pR ps).Perm ps:=by
 have h:=(_S.y0 (lt':=_H.lexLt) (ps.map kP)).map pK;rw[Fg] at h;have e:ps.map (pK∘kP)=ps:=by
  conv=>rhs;rw[<- Qi ps]
  exact Hz λq _=>rfl
 rw[e] at h;exact h
theorem M3 (nd:ps.Nodup):Up (pR ps):=by
 have h:=_S.kF _S.x8 (ps.map kP);unfold _S.Nf at h;rw[<- E1,Dr] at h;have nd':(pR ps).Nodup:=(pS ps).nodup_iff.mpr nd;refine(List.pairwise_and_iff.mpr ⟨h,nd'⟩).imp λ{a b} ⟨h1,h2⟩=>?_;rcases _S.x8.tri h1 with z|z
 .exact absurd (LH z).symm h2
 .exact z
theorem JD (ps:Aa Pt)(hl:ps.length<=63):gG (ps.map ptD)=Ab ((pR ps).map ptD):=by
 unfold pR;rw[<- (pW (iM ps)).1];unfold gG;cases ps with
 |nil =>
  have e1:_S.yR _S.ltI [] = []:=Xf;have e2:_S.yR _H.lexLt [] = []:=Xf;show (if ([] : Aa Am).length<=63 then Ab ((_S.yR _S.ltI []).map D.int) else none)=_
  rw[e1];show Ab [] = Ab ((_S.yR _H.lexLt []).map tpD);rw[e2];rfl
 |cons p ps =>
  have h0:xV ((p::ps).map ptD)=none:=rfl;rw[h0,uQ,vZ];have h2:(((p::ps).map kP).all λk=>!k.isEmpty)=true:=by
   rw[Jr,Be];intro q _;rfl
  exact Bb (by rw[h2,Cy (by rw[Aq];exact hl)];rfl)
theorem qAy {Q:D->Sto->Prop}{p:Pt}{S:Sto}(h:Q (.int p.1) S):Ok (gIx (ptD p) (.int 0) S) Q:=⟨_,_,rfl,h⟩
theorem qAz {Q:D->Sto->Prop}{p:Pt}{S:Sto}(h:Q (.int p.2) S):Ok (gIx (ptD p) (.int 1) S) Q:=⟨_,_,rfl,h⟩
theorem CQ {Q:D->Sto->Prop}{S:Sto}(l:ps.length<=63)(h:Q (.lst ((pR ps).map ptD)) S):Ok (jU [.lst (ps.map ptD)] S) Q:=by
 refine⟨_,_,?_,h⟩;show (match (Ab (ps.map ptD)).bind gG with|some ys=>Res.ok (D.lst ys) S|none=>.bad)=_
 rw[Sk,JD ps l]
theorem SZ (ps:Aa Pt):pl zQ (.lst (ps.map ptD))=true:=by
 show ((ps.map ptD).all (pl 29))=true;rw[Jr];exact Be.mpr λp _=>rfl
theorem ON {Q:D->Sto->Prop}{f:DE}{env:qE}{S:Sto}(h:Ok (f env S) λd S1=>∃ ps:Aa Pt,fV d S1=Ab (ps.map ptD)/\ps.length<=63/\Q (.lst ((yC ps).map ptD)) S1):Ok (yV false f env S) Q:=qW (zE h λd S1 ⟨ps,e,l,q⟩=>⟨_,_,by rw[e,Sk,bW ps l];rfl,q⟩)
theorem CS {Q:D->Sto->Prop}{f:DE}{env:qE}{S:Sto}(h:Ok (f env S) λd S1=>∃ ps:Aa Pt,fV d S1=Ab (ps.map ptD)/\ps.length<=63/\Q (.loc S1.length) (S1++[.lst ((yC ps).map ptD)])):Ok (yV true f env S) Q:=qW (zE h λd S1 ⟨ps,e,l,q⟩=>⟨_,_,by rw[e,Sk,bW ps l];rfl,q⟩)
theorem FX {S:Sto}{a:Ai}{xs:Aa D}(h:S[a]? = Ab (.lst xs)):fV (.loc a) S=Ab xs:=by
 show (match S[a]? with|some (.lst xs)=>Ab xs|_=>none)=_
 rw[h]
def InB (B:Am)(q:Pt):Prop:=-B<=q.1/\q.1<=B /\ -B<=q.2/\q.2<=B
instance (B:Am)(q:Pt):Mq (InB B q):=by unfold InB;exact inferInstance
structure Lot (M:Ai)(l:Aa Pt):Prop where
 ne:l≠[]
 len:l.length<=M
 up:Up l
 box:∀ q∈l,InB 1000 q
theorem AR {l:Aa Pt}(h:Up l):l.Nodup:=h.imp λ{a b} h e=>by
 subst e;rw[show ltP a a=false from _S.x8.irr _] at h
 cases h
theorem HZ {M:Ai}(ne:ps≠[])(hl:ps.length<=M)(nd:ps.Nodup)(hb:∀ q∈ps,InB 1000 q):Lot M (pR ps):=by
 have p:=pS ps;refine⟨λz=>?_,by rw[p.length_eq];exact hl,M3 nd,λq hq=>hb q (p.mem_iff.mp hq)⟩
 rw[z] at p;exact ne p.symm.eq_nil
def yZ (S:Sto)(p:Ai):Prop:=∃ v f:Am,S[p]? = Ab (.lst [.int v,.int f])
theorem nQ {S:Sto}(h:yZ S p)(e:S<+:S'):yZ S' p:=by
 obtain⟨v0,f0,hp⟩:=h;obtain⟨r,rfl⟩:=e;exact⟨v0,f0,by rw[Cb (Az.mp hp).1];exact hp⟩
structure Kp (p:Ai)(S S':Sto):Prop where
 pen:yZ S' p
 len:S.length<=S'.length
 same:∀ m,m<S.length->m≠p->S'[m]? = S[m]?
theorem Kp.trans {S:Sto}(a:Kp p S S1)(b:Kp p S1 S2):Kp p S S2:=⟨b.pen,Cq a.len b.len,λm hm hp=>(b.same m (Bm hm a.len) hp).trans (a.same m hm hp)⟩
theorem XU {S:Sto}(h:yZ S p):p<S.length:=by
 obtain⟨v,f,e⟩:=h;exact(Az.mp e).1
theorem Kp.pre {S:Sto}(h:yZ S p)(e:S<+:S'):Kp p S S':=⟨nQ h e,e.length_le,λm hm _=>(Rx.mp e m hm).trans (An hm).symm⟩
theorem Kp.set {j:Ai}{S:Sto}(h:Kp p S S')(hj:S.length<=j)(m:MO)(hp:p≠j):Kp p S (S'.set j m):=by
 obtain⟨v,f,e⟩:=h.pen;exact⟨⟨v,f,by rw[Dx (El hp)];exact e⟩,by rw[Tl];exact h.len,λi hi hn=>by rw[Dx om];exact h.same i hi hn⟩
end _D
local macro_rules|`(tactic|array_get_dec)=>`(tactic| first | (with_reducible first | apply _D.GD | apply _D.EC | apply _D.qAj | apply _D.o_2 | apply _D.o_c | apply _D.kA | apply _D.sE | apply _D.qAX | apply _D.qAg | apply _D.qAh | apply _D.CN | apply _D.XM | apply _D.qAn | apply _D.qAd | apply _D.DY | apply _D.DU | apply _D.qA3 | apply _D.w_t | apply _D.w_f | apply _D.qAk | apply _D.qAV | apply _D.qAU | apply _D.GC | apply _D.qA4 | apply _D.qAl | apply _D.AU | apply _D.qAv | apply _D.qAu | apply _D.qAt | apply _D.qAr | apply _D.DM | apply _D.qAw | apply _D.o_1 | apply _D.qAc | apply _D.qAP | apply _D.qAO | apply _D.qAT | apply _D.qAR | apply _D.qAQ | apply _D.qA1 | apply _D.qAf | apply _D.qAe | apply _D.qAo | apply _D.qAp | apply _D.qAm | apply _D.qAY | apply _D.OO | apply _D.qAq | apply _D.qAs | apply _D.qAi | apply _D.qAM | apply _D.qAy | apply _D.qAz | apply _D.qA0 | apply _D.qAN | apply _D.BV | apply _D.qAS) | ((with_reducible apply _D.o_v); exact rfl) | ((with_reducible apply _D.qAx); dsimp only [List.set_cons_succ, List.set_cons_zero]) | ((with_reducible (first | apply _D.qAb | apply _D.qAa | apply _D.qAZ)); omega) | ((with_reducible apply And.intro); (first | exact rfl | exact Nat.le_of_ble_eq_true rfl)) | ((with_reducible apply Exists.intro); (with_reducible apply And.intro); exact rfl) | ((with_reducible apply Exists.intro); (with_reducible apply Exists.intro); (with_reducible apply And.intro); exact rfl; dsimp only [List.set_cons_succ, List.set_cons_zero]) | ((with_reducible apply Exists.intro); (with_reducible apply Exists.intro); (with_reducible apply Exists.intro); (with_reducible apply And.intro); exact rfl; dsimp only [List.set_cons_succ, List.set_cons_zero]))
local macro_rules|`(tactic|rfl')=>`(tactic| repeat array_get_dec)
namespace _D
open PySem
variable {ks:Aa Am}{xs:Aa D}{d:D}{Q:D->Sto->Prop}{S:Sto}
def Pn (d:D):Prop:=∃ p,pyD d=Ab p
theorem pns:∀ {ps:Aa PyData},fS xs=Ab ps->∀ x∈xs,Pn x:=by
 induction xs with
 |nil=>intro ps _ x hx;cases hx
 |cons d ds ih =>
  intro ps h x hx;simp only[fS] at h;obtain⟨p,h1,h2⟩:=Ey.mp h;obtain⟨ps',h3,_⟩:=De.mp h2;rcases Aw.mp hx with rfl|hx
  .exact⟨p,h1⟩
  .exact ih h3 x hx
theorem XX (h:Pn (.tup xs)):∀ x∈xs,Pn x:=by
 obtain⟨p,h⟩:=h;simp only[pyD] at h;obtain⟨ps,h1,_⟩:=De.mp h;exact pns h1
theorem eJ:∀ {xs:Aa D},(∀ x∈xs,Pn x)->∃ l,fS xs=Ab l
 |[],_=>⟨[],rfl⟩
 |x::xs,h=>by
  obtain⟨l,e⟩:=eJ (xs:=xs) λy hy=>h y (Cc _ hy);obtain⟨q,e'⟩:=h x (Cz ..);refine⟨q::l,?_⟩;show (pyD x).bind (λx=>(fS xs).map (x::·))=_
  rw[e,e'];rfl
theorem fR (h:∀ x∈xs,Pn x):Pn (.tup xs):=by
 obtain⟨l,e⟩:=eJ h;exact⟨.tuple l,by simp only[pyD,e,Op]⟩
theorem OS (h:∀ x∈xs,Pn x):Pn (.lst xs):=by
 obtain⟨l,e⟩:=eJ h;exact⟨.list l,by simp only[pyD,e,Op]⟩
theorem mU (q:Pt):Pn (ptD q):=⟨.tuple [.int q.1,.int q.2],rfl⟩
theorem XW (l:Aa Pt):Pn (xZ l):=fR λx hx=>by
 obtain⟨q,_,rfl⟩:=Bz.mp hx;exact mU q
def inR (a b:Am):D->Ar
 |.int i=>decide (a<=i/\i<=b)
 |_=>false
def isW:D->Ar
 |.int _=>true
 |_=>false
def isT:D->Ar
 |.tup _=>true
 |_=>false
theorem K8 (h:Pn d)(S:Sto):zY [d,.ty "tuple"] S=.ok (.bl (isT d)) S:=by
 obtain⟨p,h⟩:=h;cases d <;> first|kernel_rfl!|simp[pyD] at h
theorem aX {fa fb fc:DE}{env:qE}{a b c:Am}(h1:fa env S=.ok (.int a) S)(h2:fb env S=.ok (.int b) S)(h3:fc env S=.ok (.int c) S)(q:Q (.bl (decide (a<=b/\b<=c))) S):Ok (wW gLe gLe fa fb fc env S) Q:=by
 refine⟨_,_,?_,q⟩;unfold wW;rw[h1,Res.bind_ok,h2,Res.bind_ok];show (match xO (.bl (decide (a<=b))) S with|some true=>(fc env S).bind λw S4=>gLe (.int b) w S4|some false=>Res.ok (.bl (decide (a<=b))) S|none=>.bad)=_
 by_cases h:a<=b
 .rw[Cy h]
  show (fc env S).bind _=_;rw[h3];simp only[h,true_and];rfl
 .rw[Cn h,Cn λz=>h z.1]
  rfl
abbrev isI:D->Ar:=inR (-1000) 1000
def xI:D->Ar
 |.tup [a,b]=>isI a&&isI b
 |_=>false
theorem BA (q:Pt):xI (ptD q)=decide (InB 1000 q):=by
 show (decide (-1000<=q.1/\q.1<=1000)&&decide (-1000<=q.2/\q.2<=1000))=_;rw[<- Bool.decide_and];exact decide_eq_decide.mpr ⟨λh=>⟨h.1.1,h.1.2,h.2.1,h.2.2⟩,λh=>⟨⟨h.1,h.2.1⟩,h.2.2.1,h.2.2.2⟩⟩
theorem L8 (h:xs.length=2):xI (.tup xs)=xs.all isI:=by
 match xs,h with
 |[a,b],_=>simp[xI]
theorem L9 (h:xs.length≠2):xI (.tup xs)=false:=by
 match xs,h with
 |[],_=>rfl
 |[_],_=>rfl
 |[_,_],h=>exact absurd rfl h
 |_::_::_::_,_=>rfl
theorem LA (h:isT d=false):xI d=false:=by
 cases d <;> first|rfl|cases h
def upB (ks:Aa (Aa Am)):Ar:=(ks.zip (ks.drop 1)).all λp=>_H.lexLt p.1 p.2
def vU:D->Ar
 |.tup xs=>decide (1<=xs.length/\xs.length<=40)&&xs.all xI&&(match xS xs with|some ks=>upB ks|none=>false)
 |_=>false
theorem aD {a b:Am}(h:inR a b d=true):∃ i,d=.int i/\a<=i/\i<=b:=by
 cases d <;> first|exact⟨_,rfl,Bx h⟩|cases h
theorem VM (h:xI d=true):∃ q,d=ptD q/\InB 1000 q:=by
 unfold xI at h
 split at h
 .rw[Au] at h
  obtain⟨x,rfl,hx⟩:=aD h.1;obtain⟨y,rfl,hy⟩:=aD h.2;exact⟨(x,y),rfl,hx.1,hx.2,hy.1,hy.2⟩
 .cases h
theorem eK:∀ {xs:Aa D},xs.all xI=true->∃ qs:Aa Pt,xs=qs.map ptD/\∀ q∈qs,InB 1000 q
 |[],_=>⟨[],rfl,λ_ h=>by cases h⟩
 |d::ds,h=>by
  rw[Qw,Au] at h;obtain⟨qs,rfl,hq⟩:=eK h.2;obtain⟨q,rfl,hb⟩:=VM h.1;refine⟨q::qs,rfl,λz hz=>?_⟩;rcases Aw.mp hz with rfl|hz
  .exact hb
  .exact hq z hz
theorem CB (a b:Aa Am)(S:Sto):tW (tpD a) (tpD b) S=.ok (.bl (_H.lexLt a b)) S:=by
 unfold tW tpD;simp only[lQ]
theorem tB:∀ (ks:Aa (Aa Am)),upB ks=true↔ks.Pairwise (λa b=>_H.lexLt a b=true)
 |[]=>by simp[upB]
 |[a]=>by simp[upB]
 |a::b::r=>by
  have ih:=tB (b::r);have e:upB (a::b::r)=(_H.lexLt a b&&upB (b::r)):=by simp[upB]
  rw[e,Au,ih,Ej (a:=a)];constructor
  .rintro⟨h1,h2⟩
   refine⟨λx hx=>?_,h2⟩;rcases Aw.mp hx with rfl|hx
   .exact h1
   .exact _S.x8.tr h1 ((Ej.mp h2).1 x hx)
  .rintro⟨h1,h2⟩
   exact⟨h1 b (by simp),h2⟩
theorem EO (ks ms:Aa (Aa Am)):vI (ks.map tpD) (ms.map tpD)=(ks.zip ms).map λp=>D.tup [tpD p.1,tpD p.2]:=by
 unfold vI
 induction ks generalizing ms with
 |nil=>rfl
 |cons k ks ih =>
  cases ms with
  |nil=>rfl
  |cons m ms=>exact congrArg (_::·) (ih ms)
theorem B9 (h:isT d=false):vU d=false:=by
 cases d <;> first|rfl|cases h
theorem rO {M:Ai}(hM:M<=40){l:Aa Pt}(h:Lot M l):vU (xZ l)=true:=by
 show (decide (1<=(l.map ptD).length/\(l.map ptD).length<=40)&&(l.map ptD).all xI&&(match xS (l.map ptD) with|some ks=>upB ks|none=>false))=true
 have h1:1<=(l.map ptD).length/\(l.map ptD).length<=40:=by
  rw[Aq];exact⟨Jo.mpr h.ne,by have:=h.len;omega⟩
 have h2:(l.map ptD).all xI=true:=by
  rw[Jr];exact Be.mpr λq hq=>(BA q).trans (Cy (h.box q hq))
 have h3:upB (l.map kP)=true:=by
  rw[tB,Dr];exact h.up
 rw[Cy h1,h2,uQ,vZ];exact h3
theorem nJ (h:¬ xs.Nodup):vU (.tup xs)=false:=by
 cases e:vU (.tup xs) with
 |false=>rfl
 |true =>
  have e':(decide (1<=xs.length/\xs.length<=40)&&xs.all xI&&(match xS xs with|some ks=>upB ks|none=>false))=true:=e
  rw[Au,Au] at e';obtain⟨qs,rfl,_⟩:=eK e'.1.2;have e2:=e'.2;rw[uQ,vZ] at e2;refine absurd ?_ h;have u:=(tB _).mp e2;rw[Dr] at u;rw[Wk,Dr];refine u.imp λ{a b} hab z=>?_;have:kP a=kP b:=by
   injection z with z
   injection z with z1 z2
   injection z1 with z1
   injection z2 with z2 _
   injection z2 with z2
   show [a.1,a.2]=[b.1,b.2];rw[z1,z2]
  rw[this,_S.x8.irr] at hab;cases hab
theorem nH {x:D}(hx:x∈xs)(h:xI x=false):vU (.tup xs)=false:=by
 show (decide (1<=xs.length/\xs.length<=40)&&xs.all xI&&(match xS xs with|some ks=>upB ks|none=>false))=false
 have:xs.all xI=false:=by
  rw[List.all_eq_false];exact⟨x,hx,by rw[h];simp⟩
 rw[this,Kq,Hg]
theorem BP (h:40<xs.length):vU (.tup xs)=false:=by
 show (decide (1<=xs.length/\xs.length<=40)&&xs.all xI&&(match xS xs with|some ks=>upB ks|none=>false))=false
 rw[Cn om,Hg,Hg]
def NoL (d:D):Prop:=Pn d/\vU d=false
theorem EZ (xs:Aa D):xK xs (Ab 1) none=xs.drop 1:=by
 unfold xK;have h1:_H.sIx xs.length 0 (Ab 1)=min 1 xs.length:=rfl;have h2:_H.sIx xs.length xs.length none=xs.length:=rfl;rw[h1,h2];cases xs with
 |nil=>rfl
 |cons x r=>simp
theorem GT (xs:Aa D)(x:D):xK (xs++[x]) (Ab (-1)) none=[x]:=by
 unfold xK;have h1:_H.sIx (xs++[x]).length (xs++[x]).length none=(xs++[x]).length:=rfl;have h2:_H.sIx (xs++[x]).length 0 (Ab (-1))=xs.length:=by
  show (if (-1:Am)<0 then ((-1:Am)+((xs++[x]).length:Am)).toNat else min (-1:Am).toNat (xs++[x]).length)=_
  rw[Bb om,Cj];simp only[Ch,Ez];omega
 rw[h1,h2];simp
theorem TK (xs:Aa D)(n:Ai)(h:n<=xs.length):xK xs (Ab (n:Am)) none=xs.drop n:=by
 unfold xK;have h1:_H.sIx xs.length xs.length none=xs.length:=rfl;have h2:_H.sIx xs.length 0 (Ab (n:Am))=min n xs.length:=by
  show (if (n:Am)<0 then ((n:Am)+(xs.length:Am)).toNat else min (n:Am).toNat xs.length)=_
  rw[Bc om,Fn]
 rw[h1,h2,Lz h];exact List.take_of_length_le (by rw[Jj];exact AT _)
theorem TL (xs:Aa D)(n:Ai)(h:n<=xs.length):xK xs none (Ab (n:Am))=xs.take n:=by
 unfold xK;have h1:_H.sIx xs.length 0 none=0:=rfl;have h2:_H.sIx xs.length xs.length (Ab (n:Am))=min n xs.length:=by
  show (if (n:Am)<0 then ((n:Am)+(xs.length:Am)).toNat else min (n:Am).toNat xs.length)=_
  rw[Bc om,Fn]
 rw[h1,h2,Lz h];rfl
theorem gI (n:Ai):_H.stepN n (-1)=n:=by
 unfold _H.stepN _H.stepLo _H.stepHi Fu Gp;simp
 split <;> omega
theorem WW (xs:Aa D)(x:D):x∈_H.stepL (xs++[x]) (-1):=by
 unfold _H.stepL;refine Hc.mpr ⟨0,Ei.mpr (by rw[gI];simp),?_⟩
 have h:_H.stepLo (xs++[x]).length (-1)=(xs.length:Am):=by
  unfold _H.stepLo Fu;simp
 rw[h];simp
theorem WV {k:Am}{x:D}(h:x∈_H.stepL xs k):x∈xs:=by
 unfold _H.stepL at h;obtain⟨m,_,e⟩:=Hc.mp h;exact Bk e
theorem DR {a:Aa D}{k:Ai}(l:a.length*k<=lim/\k<1000)(h:Q (.lst (Cw k a).flatten) S):Ok (b9 (.lst a) (.int (k:Am)) S) Q:=by
 refine⟨_,_,?_,h⟩;unfold b9;have c:0<=(k:Am)/\(k:Am)<2 ^ 62/\a.length*(k:Am).toNat<=lim:=⟨by omega,by omega,by rw[Fn];exact l.1⟩
 refine(Bb c).trans ?_;rw[Fn]
theorem DX {a:Aa D}(l:a.length<=1000)(h:Q (.tup (_H.stepL a (-1))) S):Ok (dY (.tup a) (.int (-1)) S) Q:=⟨_,_,Bb ⟨by omega,by omega,by rw[gI];unfold lim;omega⟩,h⟩
def eL:Ai->Aa D->Aa D
 |_,[]=>[]
 |k,x::xs=>D.tup [.int (k:Am),x]::eL (k+1) xs
theorem V7 (xs:Aa D):yI xs=eL 0 xs:=by
 have key:∀ (xs:Aa D) (k:Ai),(xs.mapIdx λi x=>D.tup [.int ((i+k:Ai):Am),x])=eL k xs:=by
  intro xs
  induction xs with
  |nil=>intro k;rfl
  |cons x xs ih =>
   intro k;rw[List.mapIdx_cons];show _::_=D.tup [.int (k:Am),x]::eL (k+1) xs
   congr 1
   .simp
   .rw[<- ih (k+1)]
    congr 1
    funext i y
    congr 4
    omega
 have:=key xs 0;simpa [yI] using this
def far (p q:Pt):Am:=(p.1-q.1)*(p.1-q.1)+(p.2-q.2)*(p.2-q.2)
set_option tactic.hygienic true in
theorem JH {l:Aa Am}{k x:Am}:x∈Cs l k↔x∈l\/x=k:=by
 unfold Cs
 split
 .rename_i h
  simp at h;constructor
  .exact λz=>.inl z
  .rintro (z|rfl)
   .exact z
   .exact h
 .simp
theorem M4 {l:Aa Am}{k:Am}(h:k∈l):Cs l k=l:=by
 unfold Cs;rw[Bb (by simpa using h)]
theorem JI {l:Aa Am}{k:Am}(h:k ∉ l):Cs l k=l++[k]:=by
 unfold Cs;rw[Bc (by simpa using h)]
theorem VE:∀ {l:Aa Am} {x:Am},x∈ks.foldl Cs l↔x∈l\/x∈ks:=by
 induction ks with
 |nil=>intro l x;simp
 |cons k ks ih =>
  intro l x;rw[Lr,ih,JH,Aw];constructor
  .rintro ((h|h)|h)
   .exact .inl h
   .exact .inr (.inl h)
   .exact .inr (.inr h)
  .rintro (h|h|h)
   .exact .inl (.inl h)
   .exact .inl (.inr h)
   .exact .inr h
theorem VD:∀ {l:Aa Am},(ks.foldl Cs l).length<=l.length+ks.length:=by
 induction ks with
 |nil=>intro l;simp
 |cons k ks ih =>
  intro l;rw[Lr];have h1:=ih (l:=Cs l k);have h2:(Cs l k).length<=l.length+1:=by
   unfold Cs
   split <;> simp
  rw[Ch];omega
set_option tactic.hygienic true in
theorem B3:∀ (ks l:Aa Am),l.Nodup->(ks.foldl Cs l).Nodup:=by
 intro ks
 induction ks with
 |nil=>exact λl h=>h
 |cons k ks ih =>
  intro l h;rw[Lr];apply ih;unfold Cs
  split
  .exact h
  .rename_i hn
   rw[Ja];refine⟨h,by simp,?_⟩
   intro a ha b hb hab;simp at hb hn;subst hb;subst hab;exact hn ha
theorem R0 {S':Sto}(h:∀ m,m<S.length->S'[m]? = S[m]?):S<+:S':=by
 rw[Rx];intro i hi;rw[h i hi,An hi]
end _D
namespace _K
open PySem PySem.Spec PyProof.Rows _L _D
def top (i:Ai):Fa:=Rh.main.body.getD i (.Pass ⟨0,0,0,0⟩)
structure Cl where
 (FarError NoPoint NoLot NoNumber NoCircle NoMarks NoFars NoText NoLine NoDeed Alike TooMany:Af)
def xT (c:Cl):Aa Af:=[c.NoPoint,c.NoLot,c.NoNumber,c.NoCircle,c.NoMarks,c.NoFars,c.NoText,c.NoLine,c.NoDeed,c.Alike,c.TooMany]
def uJ (c:Cl):Aa Ac:=[.ref c.NoPoint,.ref c.NoLot,.ref c.NoNumber,.ref c.NoCircle,.ref c.NoMarks,.ref c.NoFars,.ref c.NoText,.ref c.NoLine,.ref c.NoDeed]
abbrev clt (c:Cl):Aa (Av × Af):=[("FarError",c.FarError),("NoPoint",c.NoPoint),("NoLot",c.NoLot),("NoNumber",c.NoNumber),("NoCircle",c.NoCircle),("NoMarks",c.NoMarks),("NoFars",c.NoFars),("NoText",c.NoText),("NoLine",c.NoLine),("NoDeed",c.NoDeed),("Alike",c.Alike),("TooMany",c.TooMany)]
abbrev plt (c:Cl):Aa (Av × Af):=[("NoPoint",c.NoPoint),("NoLot",c.NoLot),("NoNumber",c.NoNumber),("NoCircle",c.NoCircle),("NoMarks",c.NoMarks),("NoFars",c.NoFars),("NoText",c.NoText),("NoLine",c.NoLine),("NoDeed",c.NoDeed)]
abbrev cst:Aa (Av × Am):=[("LEAST_NUMBER",-1000),("MOST_NUMBER",1000),("MOST_POINTS",40)]
abbrev bl:Aa Av:=["ValueError","all","bool","enumerate","int","isinstance","len","list","max","min","range","set","sorted","str","tuple","zip"]
abbrev tab:Aa (Av × Ai × Aa Av):=[("is_whole",14,["thing"]),("is_within",15,["thing","least","most"]),("is_rising",16,["some"]),("is_point",21,["thing"]),("is_lot",22,["thing"]),("need_lot",23,["thing"]),("far_between",24,["one","other"]),("rings",26,["lot","point"]),("hub",28,["lot"]),("_law_kinds",30,["_law_e"]),("_law_refused",31,["_law_call"]),("_law_same",32,["_law_found","_law_due"]),("_law_cell",33,["_law_script","_law_k"]),("_law_pen",34,["_law_cell_here"]),("_law_draw",35,["_law_pen_here","_law_many"]),("_law_far",36,["_law_one","_law_other"]),("_law_circle",37,["_law_number"]),("_law_rich",38,["_law_pen_here","_law_most"]),("_law_lot",39,["_law_pen_here","_law_most"]),("_law_no_lot",40,["_law_pen_here","_law_lot_here"]),("_law_hub",41,["_law_lot_here"]),("law",42,["_law_script"])]
abbrev Txt (K:Aj)(mg:Av->Al Ac)(c:Cl):Prop:=TxS K mg top tab bl (clt c) (plt c) (uJ c) (xT c) cst
abbrev LS:Aa Av:=["law","hub"]
@[reducible] def b_is_whole:DS:=zA (p5 (qL zY (qA (qC 0) (qA (dC (.ty "int")) (qB)))) (YR (qL zY (qA (qC 0) (qA (dC (.ty "bool")) (qB))))))
@[irreducible] def S_is_whole:DF:=sh (qT 1 b_is_whole)
theorem gQ:S_is_whole=qT 1 b_is_whole:=by delta S_is_whole;exact zZ _
@[reducible] def b_is_within:DS:=zA (p5 (qN 1 S_is_whole (qA (qC 0) (qB))) (wW gLe gLe (qC 1) (qC 0) (qC 2)))
@[irreducible] def S_is_within:DF:=sh (qT 3 b_is_within)
theorem jT:S_is_within=qT 3 b_is_within:=by delta S_is_within;exact zZ _
@[reducible] def b_is_rising:DS:=zA (qL (pA false) (qA (zD false [none,none] (wR (tO (qA (qC 0) (qA (dSl (qC 0) (xX (dC (.int 1))) (v8)) (qB))))) (gTp 2 (zR (gNm 0) (zR (gNm 1) (vA)))) (xM) (zG (d2 tW (qC 0) (qC 1)))) (qB)))
@[irreducible] def S_is_rising:DF:=sh (qT 1 b_is_rising)
theorem jS:S_is_rising=qT 1 b_is_rising:=by delta S_is_rising;exact zZ _
@[reducible] def b_is_point:DS:=qM (sIf (kO (v7 (dTr (qL zY (qA (qC 0) (qA (dC (.ty "tuple")) (qB)))))) (dTr (d2 gNe (qL xF (qA (qC 0) (qB))) (dC (.int 2))))) (zA (dC (.bl false))) (zL)) (zA (qL (pA false) (qA (zD false [none] (dIt (qC 0)) (gNm 0) (xM) (zG (qN 3 (okO S_is_within) (qA (qC 0) (qA (dC (.int (-1000))) (qA (dC (.int (1000))) (qB))))))) (qB))))
@[irreducible] def S_is_point:DF:=sh (qT 1 b_is_point)
theorem gP:S_is_point=qT 1 b_is_point:=by delta S_is_point;exact zZ _
@[reducible] def b_is_lot:DS:=qM (sIf (kO (v7 (dTr (qL zY (qA (qC 0) (qA (dC (.ty "tuple")) (qB)))))) (v7 (dTr (wW gLe gLe (dC (.int 1)) (qL xF (qA (qC 0) (qB))) (dC (.int (40))))))) (zA (dC (.bl false))) (zL)) (zA (p5 (qL (pA false) (qA (zD false [none] (dIt (qC 0)) (gNm 0) (xM) (zG (qN 1 (okO S_is_point) (qA (qC 0) (qB))))) (qB))) (qN 1 S_is_rising (qA (qC 0) (qB)))))
@[irreducible] def S_is_lot:DF:=sh (qT 1 b_is_lot)
theorem bO:S_is_lot=qT 1 b_is_lot:=by delta S_is_lot;exact zZ _
@[reducible] def b_need_lot (c:Cl):DS:=sIf (v7 (dTr (qN 1 S_is_lot (qA (qC 0) (qB))))) (vX (.ref c.NoLot) (qA (dC (.str "a lot is needed")) (qB))) (zL)
@[irreducible] def S_need_lot (c:Cl):DF:=sh (qT 1 (b_need_lot c))
theorem u4 (c:Cl):S_need_lot c=qT 1 (b_need_lot c):=by delta S_need_lot;exact zZ _
@[reducible] def b_far_between:DS:=qM (qV (d2 wA (d2 gIx (qC 0) (dC (.int 0))) (d2 gIx (qC 1) (dC (.int 0)))) (gNm 2)) (qM (qV (d2 wA (d2 gIx (qC 0) (dC (.int 1))) (d2 gIx (qC 1) (dC (.int 1)))) (gNm 3)) (zA (d2 zH (d2 zU (qC 2) (qC 2)) (d2 zU (qC 3) (qC 3)))))
@[irreducible] def S_far_between:DF:=sh (qT 4 b_far_between)
theorem uH:S_far_between=qT 4 b_far_between:=by delta S_far_between;exact zZ _
@[reducible] def b_rings:DS:=qM (qV (rA) (gNm 2)) (qM (vP (uL (qC 0)) (gNm 3) (sIf (dTr (d2 gNe (qC 3) (qC 1))) (qM (qV (qN 2 S_far_between (qA (qC 1) (qA (qC 3) (qB)))) (gNm 4)) (qV (d2 zH (dBm "dict" pB (qC 2) (qA (qC 4) (qA (qU (qB)) (qB)))) (qU (qA (qC 3) (qB)))) (gSb (qC 2) (qC 4) wQ))) (zL))) (zA (b0 (qC 2))))
@[irreducible] def S_rings:DF:=sh (qT 5 b_rings)
theorem m5:S_rings=qT 5 b_rings:=by delta S_rings;exact zZ _
@[reducible] def b_hub (c:Cl):DS:=qM (wU (qN 1 (S_need_lot c) (qA (qC 0) (qB)))) (qM (sIf (dTr (d2 gLt (qL xF (qA (qC 0) (qB))) (dC (.int 2)))) (vX (.ref c.NoLot) (qA (dC (.str "a lot of two points or more is needed")) (qB))) (zL)) (qM (qV (zD false [none,none,none,Ab 0] (dIt (qC 0)) (gNm 0) (xM) (kIn (dIt (qN 2 (okO S_rings) (qA (qC 3) (qA (qC 0) (qB))))) (gTp 2 (zR (gNm 1) (zR (gNm 2) (vA)))) (xM) (zG (qU (qA (qC 0) (qA (qC 1) (qA (qL xF (qA (qC 2) (qB))) (qB)))))))) (gNm 1)) (zA (oD 2 (qA (qC 1) (qB))))))
@[irreducible] def S_hub (c:Cl):DF:=sh (qT 2 (b_hub c))
theorem kI (c:Cl):S_hub c=qT 2 (b_hub c):=by delta S_hub;exact zZ _
@[reducible] def b__law_kinds (c:Cl):DS:=qM (qV (xD (qA (qL (zO (xT c)) (qA (qC 0) (qA (dC (.obj c.NoPoint)) (qB)))) (qA (qL (zO (xT c)) (qA (qC 0) (qA (dC (.obj c.NoLot)) (qB)))) (qA (qL (zO (xT c)) (qA (qC 0) (qA (dC (.obj c.NoNumber)) (qB)))) (qB))))) (gNm 1)) (qM (qV (d2 zH (qC 1) (xD (qA (qL (zO (xT c)) (qA (qC 0) (qA (dC (.obj c.NoCircle)) (qB)))) (qA (qL (zO (xT c)) (qA (qC 0) (qA (dC (.obj c.NoMarks)) (qB)))) (qA (qL (zO (xT c)) (qA (qC 0) (qA (dC (.obj c.NoFars)) (qB)))) (qB)))))) (gNm 1)) (qM (qV (d2 zH (qC 1) (xD (qA (qL (zO (xT c)) (qA (qC 0) (qA (dC (.obj c.NoText)) (qB)))) (qA (qL (zO (xT c)) (qA (qC 0) (qA (dC (.obj c.NoLine)) (qB)))) (qA (qL (zO (xT c)) (qA (qC 0) (qA (dC (.obj c.NoDeed)) (qB)))) (qB)))))) (gNm 1)) (qM (qV (d2 zH (qC 1) (xD (qA (qL (zO (xT c)) (qA (qC 0) (qA (dC (.obj c.Alike)) (qB)))) (qA (qL (zO (xT c)) (qA (qC 0) (qA (dC (.obj c.TooMany)) (qB)))) (qB))))) (gNm 1)) (qM (sIf (kO (v7 (dTr (qL (zO (xT c)) (qA (qC 0) (qA (dC (.ty "ValueError")) (qB)))))) (dTr (d2 gNe (dBm "list" mD (qC 1) (qA (dC (.bl true)) (qB))) (dC (.int 1))))) (zA (dC (.str "other"))) (zL)) (qM (sIf (dTr (qL (zO (xT c)) (qA (qC 0) (qA (dC (.obj c.Alike)) (qB))))) (zA (qU (qA (dC (.str "alike")) (qA (p6) (qA (p6) (qA (p6) (qA (p6) (qB)))))))) (zL)) (qM (sIf (dTr (qL (zO (xT c)) (qA (qC 0) (qA (dC (.obj c.TooMany)) (qB))))) (zA (qU (qA (dC (.str "many")) (qA (p6) (qA (p6) (qB)))))) (zL)) (qM (qV (xD (qA (dC (.str "point")) (qA (dC (.str "lot")) (qA (dC (.str "number")) (qA (dC (.str "circle")) (qA (dC (.str "marks")) (qA (dC (.str "fars")) (qA (dC (.str "text")) (qA (dC (.str "line")) (qA (dC (.str "deed")) (qB))))))))))) (gNm 2)) (zA (d2 gIx (qC 2) (dBm "list" mE (qC 1) (qA (dC (.bl true)) (qB))))))))))))
@[irreducible] def S__law_kinds (c:Cl):DF:=sh (qT 3 (b__law_kinds c))
theorem j9 (c:Cl):S__law_kinds c=qT 3 (b__law_kinds c):=by delta S__law_kinds;exact zZ _
@[reducible] def b__law_refused (c:Cl)(G:Aa D->DF)(a:Af)(cv:Aa V):DS:=qM (fT 2 1 (uJ c) (wU (kM 0 (qB) a cv 0 G)) (zA (qN 1 (S__law_kinds c) (qA (qC 1) (qB))))) (zA (dC (.str "told")))
@[reducible] def b__law_same (S__law_same:DF):DS:=qM (sIf (dTr (d2 gIs (qC 1) (dC .non))) (zA (d2 gIs (qC 0) (dC .non))) (zL)) (qM (sIf (dTr (qL kQ (qA (qC 1) (qA (qU (qA (dC (.ty "list")) (qA (dC (.ty "tuple")) (qB)))) (qB))))) (qM (sIf (dTr (d2 gNe (qL zY (qA (qC 1) (qA (dC (.ty "list")) (qB)))) (qL zY (qA (qC 0) (qA (dC (.ty "list")) (qB)))))) (zA (dC (.bl false))) (zL)) (qM (sIf (kO (dTr (d2 gNe (qL zY (qA (qC 1) (qA (dC (.ty "tuple")) (qB)))) (qL zY (qA (qC 0) (qA (dC (.ty "tuple")) (qB)))))) (dTr (d2 gNe (qL xF (qA (qC 0) (qB))) (qL xF (qA (qC 1) (qB)))))) (zA (dC (.bl false))) (zL)) (zA (qL (pA false) (qA (zD false [none,none] (wR (tO (qA (qC 0) (qA (qC 1) (qB))))) (gTp 2 (zR (gNm 0) (zR (gNm 1) (vA)))) (xM) (zG (qN 2 (okO S__law_same) (qA (qC 0) (qA (qC 1) (qB)))))) (qB)))))) (zL)) (qM (sIf (dTr (qL zY (qA (qC 1) (qA (dC (.ty "str")) (qB))))) (zA (p5 (qL zY (qA (qC 0) (qA (dC (.ty "str")) (qB)))) (d2 gEq (qC 0) (qC 1)))) (zL)) (qM (sIf (dTr (d2 gNe (qL zY (qA (qC 0) (qA (dC (.ty "bool")) (qB)))) (qL zY (qA (qC 1) (qA (dC (.ty "bool")) (qB)))))) (zA (dC (.bl false))) (zL)) (zA (p5 (qL zY (qA (qC 0) (qA (dC (.ty "int")) (qB)))) (d2 gEq (qC 0) (qC 1)))))))
def t8:Ai->DF
 |0=>λ_ _=>.bad
 |n+1=>qT 2 (b__law_same (t8 n))
@[irreducible] def S__law_same:DF:=sh (t8 4)
theorem jR:S__law_same=t8 4:=by delta S__law_same;exact zZ _
@[reducible] def b__law_cell:DS:=qM (sIf (dTr (d2 gLt (qC 1) (qL xF (qA (qC 0) (qB))))) (zA (d2 gIx (qC 0) (qC 1))) (zL)) (zA (dC (.int 0)))
@[irreducible] def S__law_cell:DF:=sh (qT 2 b__law_cell)
theorem jO:S__law_cell=qT 2 b__law_cell:=by delta S__law_cell;exact zZ _
@[reducible] def b__law_pen:DS:=zA (kN (qA (qC 0) (qA (qL oH (qA (d2 gGe (qC 0) (d2 VH (dC (.int 10)) (dC (.int 18)))) (qB))) (qB))))
@[irreducible] def S__law_pen:DF:=sh (qT 1 b__law_pen)
theorem gO:S__law_pen=qT 1 b__law_pen:=by delta S__law_pen;exact zZ _
@[reducible] def b__law_draw:DS:=qM (sIf (dTr (d2 gEq (d2 gIx (qC 0) (dC (.int 1))) (dC (.int 1)))) (qM (qV (d2 jJ (d2 gIx (qC 0) (dC (.int 0))) (qC 1)) (gNm 2)) (qM (qV (d2 fJ (d2 gIx (qC 0) (dC (.int 0))) (qC 1)) (gSb (qC 0) (dC (.int 0)) wQ)) (zA (qC 2)))) (zL)) (qM (qV (d2 jJ (d2 zH (d2 zU (d2 jJ (d2 gIx (qC 0) (dC (.int 0))) (dC (.int 2147483629))) (dC (.int 48271))) (dC (.int 11))) (dC (.int 2147483629))) (gSb (qC 0) (dC (.int 0)) wQ)) (zA (d2 jJ (d2 fJ (d2 jJ (d2 zH (d2 zU (d2 gIx (qC 0) (dC (.int 0))) (d2 gIx (qC 0) (dC (.int 0)))) (d2 zU (dC (.int 40692)) (d2 gIx (qC 0) (dC (.int 0))))) (dC (.int 2147483647))) (dC (.int 8))) (qC 1))))
@[irreducible] def S__law_draw:DF:=sh (qT 3 b__law_draw)
theorem jP:S__law_draw=qT 3 b__law_draw:=by delta S__law_draw;exact zZ _
@[reducible] def b__law_far:DS:=qM (pP 2 3 (qA (d2 wA (d2 gIx (qC 0) (dC (.int 0))) (d2 gIx (qC 1) (dC (.int 0)))) (qA (d2 wA (d2 gIx (qC 0) (dC (.int 1))) (d2 gIx (qC 1) (dC (.int 1)))) (qB)))) (zA (d2 zH (d2 zU (qC 2) (qC 2)) (d2 zU (qC 3) (qC 3))))
@[irreducible] def S__law_far:DF:=sh (qT 4 b__law_far)
theorem gL:S__law_far=qT 4 b__law_far:=by delta S__law_far;exact zZ _
@[reducible] def b__law_circle:DS:=qM (pP 1 2 (qA (rA) (qA (xD (qB)) (qB)))) (qM (vP (yN (qA (dC (.int 1001)) (qB))) (gNm 3) (qV (qC 3) (gSb (qC 1) (d2 zU (qC 3) (qC 3)) wQ))) (qM (vP (yN (qA (dC (.int 1001)) (qB))) (gNm 4) (sIf (dTr (d2 tV (d2 wA (qC 0) (d2 zU (qC 4) (qC 4))) (qC 1))) (qM (qV (d2 fK (qC 1) (d2 wA (qC 0) (d2 zU (qC 4) (qC 4)))) (gNm 5)) (qM (qV (d2 zH (qC 2) (xD (qA (qU (qA (qC 4) (qA (qC 5) (qB)))) (qA (qU (qA (d2 wA (dC (.int 0)) (qC 4)) (qA (qC 5) (qB)))) (qA (qU (qA (qC 4) (qA (d2 wA (dC (.int 0)) (qC 5)) (qB)))) (qB)))))) (gNm 2)) (qV (d2 zH (qC 2) (xD (qA (qU (qA (d2 wA (dC (.int 0)) (qC 4)) (qA (d2 wA (dC (.int 0)) (qC 5)) (qB)))) (qB)))) (gNm 2)))) (zL))) (zA (yV false (qC 2)))))
@[irreducible] def S__law_circle:DF:=sh (qT 6 b__law_circle)
theorem uF:S__law_circle=qT 6 b__law_circle:=by delta S__law_circle;exact zZ _
@[reducible] def b__law_rich:DS:=qM (qV (dC (.int 1)) (gNm 2)) (qM (vP (yN (qA (d2 zH (dC (.int 1)) (qN 2 S__law_draw (qA (qC 0) (qA (dC (.int 6)) (qB))))) (qB))) (gNm 3) (qM (qV (d2 gIx (xD (qA (dC (.int 2)) (qA (dC (.int 5)) (qA (dC (.int 13)) (qA (dC (.int 17)) (qA (dC (.int 4)) (qA (dC (.int 9)) (qA (dC (.int 5)) (qA (dC (.int 29)) (qB)))))))))) (qN 2 S__law_draw (qA (qC 0) (qA (dC (.int 8)) (qB))))) (gNm 4)) (sIf (dTr (d2 gLe (d2 zU (qC 2) (qC 4)) (qC 1))) (qV (d2 zU (qC 2) (qC 4)) (gNm 2)) (zL)))) (zA (qC 2)))
@[irreducible] def S__law_rich:DF:=sh (qT 5 b__law_rich)
theorem jQ:S__law_rich=qT 5 b__law_rich:=by delta S__law_rich;exact zZ _
@[reducible] def b__law_lot:DS:=qM (pP 2 3 (qA (qN 2 S__law_draw (qA (qC 0) (qA (dC (.int 6)) (qB)))) (qA (d2 zH (dC (.int 1)) (qN 2 S__law_draw (qA (qC 0) (qA (qC 1) (qB))))) (qB)))) (qM (qV (qU (qA (d2 wA (qN 2 S__law_draw (qA (qC 0) (qA (dC (.int 21)) (qB)))) (dC (.int 10))) (qA (d2 wA (qN 2 S__law_draw (qA (qC 0) (qA (dC (.int 21)) (qB)))) (dC (.int 10))) (qB)))) (gTp 2 (zR (gNm 4) (zR (gNm 5) (vA))))) (qM (qV (d2 gIx (xD (qA (dC (.int 3)) (qA (dC (.int 6)) (qA (dC (.int 900)) (qB))))) (qN 2 S__law_draw (qA (qC 0) (qA (dC (.int 3)) (qB))))) (gNm 6)) (qM (sIf (dTr (d2 gLt (qC 2) (dC (.int 2)))) (qV (qN 1 S__law_circle (qA (qN 2 S__law_rich (qA (qC 0) (qA (dC (.int 5000)) (qB)))) (qB))) (gNm 7)) (sIf (dTr (d2 gEq (qC 2) (dC (.int 2)))) (qV (zD false [none] (wR (yN (qA (dC (.int 25)) (qB)))) (gNm 0) (xM) (zG (qU (qA (d2 fJ (qC 0) (dC (.int 5))) (qA (d2 jJ (qC 0) (dC (.int 5))) (qB)))))) (gNm 7)) (sIf (dTr (d2 gEq (qC 2) (dC (.int 3)))) (qM (qV (zD false [none] (wR (yN (qA (dC (.int 20)) (qB)))) (gNm 0) (xM) (zG (qU (qA (d2 zU (dC (.int 2)) (qC 0)) (qA (d2 zU (dC (.int 3)) (qC 0)) (qB)))))) (gNm 7)) (qV (d2 zH (qC 7) (zD false [none] (wR (yN (qA (dC (.int 5)) (qB)))) (gNm 0) (xM) (zG (qU (qA (qC 0) (qA (dC (.int 0)) (qB))))))) (gNm 7))) (sIf (dTr (d2 gEq (qC 2) (dC (.int 4)))) (qV (xD (qA (qU (qA (dC (.int 0)) (qA (dC (.int 0)) (qB)))) (qA (qU (qA (dC (.int 0)) (qA (dC (.int 4)) (qB)))) (qA (qU (qA (dC (.int 4)) (qA (dC (.int 0)) (qB)))) (qA (qU (qA (dC (.int 4)) (qA (dC (.int 4)) (qB)))) (qA (qU (qA (dC (.int 2)) (qA (dC (.int 2)) (qB)))) (qA (qU (qA (d1 kR (dC (.int 1))) (qA (dC (.int 2)) (qB)))) (qA (qU (qA (dC (.int 2)) (qA (d1 kR (dC (.int 1))) (qB)))) (qA (qU (qA (dC (.int 5)) (qA (dC (.int 2)) (qB)))) (qA (qU (qA (dC (.int 2)) (qA (dC (.int 5)) (qB)))) (qA (qU (qA (dC (.int 1)) (qA (dC (.int 1)) (qB)))) (qA (qU (qA (dC (.int 6)) (qA (dC (.int 6)) (qB)))) (qB))))))))))))) (gNm 7)) (qM (qV (kN (qB)) (gNm 7)) (vP (yN (qA (qC 1) (qB))) (gNm 8) (qM (qV (d2 wA (qN 2 S__law_draw (qA (qC 0) (qA (d2 zH (d2 zU (dC (.int 2)) (qC 6)) (dC (.int 1))) (qB)))) (qC 6)) (gNm 9)) (wU (dBm "list" y9 (qC 7) (qA (qU (qA (qC 9) (qA (d2 wA (qN 2 S__law_draw (qA (qC 0) (qA (qC 6) (qB)))) (dC (.int 2))) (qB)))) (qB))))))))))) (qM (qV (yV true (qC 7)) (gNm 7)) (qM (qV (kN (qB)) (gNm 10)) (qM (t7 (u7 (dTr (d2 (bD gNe) (qC 7) (kN (qB)))) (dTr (d2 gLt (qL xF (qA (qC 10) (qB))) (qC 3)))) (wU (dBm "list" y9 (qC 10) (qA (dBm "list" pC (qC 7) (qA (qN 2 S__law_draw (qA (qC 0) (qA (qL xF (qA (qC 7) (qB))) (qB)))) (qB))) (qB))))) (zA (qL jV (qA (qL jU (qA (zD false [none,Ab 4,Ab 5] (dIt (qC 10)) (gNm 0) (xM) (zG (qU (qA (d2 zH (d2 gIx (qC 0) (dC (.int 0))) (qC 1)) (qA (d2 zH (d2 gIx (qC 0) (dC (.int 1))) (qC 2)) (qB)))))) (qB))) (qB))))))))))
@[irreducible] def S__law_lot:DF:=sh (qT 11 b__law_lot)
theorem gN:S__law_lot=qT 11 b__law_lot:=by delta S__law_lot;exact zZ _
@[reducible] def b__law_no_lot:DS:=qM (pP 2 3 (qA (qN 2 S__law_draw (qA (qC 0) (qA (dC (.int 16)) (qB)))) (qA (qN 2 S__law_draw (qA (qC 0) (qA (qL xF (qA (qC 1) (qB))) (qB)))) (qB)))) (qM (qV (d2 gIx (qC 1) (qC 3)) (gTp 2 (zR (gNm 4) (zR (gNm 5) (vA))))) (qM (qV (xD (qA (qU (qA (qC 4) (qA (qC 5) (qA (dC (.int 0)) (qB))))) (qA (qU (qA (qC 4) (qB))) (qA (xD (qA (qC 4) (qA (qC 5) (qB)))) (qA (dC .non) (qA (qU (qA (dC (.bl true)) (qA (qC 5) (qB)))) (qA (qU (qA (qC 4) (qA (dC .non) (qB)))) (qA (qU (qA (dC (.int 1001)) (qA (qC 5) (qB)))) (qA (qU (qA (qC 4) (qA (d1 kR (dC (.int 1001))) (qB)))) (qB)))))))))) (gNm 6)) (qM (qV (d2 gIx (qC 6) (qN 2 S__law_draw (qA (qC 0) (qA (dC (.int 8)) (qB))))) (gNm 6)) (qM (qV (d2 zH (d2 zH (dSl (qC 1) (v8) (xX (qC 3))) (qU (qA (qC 6) (qB)))) (dSl (qC 1) (xX (d2 zH (qC 3) (dC (.int 1)))) (v8))) (gNm 7)) (qM (qV (d2 b8 (d2 b9 (xD (qA (qC 7) (qB))) (dC (.int 4))) (xD (qA (dC .non) (qA (qU (qB)) (qA (qL dX (qA (qC 1) (qB))) (qA (d2 gIx (qC 1) (dC (.int 0))) (qA (dC (.str "0,0")) (qA (dC (.int 7)) (qA (dU) (qA (d2 zH (qC 1) (dSl (qC 1) (xX (d1 kR (dC (.int 1)))) (v8))) (qB))))))))))) (gNm 8)) (qM (wU (dBm "list" y9 (qC 8) (qA (qU (qA (qC 1) (qB))) (qB)))) (qM (qV (d2 b7 (qC 8) (xD (qA (d2 zH (oE (qC 1) (d1 kR (dC (.int 1)))) (dSl (qC 1) (xX (d1 kR (dC (.int 1)))) (v8))) (qA (qL jV (qA (zD false [none] (wR (yN (qA (dC (.int 41)) (qB)))) (gNm 0) (xM) (zG (qU (qA (qC 0) (qA (dC (.int 0)) (qB)))))) (qB))) (qB))))) (gNm 8)) (qM (qV (d2 zH (qC 8) (xD (qA (qU (qA (qU (qA (dC (.int 0)) (qA (dC (.int 0)) (qB)))) (qA (qU (qA (dC (.int 0)) (qA (dC (.int 0)) (qB)))) (qB)))) (qB)))) (gNm 8)) (zA (d2 gIx (qC 8) (qC 2)))))))))))
@[irreducible] def S__law_no_lot:DF:=sh (qT 9 b__law_no_lot)
theorem uG:S__law_no_lot=qT 9 b__law_no_lot:=by delta S__law_no_lot;exact zZ _
@[reducible] def b__law_hub:DS:=qM (qV (xD (qB)) (gNm 1)) (qM (vP (dW (qA (qC 0) (qB))) (gTp 2 (zR (gNm 2) (zR (gNm 3) (vA)))) (qM (qV (zD false [none,Ab 3] (dIt (qC 0)) (gNm 0) (u7 (dTr (d2 gNe (qC 0) (qC 1))) (xM)) (zG (qN 2 (okO S__law_far) (qA (qC 1) (qA (qC 0) (qB)))))) (gNm 4)) (qV (d2 zH (qC 1) (zD false [none,Ab 2,Ab 4] (dIt (qC 4)) (gNm 0) (xM) (zG (qU (qA (d2 wA (dC (.int 0)) (dBm "list" jW (qC 2) (qA (qC 0) (qB)))) (qA (qC 1) (qA (qC 0) (qB)))))))) (gNm 1)))) (qM (qV (qL mC (qA (qC 1) (qB))) (gTp 3 (zR (gNm 6) (zR (gNm 2) (zR (gNm 5) (vA)))))) (zA (qU (qA (d2 gIx (qC 0) (qC 2)) (qA (qC 5) (qA (d2 wA (dC (.int 0)) (qC 6)) (qB))))))))
@[irreducible] def S__law_hub:DF:=sh (qT 7 b__law_hub)
theorem gM:S__law_hub=qT 7 b__law_hub:=by delta S__law_hub;exact zZ _
@[reducible] def b_law (c:Cl):DS:=qM (sIf (kO (v7 (dTr (qN 2 S__law_same (qA (qN 1 (S_hub c) (qA (qU (qA (qU (qA (dC (.int 0)) (qA (dC (.int 0)) (qB)))) (qA (qU (qA (dC (.int 1)) (qA (dC (.int 0)) (qB)))) (qA (qU (qA (dC (.int 2)) (qA (dC (.int 0)) (qB)))) (qB))))) (qB))) (qA (qU (qA (qU (qA (dC (.int 1)) (qA (dC (.int 0)) (qB)))) (qA (dC (.int 1)) (qA (dC (.int 2)) (qB))))) (qB)))))) (dTr (d2 gNe (uK false [] 1 2 (qB) (b__law_refused c (g9 (qN 1 (S_hub c) (qA (qU (qA (qU (qA (dC (.int 3)) (qA (dC (.int 4)) (qB)))) (qB))) (qB)))))) (dC (.str "lot"))))) (zA (dC (.bl false))) (zL)) (qM (vP (uL (d2 zH (xD (qA (qN 2 S__law_cell (qA (qC 0) (qA (dC (.int 0)) (qB)))) (qB))) (dSl (qC 0) (xX (dC (.int 1))) (xX (dC (.int 8)))))) (gNm 1) (qM (qV (qN 1 S__law_pen (qA (qC 1) (qB))) (gNm 2)) (qM (vP (uL (xD (qA (qN 2 S__law_lot (qA (qC 2) (qA (dC (.int 40)) (qB)))) (qA (d2 zH (qN 2 S__law_lot (qA (qC 2) (qA (dC (.int 7)) (qB)))) (qU (qA (qU (qA (dC (.int 1000)) (qA (dC (.int 1000)) (qB)))) (qB)))) (qB))))) (gNm 4) (sIf (dTr (d2 gGt (qL xF (qA (qC 4) (qB))) (dC (.int 1)))) (sIf (kO (v7 (dTr (qN 2 S__law_same (qA (qN 1 (S_hub c) (qA (qC 4) (qB))) (qA (qN 1 S__law_hub (qA (qC 4) (qB))) (qB)))))) (v7 (dTr (qN 2 S__law_same (qA (qN 1 (S_hub c) (qA (qC 4) (qB))) (qA (qN 1 S__law_hub (qA (qC 4) (qB))) (qB))))))) (zA (dC (.bl false))) (zL)) (sIf (dTr (d2 gNe (uK false [4] 1 2 (qB) (b__law_refused c (g9 (qN 1 (S_hub c) (qA (qC 0) (qB)))))) (dC (.str "lot")))) (zA (dC (.bl false))) (zL)))) (qM (qV (qN 2 S__law_no_lot (qA (qC 2) (qA (qC 4) (qB)))) (gNm 3)) (sIf (dTr (d2 gNe (uK false [3] 1 2 (qB) (b__law_refused c (g9 (qN 1 (S_hub c) (qA (qC 0) (qB)))))) (dC (.str "lot")))) (zA (dC (.bl false))) (zL)))))) (zA (dC (.bl true))))
end _K
namespace _K
open PySem _D
variable {kvs:Aa (_L.Key × D)}{cl:Aa Af}{qs:Aa Pt}{C:Af}{j:Ai}{fe:DE}{Q:D->Sto->Prop}{p:Pt}{S:Sto}{env:qE}
theorem FS {d:D}(h:Pn d)(S:Sto):S_is_whole [d] S=.ok (.bl (isW d)) S:=by
 rw[gQ];obtain⟨p,h⟩:=h;cases d <;> first|kernel_rfl!|simp[pyD] at h
theorem J2 {d:D}(h:Pn d)(a b:Am)(S:Sto):S_is_within [d,.int a,.int b] S=.ok (.bl (inR a b d)) S:=by
 rw[jT];refine zW (zJ (env:=[Ab d,Ab (.int a),Ab (.int b)]) rfl ?_);rfl';refine oY ?_;rfl';refine qS (FS h S) ⟨_,rfl,λe=>?_,λe=>?_⟩
 .cases d with
  |int i=>exact aX rfl rfl rfl ⟨rfl,rfl⟩
  |_=>cases e
 .cases d <;> first|exact⟨rfl,rfl⟩|cases e
theorem Q7 {d:D}(h:Pn d)(S:Sto):S_is_point [d] S=.ok (.bl (xI d)) S:=by
 rw[gP];refine zW (zJ (env:=[Ab d]) rfl ?_);rfl';refine bF ?_;rfl';refine qS (K8 h S) ?_;rfl';refine⟨λe=>?_,λe=>?_⟩
 .rfl'
  exact⟨by rw[LA (by simpa using e)],rfl⟩
 .cases d with
  |tup xs =>
   rfl';refine wJ (λe=>?_) λe=>?_
   .rfl'
    refine k9 (enc:=id) (o:=none) xs (λx=>.bl (isI x)) (λenv S'=>S'=S/\∃ a,env=[a]) ((oN rfl).trans (by rw[Qi])) ⟨rfl,none,rfl⟩ (by unfold lim;omega) (λ_ _ _=>trivial) (λx hx env S' ⟨e1,a,e2⟩=>?_) λenv S' ⟨e1,_⟩=>?_
    .subst e1 e2
     rfl';exact qS (J2 (XX h x hx) _ _ _) ⟨rfl,rfl,_,rfl⟩
    .subst e1
     rfl';exact sC ⟨by rw[L8 om],rfl⟩
   .rfl'
    exact⟨by rw[L9 om],rfl⟩
  |_=>cases e
theorem J0 (qs:Aa Pt)(hl:qs.length<=1000)(S:Sto):S_is_rising [xZ qs] S=.ok (.bl (upB (qs.map kP))) S:=by
 rw[jS];refine zW (zJ (env:=[Ab (.tup (qs.map ptD))]) rfl ?_);rfl';have hz:wR (tO (qA (qC 0) (qA (dSl (qC 0) (xX (dC (.int 1))) (v8)) (qB)))) [Ab (.tup (qs.map ptD))] S=.ok (none,(((qs.map kP).zip ((qs.map kP).drop 1)).map λp=>D.tup [tpD p.1,tpD p.2])) S:=by
  show Res.ok (none,vI (qs.map ptD) (xK (qs.map ptD) (Ab 1) none)) S=_;rw[EZ,uQ,<- AaE,EO]
 refine k9 _ (λp=>.bl (_H.lexLt p.1 p.2)) (λenv S'=>S'=S/\∃ a b,env=[a,b]) hz ⟨rfl,none,none,rfl⟩ ?_ (λ_ _ _=>trivial) (λx hx env S' ⟨e1,a,b,e2⟩=>?_) λenv S' ⟨e1,_⟩=>?_
 .rw[Uc,Aq]
  unfold lim;omega
 .subst e1 e2
  rfl';exact qS (CB _ _ _) ⟨rfl,rfl,_,_,rfl⟩
 .subst e1
  rfl';exact sC ⟨rfl,rfl⟩
theorem eO {d:D}(h:Pn d)(S:Sto):S_is_lot [d] S=.ok (.bl (vU d)) S:=by
 rw[bO];refine zW (zJ (env:=[Ab d]) rfl ?_);rfl';refine bF ?_;rfl';refine qS (K8 h S) ?_;rfl';refine⟨λe=>?_,λe=>?_⟩
 .rfl'
  exact⟨by rw[B9 (by simpa using e)],rfl⟩
 .cases d with
  |tup xs =>
   rfl';refine aX (b:=(xs.length:Am)) rfl rfl rfl ?_;rfl';refine wJ (λz=>?_) λz=>?_
   .have hl:1<=xs.length/\xs.length<=40:=by omega
    rfl';refine oY ?_;rfl';refine k9 (enc:=id) (o:=none) xs (λx=>.bl (xI x)) (λenv S'=>S'=S/\∃ a,env=[a]) ((oN rfl).trans (by rw[Qi])) ⟨rfl,none,rfl⟩ (by unfold lim;omega) (λ_ _ _=>trivial) (λx hx env S' ⟨e1,a,e2⟩=>?_) λenv S' ⟨e1,_⟩=>?_
    .subst e1 e2
     rfl';exact qS (Q7 (XX h x hx) _) ⟨rfl,rfl,_,rfl⟩
    .subst e1
     rfl';refine sC ⟨_,rfl,λha=>?_,λha=>?_⟩
     .obtain⟨qs,rfl,_⟩:=eK ha
      rw[Aq] at hl;rfl';refine qS (J0 qs om _) ⟨?_,rfl⟩;show _=D.bl (decide (1<=(qs.map ptD).length/\(qs.map ptD).length<=40)&&(qs.map ptD).all xI&&(match xS (qs.map ptD) with|some ks=>upB ks|none=>false))
      rw[ha,Aq,Cy hl,uQ,vZ];rfl
     .refine⟨?_,rfl⟩
      show _=D.bl (decide (1<=xs.length/\xs.length<=40)&&xs.all xI&&(match xS xs with|some ks=>upB ks|none=>false))
      rw[ha,Kq,Hg]
   .rfl'
    refine⟨?_,rfl⟩;show _=D.bl (decide (1<=xs.length/\xs.length<=40)&&xs.all xI&&(match xS xs with|some ks=>upB ks|none=>false))
    rw[Cn om,Hg,Hg]
  |_=>cases e
theorem bS (c:Cl){d:D}(S:Sto)(h:Pn d)(k:vU d=true):S_need_lot c [d] S=.ok .non S:=by
 rw[u4];refine zW (zJ (env:=[Ab d]) rfl ?_);rfl';refine qS (eO h S) ?_;rw[k];rfl';exact⟨rfl,rfl⟩
theorem cI (c:Cl){d:D}(S:Sto)(h:Pn d)(k:vU d=false):S_need_lot c [d] S=.ex (.ref c.NoLot) .non S:=by
 rw[u4];refine eW (env:=[Ab d]) (env':=[Ab d]) rfl ?_;exact K7 (zW (DU (DY (XM (kA (o_v rfl (sE ⟨rfl,qS ((eO h S).trans (by rw[k])) ⟨_,rfl,rfl,rfl⟩⟩))))))) (eP _ _ _ _)
theorem w4 {p:Ai}{m:Am}(h:yZ S p)(hm:0<m/\m<1073741824)(q:∀ (r:Ai) S1,Kp p S S1->(r:Am)<m->Q (.int r) S1):Ok (S__law_draw [.loc p,.int m] S) Q:=by
 have fin:∀ r v f:Am,0<=r->r<m->Q (.int r) (S.set p (.lst [.int v,.int f])):=λr v f h0 h1=>by
  obtain⟨r,rfl⟩:=Int.eq_ofNat_of_zero_le h0;obtain⟨v0,f0,e⟩:=h;have hpl:=(Az.mp e).1;exact q r _ ⟨⟨v,f,by simp[hpl]⟩,by simp,λi hi hn=>Dx (El hn)⟩ h1
 obtain⟨v,f,e⟩:=h;have hpl:=(Az.mp e).1;rw[jP];refine zJ (env:=[Ab (.loc p),Ab (.int m),none]) rfl ?_;rfl';refine gB e (d:=.int f) rfl ?_;rfl';refine wJ (λz=>?_) λz=>?_
 .rfl'
  refine gB e (d:=.int v) rfl ?_;rfl';refine gB e (d:=.int v) rfl ?_;rfl';refine XO e rfl ?_;rfl';exact fin _ _ _ (Lw _ om) (Ju _ hm.1)
 .rfl'
  refine gB e (d:=.int v) rfl ?_;have hv:=Lw v (show (2147483629:Am)≠0 by omega)
  have hv':=Ju v (show (0:Am)<2147483629 by omega)
  rfl';have hw:=Lw (v % 2147483629*48271+11) (show (2147483629:Am)≠0 by omega)
  have hw':=Ju (v % 2147483629*48271+11) (show (0:Am)<2147483629 by omega)
  generalize (v % 2147483629*48271+11) % 2147483629=w at hw hw';refine XO e rfl ?_;have e2:(S.set p (MO.lst [.int w,.int f]))[p]? = Ab (.lst [.int w,.int f]):=by simp[hpl]
  rfl';refine gB e2 (d:=.int w) rfl ?_;rfl';refine gB e2 (d:=.int w) rfl ?_;rfl';refine gB e2 (d:=.int w) rfl ?_;rfl';exact fin _ _ _ (Lw _ om) (Ju _ hm.1)
theorem CO {x:Am}(q:∀ p S1,yZ S1 p->Q (.loc p) S1):Ok (S__law_pen [.int x] S) Q:=by
 rw[gO];refine zJ (env:=[Ab (.int x)]) rfl ?_;rfl';refine qS (d:=.int 1000000000000000000) rfl ?_;rfl';refine qS (d:=.int (b01 (decide (1000000000000000000<=x)))) rfl ?_;rfl';exact q _ _ ⟨_,_,yS _ _⟩
theorem CD (nd:cl.Nodup){i j:Ai}{a b:Af}(ha:cl[i]? = Ab a)(hb:cl[j]? = Ab b)(h:i≠j):(a == b)=false:=by
 rw[Ov];rintro rfl;obtain⟨h1,e1⟩:=Az.mp ha;obtain⟨h2,e2⟩:=Az.mp hb;exact h ((Rz nd).mp (e1.trans e2.symm))
theorem CK {B:Af}(hC:C∈cl)(hB:B∈cl)(q:Q (.bl (C == B)) S):Ok (zO cl [.exn (.ref C),.obj B] S) Q:=by
 refine⟨_,_,?_,q⟩;show (if (cl.contains C&&cl.contains B)=true then Res.ok (D.bl (C == B)) S else .bad)=_
 rw[Ew.mpr hC,Ew.mpr hB];rfl
theorem CL (hC:C∈cl)(q:Q (.bl true) S):Ok (zO cl [.exn (.ref C),.ty "ValueError"] S) Q:=by
 refine⟨_,_,?_,q⟩;show (if (cl.contains C&&(("ValueError" : Ef) == "ValueError"))=true then Res.ok (D.bl true) S else .bad)=_
 rw[Ew.mpr hC];rfl
theorem CC (nd:cl.Nodup){i j:Ai}{a b:Af}(ha:cl[i]? = Ab a)(hb:cl[j]? = Ab b):decide (i=j)=(a == b):=by
 by_cases h:i=j
 .subst h
  cases ha.symm.trans hb;rw[Cy rfl,Gg]
 .rw[Cn h,CD nd ha hb h]
theorem jK (c:Cl)(nd:(xT c).Nodup)(S:Sto):S__law_kinds c [.exn (.ref c.NoLot)] S=.ok (.str "lot") S:=by
 have s:∀ {Q:D->Sto->Prop} (j:Ai) {B:Af},(xT c)[j]? = Ab B->Q (.bl (decide (1=j))) S->Ok (zO (xT c) [.exn (.ref c.NoLot),.obj B] S) Q:=λj B h q=>CK (Bk (i:=1) rfl) (Bk h) (CC nd (i:=1) rfl h▸q);rw[j9];refine zW (zJ (env:=[Ab (.exn (.ref c.NoLot)),none,none]) rfl ?_);rfl';refine s 0 rfl ?_;rfl';refine s 1 rfl ?_;rfl';refine s 2 rfl ?_;rfl';refine s 3 rfl ?_;rfl';refine s 4 rfl ?_;rfl';refine s 5 rfl ?_;rfl';refine vB (Dd rfl) ?_;rfl';refine s 6 rfl ?_;rfl';refine s 7 rfl ?_;rfl';refine s 8 rfl ?_;rfl';refine vB (Dd rfl) ?_;rfl';refine s 9 rfl ?_;rfl';refine s 10 rfl ?_;rfl';refine vB (Dd rfl) ?_;rfl';refine bF ?_;rfl';refine CL (Bk (i:=1) rfl) ?_;rfl';refine⟨(λe=>by cases e),λ_=>?_⟩
 rfl';refine qS (d:=.int 1) (S:=S) (by kernel_rfl!) ?_
 rfl';refine wJ (λ_=>?_) λe=>absurd rfl e;rfl';refine s 9 rfl ?_;rfl';refine wJ (λe=>absurd e (by decide)) λ_=>?_
 rfl';refine s 10 rfl ?_;rfl';refine wJ (λe=>absurd e (by decide)) λ_=>?_
 rfl';refine qS (d:=.int 1) (S:=S) (by kernel_rfl!) ?_
 exact Q1 (d:=.str "lot") rfl ⟨rfl,rfl⟩
def sq (b:Ar)(ws:Aa D):D:=match b with
 |true=>.tup ws
 |false=>.lst ws
theorem JQ (ws:Aa D):vI ws ws=ws.map λx=>D.tup [x,x]:=by
 induction ws with
 |nil=>rfl
 |cons w ws ih=>exact congrArg (D.tup [w,w]::·) ih
theorem eX (F:DF)(b:Ar)(ws:Aa D)(S:Sto)(hw:ws.length<=lim)(ih:∀ x∈ws,F [x,x] S=.ok (.bl true) S):qT 2 (b__law_same F) [sq b ws,sq b ws] S=.ok (.bl true) S:=by
 have t1:zY [sq b ws,.ty "list"] S=.ok (.bl (!b)) S:=by cases b <;> kernel_rfl!
 have t2:zY [sq b ws,.ty "tuple"] S=.ok (.bl b) S:=by cases b <;> kernel_rfl!
 have t3:kQ [sq b ws,.tup [.ty "list",.ty "tuple"]] S=.ok (.bl true) S:=by cases b <;> kernel_rfl!
 have l:xF [sq b ws] S=.ok (.int ws.length) S:=by cases b <;> rfl
 have n:∀ x:Ar,gNe (.bl x) (.bl x) S=.ok (.bl false) S:=λx=>by cases x <;> rfl
 have hz:wR (tO (qA (qC 0) (qA (qC 1) (qB)))) [Ab (sq b ws),Ab (sq b ws)] S=.ok (none,ws.map λx=>D.tup [x,x]) S:=by
  rw[<- JQ];cases b <;> rfl
 refine zW (zJ (env:=[Ab (sq b ws),Ab (sq b ws)]) rfl ?_);rfl';refine qS (d:=.bl false) (S:=S) (by cases b <;> rfl) ?_
 rfl';refine qS t3 ?_;rfl';refine qS t1 ?_;rfl';refine qS t1 ?_;rfl';refine qS (n _) ?_;rfl';refine bF ?_;rfl';refine qS t2 ?_;rfl';refine qS t2 ?_;rfl';refine qS (n _) ?_;rfl';refine⟨(λe=>by cases e),λ_=>?_⟩
 rfl';refine qS l ?_;rfl';refine qS l ?_;rfl';refine wJ (λ_=>?_) λe=>absurd rfl e;rfl';refine k9 ws (λ_=>.bl true) (λenv S'=>S'=S/\∃ a b,env=[a,b]) hz ⟨rfl,none,none,rfl⟩ hw (λ_ _ _=>trivial) (λx hx env S' ⟨e1,a,b,e2⟩=>?_) λenv S' ⟨e1,_⟩=>?_
 .subst e1 e2
  rfl';exact qS (ih x hx) ⟨rfl,rfl,_,_,rfl⟩
 .subst e1
  rfl';exact sC (p:=λ_=>true) ⟨by simp,rfl⟩
theorem bK (F:DF){d:D}(S:Sto)(h1:gIs d .non S=.ok (.bl false) S)(h2:kQ [d,.tup [.ty "list",.ty "tuple"]] S=.ok (.bl false) S)(h3:zY [d,.ty "str"] S=.ok (.bl false) S){b:Ar}(h4:zY [d,.ty "bool"] S=.ok (.bl b) S)(h5:zY [d,.ty "int"] S=.ok (.bl true) S)(h6:gEq d d S=.ok (.bl true) S):qT 2 (b__law_same F) [d,d] S=.ok (.bl true) S:=by
 refine zW (zJ (env:=[Ab d,Ab d]) rfl ?_);rfl';refine qS h1 ?_;rfl';refine qS h2 ?_;rfl';refine qS h3 ?_;rfl';refine qS h4 ?_;rfl';refine qS h4 ?_;rfl';refine qS (d:=.bl false) (S:=S) (by cases b <;> rfl) ?_
 rfl';refine oY ?_;rfl';refine qS h5 ⟨_,rfl,λ_=>?_,λe=>by cases e⟩
 rfl';exact qS h6 ⟨rfl,rfl⟩
def okD:Ai->D->Prop
 |n+1,.tup xs=>xs.length<=lim/\∀ x∈xs,okD n x
 |n+1,.lst xs=>xs.length<=lim/\∀ x∈xs,okD n x
 |_,.int _=>Kl
 |_,.bl _=>Kl
 |_,_=>Fh
theorem WR:∀ (n:Ai) (d:D) (S:Sto),okD n d->t8 (n+1) [d,d] S=.ok (.bl true) S:=by
 intro n
 induction n with
 |zero =>
  intro d S h;cases d with
  |int i=>exact bK _ S rfl (by kernel_rfl!) (by kernel_rfl!) (b:=false) (by kernel_rfl!) (by kernel_rfl!) (zW (DM ⟨by rw[Cy rfl],rfl⟩))
  |bl b=>exact bK _ S rfl (by kernel_rfl!) (by kernel_rfl!) (b:=true) (by kernel_rfl!) (by kernel_rfl!) (by cases b <;> rfl)
  |_=>exact Ao h
 |succ n ih =>
  intro d S h;cases d with
  |tup ws=>exact eX _ true ws S h.1 λx hx=>ih x S (h.2 x hx)
  |lst ws=>exact eX _ false ws S h.1 λx hx=>ih x S (h.2 x hx)
  |int i=>exact bK _ S rfl (by kernel_rfl!) (by kernel_rfl!) (b:=false) (by kernel_rfl!) (by kernel_rfl!) (zW (DM ⟨by rw[Cy rfl],rfl⟩))
  |bl b=>exact bK _ S rfl (by kernel_rfl!) (by kernel_rfl!) (b:=true) (by kernel_rfl!) (by kernel_rfl!) (by cases b <;> rfl)
  |_=>exact Ao h
theorem WJ {d:D}(S:Sto)(h:okD 3 d):S__law_same [d,d] S=.ok (.bl true) S:=by
 rw[jR];exact WR 3 d S h
theorem O0 {i:Ai}{a:Af}{cv:Aa _L.V}{G:Aa D->DF}{caps:Aa D}(h:env[i]? = Ab (Ab (.clo a cv caps))):kM i (qB) a cv 0 G env S=G caps [] S:=by
 unfold kM;rw[h];show (if a=a/\cv=cv then _ else _)=_
 rw[Bb ⟨rfl,rfl⟩];rfl
theorem Q3 {c:Cl}{wd:Av}{cap:Aa Ai}(hC:(uJ c).contains (.ref C)=true)(hk:∀ S,S__law_kinds c [.exn (.ref C)] S=.ok (.str wd) S){caps:Aa D}(h:fD cap env=Ab caps){x:D}(e:fe (caps.map Ab) S=.ex (.ref C) x S)(q:Q (.str wd) S):Ok (uK false cap 1 2 (qB) (b__law_refused c (g9 fe)) env S) Q:=by
 refine⟨_,_,?_,q⟩;unfold uK;rw[h];show (if 0+1=1 then exO false (uni λa cv=>qT 2 (b__law_refused c (g9 fe) a cv) [.clo a cv caps] S) else .bad)=_
 rw[Bb rfl,EB (R:=.ok (.str wd) S) λa cv=>?_]
 .rfl
 .have e':kM 0 (qB) a cv 0 (g9 fe) [Ab (.clo a cv caps),none] S=.ex (.ref C) x S:=(O0 rfl).trans (by unfold g9;exact e)
  refine zW (zJ (env:=[Ab (.clo a cv caps),none]) rfl ?_);refine GD ?_;have k:fT 2 1 (uJ c) (wU (kM 0 (qB) a cv 0 (g9 fe))) (zA (qN 1 (S__law_kinds c) (qA (qC 1) (qB)))) [Ab (.clo a cv caps),none] S=.rt (.str wd) S:=by
   unfold fT wU;rw[e'];simp only[Res.toS,hC,Dt];have z:qN 1 (S__law_kinds c) (qA (qC 1) (qB)) ((Cw 2 none).set 1 (Ab (.exn (.ref C)))) S=.ok (.str wd) S:=(pX rfl).trans (hk S);simp only[zA,z,Res.toS]
  rw[k];exact⟨rfl,rfl⟩
theorem FQ (ns:Aa Am)(hl:ns.length<=63)(k:Am){Q:Aa D->Sto->Prop}{env:qE}{S:Sto}(h0:env[0]? = Ab (Ab (.lst (ns.map D.int))))(q:∀ ms:Aa Am,Q (ms.map D.int) S):Ok (uL (d2 zH (xD (qA (qN 2 S__law_cell (qA (qC 0) (qA (dC (.int 0)) (qB)))) (qB))) (dSl (qC 0) (xX (dC (.int 1))) (xX (dC (.int k))))) env S) Q:=by
 have hc:∃ x:Am,S__law_cell [.lst (ns.map D.int),.int 0] S=.ok (.int x) S:=by
  rw[jO];cases ns with
  |nil=>exact⟨0,zW (zJ (env:=[Ab (.lst []),Ab (.int 0)]) rfl (by rfl';exact⟨rfl,rfl⟩))⟩
  |cons n ns =>
   refine⟨n,zW (zJ (env:=[Ab (.lst ((n::ns).map D.int)),Ab (.int 0)]) rfl ?_)⟩;rfl';refine wJ (λ_=>?_) λe=>absurd (by rw[Aq,Ch];omega) e
   rfl';exact Q1 (o4 (a:=0) (by simp)) ⟨rfl,rfl⟩
 obtain⟨x,hx⟩:=hc;refine BV (o_2 (CN (kA (XM (kA (o_v h0 ?_))))));rfl';refine qS hx ?_;rfl';refine o_v h0 ?_;rfl';have hm:xK (ns.map D.int) (Ab 1) (Ab k)=((ns.drop (_H.sIx (ns.map D.int).length 0 (Ab 1))).take (_H.sIx (ns.map D.int).length (ns.map D.int).length (Ab k)-_H.sIx (ns.map D.int).length 0 (Ab 1))).map D.int:=by
  unfold xK;rw[List.map_take,AaE]
 rw[hm];refine vB ?_ ⟨_,rfl,q (x::_)⟩;rw[Aq,Ia,Jj];show 1+_<=lim;unfold lim;omega
def vF:Aa Ai:=[1,2,4,5,8,9,10,13,16,17,18,20,25,26,29,32,34,36,40,45,50,52,58,64,65,68,72,80,81,85,90,100,104,116,117,125,128,130,136,144,145,153,160,162,169,170,180,200,208,221,225,232,234,250,256,260,261,272,288,289,290,306,320,324,325,338,340,360,377,400,405,416,425,442,450,464,468,493,500,512,520,522,544,576,578,580,585,612,625,640,648,650,676,680,720,725,729,754,765,800,810,832,841,845,850,884,900,928,936,986,1000,1024,1040,1044,1053,1088,1105,1125,1152,1156,1160,1170,1224,1250,1280,1296,1300,1305,1352,1360,1377,1440,1445,1450,1458,1508,1521,1530,1600,1620,1625,1664,1682,1690,1700,1768,1800,1856,1872,1885,1972,1989,2000,2025,2048,2080,2088,2106,2125,2176,2197,2210,2250,2304,2312,2320,2340,2349,2448,2465,2500,2560,2592,2600,2601,2610,2704,2720,2754,2873,2880,2890,2900,2916,2925,3016,3042,3060,3125,3200,3240,3250,3328,3364,3380,3393,3400,3536,3600,3625,3645,3712,3744,3757,3770,3825,3944,3978,4000,4050,4096,4160,4176,4205,4212,4225,4250,4352,4394,4420,4437,4500,4608,4624,4640,4680,4698,4896,4901,4913,4930,5000]
def fcs:Aa Ai:=[2,5,13,17,4,9,5,29]
theorem J9 {n f:Ai}(hn:n∈vF)(hf:f∈fcs)(h:n*f<=5000):n*f∈vF:=by
 have k:vF.all (λn=>fcs.all λf=>!Nat.ble (n*f) 5000||vF.contains (n*f))=true:=kd
 have:=Be.mp (Be.mp k n hn) f hf;rw[Us h] at this;simpa using this
def hs (n j:Ai):Ar:=(Cg 71).any λy=>Nat.beq (j*j+y*y) n
def cnt (n i:Ai):Ai:=(Cg i).countP (hs n)
def msk:Ai:=(Cg 71).foldl (λm y=>m ||| 1 <<< (y*y)) 0
def ch (n j:Ai):Ar:=Nat.ble (j*j) n&&msk.testBit (n-j*j)
theorem ET {n:Ai}(h:hs n j=true):ch n j=true:=by
 have k:(Cg 71).all (λy=>msk.testBit (y*y))=true:=kd;obtain⟨y,hy,e⟩:=Jp.mp h;have e:=Ut e;unfold ch;rw[show n-j*j=y*y by omega,Be.mp k y hy,Us om]
 rfl
theorem J8 {n:Ai}(hn:n∈vF):1<=cnt n 71/\cnt n 71<=15:=by
 have k:vF.all (λn=>Nat.ble ((Cg 71).countP (ch n)) 15&&(Cg 71).any λj=>ch n j&&hs n j)=true:=kd;have:=Be.mp k n hn;rw[Au] at this;refine⟨?_,Cq (Nz λ_ _=>ET) (Dd this.1)⟩;obtain⟨j,hj,e⟩:=Jp.mp this.2;rw[Au] at e;exact List.countP_pos_iff.mpr ⟨j,hj,e.2⟩
theorem iE {n:Ai}(hn:n∈vF):n<=5000:=by
 have k:vF.all (λn=>Nat.ble n 5000)=true:=kd;exact Dd (Be.mp k n hn)
theorem DV {p:Ai}(h:yZ S p)(q:∀ (n:Ai) S1,Kp p S S1->n∈vF->Q (.int n) S1):Ok (S__law_rich [.loc p,.int 5000] S) Q:=by
 rw[jQ];refine zJ (env:=[Ab (.loc p),Ab (.int 5000),none,none,none]) rfl ?_;rfl';refine w4 h om λr S1 k1 h1=>?_;rfl';refine⟨by omega,by omega,?_⟩
 refine u0 (λ_ env S'=>∃ (n:Ai) (e3 e4:Al D),env=[Ab (.loc p),Ab (.int 5000),Ab (.int n),e3,e4]/\Kp p S S'/\n∈vF) ?_ ?_ ⟨1,_,_,rfl,k1,by decide⟩
 .rintro x xs _ S' ⟨n,e3,e4,rfl,K,hn⟩
  rfl';refine w4 K.pen om λr S2 k2 h2=>?_;rfl';refine sD (show r<8 by omega) λd hd=>?_
  obtain⟨f,hf,rfl⟩:=Bz.mp (show d∈fcs.map λ(f:Ai)=>D.int f from hd)
  have:=iE hn;have e:(n:Am)*(f:Am)=((n*f:Ai):Am):=by push_cast;rfl
  rfl';refine wJ (λz=>?_) λz=>?_
  .rfl'
   exact vW ⟨n*f,_,_,by rw[e],K.trans k2,J9 hn hf om⟩
  .rfl'
   exact vW ⟨n,_,_,rfl,K.trans k2,hn⟩
 .rintro _ S' ⟨n,e3,e4,rfl,K,hn⟩
  rfl';exact q n S' K hn
def sqs (n:Ai):Aa (_L.Key × D):=(Cg n).map λ(i:Ai)=>(.inl ((i:Am)*(i:Am)),.int (i:Am))
theorem RZ {a b:Ai}(h:(a:Am)*(a:Am)=(b:Am)*(b:Am)):a=b:=by
 have h':a*a=b*b:=by exact_mod_cast h
 rcases Ki a b with z|z|z
 .exact absurd h' (Bv (Qj z (Fy z) om))
 .exact z
 .exact absurd h'.symm (Bv (Qj z (Fy z) om))
theorem M0 (n:Ai):yB (sqs n) (.inl ((n:Am)*(n:Am))) (.int (n:Am))=sqs (n+1):=by
 unfold yB;rw[Bc]
 .unfold sqs
  rw[sB,Fx];rfl
 .intro h
  obtain⟨kv,hk,e⟩:=Jp.mp h;obtain⟨i,hi,rfl⟩:=Bz.mp hk;have e:=Bx e;injection e with e
  have:=RZ e;have:=Ei.mp hi;omega
theorem JE {n:Ai}{f:Am}{d:D}(h:xA (sqs n) (.inl f)=Ab d):∃ i:Ai,i<n/\d=.int (i:Am)/\f=(i:Am)*(i:Am):=by
 unfold xA at h;obtain⟨kv,h1,rfl⟩:=De.mp h;have h2:=List.find?_some h1;obtain⟨i,hi,rfl⟩:=Bz.mp (List.mem_of_find?_eq_some h1);have h2:=Bx h2;injection h2 with h2
 exact⟨i,Ei.mp hi,rfl,h2.symm⟩
theorem FZ {n i:Ai}(hi:i<n):(xA (sqs n) (.inl ((i:Am)*(i:Am)))).isSome=true:=by
 unfold xA;rw[Qq,List.find?_isSome];exact⟨_,Bz.mpr ⟨i,Ei.mpr hi,rfl⟩,by simp⟩
theorem VW {c n:Ai}(h:c*c<=n)(hn:n<=5000):c<=70:=by
 rcases Nat.lt_or_ge 70 c with z|z
 .have:=Vj (show 71<=c by omega) (show 71<=c by omega)
  omega
 .exact z
theorem HP {n y:Ai}(h:j*j+y*y=n)(hn:n<=5000):hs n j=true:=Jp.mpr ⟨y,Ei.mpr (by have:=VW (show y*y<=n by omega) hn;omega),by subst h;exact Nat.beq_refl _⟩
theorem JX (n i:Ai):cnt n (i+1)=cnt n i+if hs n i=true then 1 else 0:=by
 unfold cnt;rw[sB,List.countP_append,List.countP_singleton]
def L4 (x y:Am):Aa Pt:=[(x,y),(0-x,y),(x,0-y)]++[(0-x,0-y)]
theorem UE {n:Ai}(hn:n∈vF)(q:∀ (ps:Aa Pt) S',S<+:S'->ps≠[]->(∀ z∈ps,InB 980 z)->ps.length<=60->Q (.lst (ps.map ptD)) S'):Ok (S__law_circle [.int n] S) Q:=by
 have n5:=iE hn;rw[uF];refine zJ (env:=[Ab (.int n),none,none,none,none,none]) rfl ?_;rfl';refine⟨by omega,by omega,?_⟩
 refine u0 (xs:=Cg 1001) (λxs env S'=>∃ (i:Ai) (e3:Al D),i+xs.length=1001/\xs=List.range' i (1001-i)/\env=[Ab (.int n),Ab (.loc S.length),Ab (.lst []),e3,none,none]/\S'=S++[.dct (sqs i)]) ?_ ?_ ⟨0,_,by simp,by rw[Vt],rfl,rfl⟩
 .rintro x xs _ _ ⟨i,e3,hl,hx,rfl,rfl⟩
  have hi:i<1001:=by simp at hl;omega
  rw[show 1001-i=(1001-(i+1))+1 by omega,Zq] at hx
  injection hx with h1 h2
  subst h1;rfl';refine DW (yS _ _) (by unfold sqs;rw[Aq,Hw];unfold lim;omega) ?_
  rw[eZ,M0];rfl';exact vW ⟨x+1,_,by simp at hl;omega,h2,rfl,rfl⟩
 .rintro _ _ ⟨i,e3,hl,hx,rfl,rfl⟩
  have hi:i=1001:=by simpa using hl
  subst hi;have hS:=yS S (.dct (sqs 1001));have hp:S<+:S++[.dct (sqs 1001)]:=Fq _ _;generalize S++[.dct (sqs 1001)]=T at hS hp;rfl';refine⟨by omega,by omega,?_⟩
  refine u0 (xs:=Cg 1001) (λxs env S'=>∃ (i:Ai) (fd:Aa Pt) (e4 e5:Al D),i+xs.length=1001/\xs=List.range' i (1001-i)/\env=[Ab (.int n),Ab (.loc S.length),Ab (.lst (fd.map ptD)),e3,e4,e5]/\S'=T/\fd.length=4*cnt n (min i 71)/\∀ z∈fd,InB 980 z) ?_ ?_ ⟨0,[],_,_,by simp,by rw[Vt],rfl,rfl,rfl,λ_ h=>by cases h⟩
  .rintro x xs _ _ ⟨i,fd,e4,e5,hl,hx,rfl,rfl,hc,hb⟩
   have hi:i<1001:=by simp at hl;omega
   rw[show 1001-i=(1001-(i+1))+1 by omega,Zq] at hx
   injection hx with h1 h2
   subst h1;have cl:cnt n (min x 71)<=71:=Cq (List.countP_le_length) (by rw[Hw];omega)
   rfl';refine CJ hS ?_;rfl';cases hv:xA (sqs 1001) (.inl ((n:Am)-(x:Am)*(x:Am))) with
   |none =>
    rfl';refine vW ⟨x+1,fd,_,_,by simp at hl;omega,h2,rfl,rfl,?_,hb⟩
    rcases Nat.lt_or_ge x 71 with z|z
    .rw[Lz om] at hc ⊢
     rw[JX,Bc,hc]
     .rfl
     .intro w
      obtain⟨y,hy,e⟩:=Jp.mp w;have e:=Ut e;have h3:=FZ (n:=1001) (i:=y) (by have:=Ei.mp hy;omega)
      rw[show (n:Am)-(x:Am)*(x:Am)=(y:Am)*(y:Am) by rw[<- e];push_cast;omega] at hv
      rw[hv] at h3;cases h3
    .rw[hc,Zr z,Zr om]
   |some d =>
    obtain⟨y,hy,rfl,e⟩:=JE hv;have e2:x*x+y*y=n:=by
     have:((x*x+y*y:Ai):Am)=(n:Am):=by push_cast;omega
     exact_mod_cast this
    have x70:=VW (show x*x<=n by omega) n5
    have y70:=VW (show y*y<=n by omega) n5
    refine w_t ?_;rfl';refine CM hS hv ?_;rfl';refine vB (by rw[Aq];show _+3<=lim;unfold lim;omega) ?_
    rfl';refine vB (by rw[Cj,Aq];show _+3+1<=lim;unfold lim;omega) ?_
    rfl';refine vW ⟨x+1,fd++L4 (x:Am) (y:Am),_,_,by simp at hl;omega,h2,by rw[Fx,Fl];rfl,rfl,?_,λz hz=>?_⟩
    .rw[Cj,hc,Lz om,Lz om,JX,Bb (HP e2 n5)]
     show _+4=_;omega
    .rcases Cp.mp hz with hz|hz
     .exact hb z hz
     .simp only[L4,Kz,Hn,Aw,Ca,Eu] at hz
      unfold InB;rcases hz with rfl|rfl|rfl|rfl <;> dsimp only <;> omega
  .rintro _ _ ⟨i,fd,e4,e5,hl,hx,rfl,rfl,hc,hb⟩
   have hi:i=1001:=by simpa using hl
   subst hi;have h15:=J8 hn;have hlen:fd.length=4*cnt n 71:=hc;rfl';refine ON ?_;rfl';refine⟨by omega,q (yC fd) _ hp (λz=>?_) (λz hz=>hb z ((gH fd z).mp hz)) (Cq (hJ fd) om)⟩
   cases fd with
   |nil=>simp at hlen;omega
   |cons w ws =>
    have:w∈yC (w::ws):=(gH _ w).mpr (by simp)
    rw[z] at this;cases this
def JS:Aa Pt:=(Cg 25).map λ(i:Ai)=>((i:Am)/5,(i:Am) % 5)
def HX:Aa Pt:=(Cg 20).map λ(i:Ai)=>(2*(i:Am),3*(i:Am))
def HY:Aa Pt:=(Cg 5).map λ(i:Ai)=>((i:Am),0)
def EW:Aa Pt:=[(0,0),(0,4),(4,0),(4,4),(2,2),(-1,2),(2,-1),(5,2),(2,5),(1,1),(6,6)]
theorem sF (n:Ai)(hn:n<=1000)(g:Ai->Pt)(step:∀ i:Ai,Ok (fe [Ab (.int i)] S) λd S3=>d=ptD (g i)/\S3=S)(q:Q (.lst (((Cg n).map g).map ptD)) S):Ok (zD false [none] (wR (yN (qA (dC (.int (n:Am))) (qB)))) (gNm 0) (xM) (zG fe) env S) Q:=by
 refine k9 (Cg n) (λi=>ptD (g i)) (λenv S'=>S'=S/\∃ a,env=[a]) (OJ om) ⟨rfl,none,rfl⟩ (by rw[Hw];unfold lim;omega) (λ_ _ _=>trivial) (λx hx env S' ⟨e1,a,e2⟩=>?_) λenv S' ⟨e1,_⟩=>?_
 .subst e1 e2
  rfl';exact zE (step x) λd S3 ⟨h1,h2⟩=>⟨h1,h2,_,rfl⟩
 .subst e1
  rw[Fg] at q;exact q
structure SmOk (p:Ai)(S:Sto)(d:D)(S':Sto)(ps:Aa Pt):Prop where
 seq:fV d S'=Ab (ps.map ptD)
 ne:ps≠[]
 len:ps.length<=60
 box:∀ q∈ps,InB 980 q
 kp:Kp p S S'
theorem v9 {α:Type}:∀ (l:Aa α) (i:Ai) (h:i<l.length),(l[i]::l.eraseIdx i).Perm l
 |[],i,h=>by simp at h
 |x::l,0,_=>Vf _
 |x::l,i+1,h=>(Aa2 x _ _).trans ((v9 l i (by simpa using h)).cons x)
theorem lY {α β:Type}(f:α->β):∀ (l:Aa α) (i:Ai),(l.map f).eraseIdx i=(l.eraseIdx i).map f
 |[],_=>rfl
 |_::_,0=>rfl
 |x::l,i+1=>congrArg (f x::·) (lY f l i)
structure WI (p a many:Ai)(all:Aa Pt)(S S':Sto)(done rest:Aa Pt):Prop where
 ra:S'[a]? = Ab (.lst (rest.map ptD))
 rb:S'[a+1]? = Ab (.lst (done.map ptD))
 perm:(done++rest).Perm all
 le:done.length<=many
 kp:Kp p S S'
theorem KL (p M:Ai)(hM:1<=M/\M<=40){S:Sto}(h:yZ S p)(q:∀ (l:Aa Pt) S',Kp p S S'->Lot M l->(∀ z∈l,z.1<=990)->Q (xZ l) S'):Ok (S__law_lot [.loc p,.int (M:Am)] S) Q:=by
 rw[gN];refine zJ (env:=[Ab (.loc p),Ab (.int (M:Am)),none,none,none,none,none,none,none,none,none]) rfl ?_;rfl';refine w4 h om λway S1 k1 h1=>?_;rfl';refine w4 k1.pen om λm S2 k2 h2=>?_;obtain⟨many,em,hm⟩:∃ many:Ai,1+(m:Am)=(many:Am)/\1<=many/\many<=M:=⟨1+m,by omega,by omega,by omega⟩
 rfl';rw[em];refine w4 k2.pen om λx S3 k3 h3=>?_;rfl';refine w4 k3.pen om λy S4 k4 h4=>?_;rfl';refine w4 k4.pen om λr S5 k5 h5=>?_;have hx : -10<=(x:Am)-10/\(x:Am)-10<=10:=by omega
 have hy : -10<=(y:Am)-10/\(y:Am)-10<=10:=by omega
 generalize (x:Am)-10=x at hx;generalize (y:Am)-10=y at hy;refine sD (show r<3 by omega) λd hd=>?_
 obtain⟨wide,rfl,hw⟩:∃ w:Am,d=.int w/\3<=w/\w<=900:=by
  simp only[Aw,Ca,Eu] at hd;rcases hd with rfl|rfl|rfl <;> exact⟨_,rfl,by omega⟩
 have K5:Kp p S S5:=(((k1.trans k2).trans k3).trans k4).trans k5;clear k1 k2 k3 k4 k5 h1 h2 h3 h4 h5 hd em;array_get_dec;array_get_dec;refine AS (λenv S'=>∃ d e8 e9 ps,env=[Ab (.loc p),Ab (.int (M:Am)),Ab (.int way),Ab (.int (many:Am)),Ab (.int x),Ab (.int y),Ab (.int wide),Ab d,e8,e9,none]/\SmOk p S d S' ps) (λP' hP=>?_) ?_
 .rfl'
  refine wJ (λz=>?_) λz=>?_
  .rfl'
   refine DV K5.pen λn S6 k6 hn=>?_;rfl';refine UE hn λps S7 k7 ne hb hl=>?_;rfl';exact hP _ _ ⟨_,_,_,ps,rfl,rfl,ne,hl,hb,(K5.trans k6).trans (Kp.pre k6.pen k7)⟩
  rfl';refine wJ (λz=>?_) λz=>?_
  .rfl'
   refine sF 25 om (λ(i:Ai)=>((i:Am)/5,(i:Am) % 5)) (λi=>?_) ?_
   .rfl'
    exact rfl
   .rfl'
    exact hP _ _ ⟨_,_,_,JS,rfl,rfl,by decide,by decide,kd,K5⟩
  rfl';refine wJ (λz=>?_) λz=>?_
  .rfl'
   refine sF 20 om (λ(i:Ai)=>(2*(i:Am),3*(i:Am))) (λi=>?_) ?_
   .rfl'
    exact rfl
   .rfl'
    refine sF 5 om (λ(i:Ai)=>((i:Am),0)) (λi=>?_) ?_
    .rfl'
     exact rfl
    .refine vB (by rw[Aq,Aq];decide) ?_
     rw[<- Fx];rfl';exact hP _ _ ⟨_,_,_,HX++HY,rfl,rfl,by decide,by decide,kd,K5⟩
  rfl';refine wJ (λz=>?_) λz=>?_
  .rfl'
   exact hP _ _ ⟨_,_,_,EW,rfl,rfl,by decide,by decide,kd,K5⟩
  rfl';refine⟨by omega,by omega,?_⟩
  have hpl:p<S5.length:=XU K5.pen;refine u0 (λxs env S'=>∃ (ps:Aa Pt) (e8 e9:Al D),ps.length+xs.length=M/\(∀ q∈ps,InB 980 q)/\env=[Ab (.loc p),Ab (.int (M:Am)),Ab (.int way),Ab (.int (many:Am)),Ab (.int x),Ab (.int y),Ab (.int wide),Ab (.loc S5.length),e8,e9,none]/\Kp p S5 S'/\S'[S5.length]? = Ab (.lst (ps.map ptD))) ?_ ?_ ⟨[],_,_,by simp,λ_ h=>(by cases h),rfl,Kp.pre K5.pen (Fq _ _),yS _ _⟩
  .rintro t xs _ S' ⟨ps,e8,e9,hl,hb,rfl,K,hS⟩
   have la:=(Az.mp hS).1;rfl';refine w4 K.pen om λr1 S6 k6 h6=>?_;have hS6:=(k6.same _ la om).trans hS;rfl';refine⟨sL hS6,?_⟩;rfl';refine w4 k6.pen om λr2 S7 k7 h7=>?_;have hS7:=(k7.same _ (Az.mp hS6).1 om).trans hS6;rfl';refine oZ hS7 (by rw[Aq];unfold lim;simp at hl;omega) ?_
   rfl';refine vW ⟨ps++[((r1:Am)-wide,(r2:Am)-2)],_,_,by simp at hl ⊢;omega,λz hz=>?_,rfl,((K.trans k6).trans k7).set (AT _) _ om,by rw[Ed (Az.mp hS7).1,Fx];rfl⟩
   rcases Cp.mp hz with hz|hz
   .exact hb z hz
   .rw[Dl.mp hz]
    unfold InB;dsimp only;omega
  .rintro _ S' ⟨ps,e8,e9,hl,hb,rfl,K,hS⟩
   refine hP _ _ ⟨_,_,_,ps,rfl,FX hS,λz=>?_,by simp at hl;omega,hb,K5.trans K⟩
   subst z;simp at hl;omega
 .rintro _ S6 ⟨d,e8,e9,ps,rfl,sm⟩
  have hpp:p<S6.length:=XU sm.kp.pen;rfl';refine CS ?_;rfl';refine⟨ps,sm.seq,by have:=sm.len;omega,?_⟩
  rfl';have hal:=Cq (hJ ps) sm.len;have hne:yC ps≠[]:=λz=>by
   obtain⟨w,hw⟩:=List.exists_mem_of_ne_nil _ sm.ne;have:=(gH ps w).mpr hw;rw[z] at this;cases this
  rw[Cj,No];refine MC (λn env S'=>env=[Ab (.loc p),Ab (.int (M:Am)),Ab (.int way),Ab (.int (many:Am)),Ab (.int x),Ab (.int y),Ab (.int wide),Ab (.loc S6.length),e8,e9,Ab (.loc (S6.length+1))]/\∃ done rest,rest.length=n/\WI p S6.length many (yC ps) S S' done rest) ?_ (n:=(yC ps).length) (by rw[MZ];omega) ⟨rfl,[],yC ps,rfl,by simp,by simp,by simp,by simp,sm.kp.trans (Kp.pre sm.kp.pen ((Fq _ _).trans (Fq _ _)))⟩
  rintro n _ S' ⟨rfl,done,rest,rfl,W⟩;have hall:=W.perm.length_eq;rw[Cj] at hall;have la:=(Az.mp W.rb).1;refine DJ ?_;rfl';have hpre:S'<+:S'++[MO.lst []]:=Fq _ _;refine DQ (z:=.bl (!rest.isEmpty)) (eV (tX W.ra hpre) λx hx=>?_) (eV (xs:=[]) (yS _ _) λ_ h=>by cases h) ?_ rfl ?_
  .obtain⟨z,_,rfl⟩:=Bz.mp hx
   rfl
  .unfold gNe
   rw[SZ,show pl zQ (.lst []) = true from rfl]
   cases rest <;> rfl
  have W':WI p S6.length many (yC ps) S (S'++[MO.lst []]) done rest:=⟨tX W.ra hpre,tX W.rb hpre,W.perm,W.le,W.kp.trans (Kp.pre W.kp.pen hpre)⟩;have la':S6.length+1<(S'++[MO.lst []]).length:=by rw[Cj];omega
  generalize S'++[MO.lst []] = S' at W' la';clear W hpre la;have fin:¬ (rest≠[]/\done.length<many)->Ok (qL jV (qA (qL jU (qA (zD false [none,Ab 4,Ab 5] (dIt (qC 10)) (gNm 0) (xM) (zG (qU (qA (d2 zH (d2 gIx (qC 0) (dC (.int 0))) (qC 1)) (qA (d2 zH (d2 gIx (qC 0) (dC (.int 1))) (qC 2)) (qB)))))) (qB))) (qB)) [Ab (.loc p),Ab (.int (M:Am)),Ab (.int way),Ab (.int (many:Am)),Ab (.int x),Ab (.int y),Ab (.int wide),Ab (.loc S6.length),e8,e9,Ab (.loc (S6.length+1))] S') Q:=λhc=>by
   rfl';refine k9 done (λz=>ptD (z.1+x,z.2+y)) (λenv S1=>S1=S'/\∃ a,env=[a,Ab (.int x),Ab (.int y)]) (OI rfl W'.rb) ⟨rfl,none,rfl⟩ (by unfold lim;omega) (λ_ _ ⟨e,_⟩=>by subst e;exact W'.rb) (λz hz env S1 ⟨e1,a,e2⟩=>?_) λenv S1 ⟨e1,_⟩=>?_
   .subst e1 e2
    rfl';exact⟨_,rfl⟩
   .subst e1
    rfl';have hnd:done.Nodup:=(Ja.mp (W'.perm.nodup_iff.mpr (AR (M2 ps)))).1;have hle:=W'.le;rw[show (done.map λz=>ptD (z.1+x,z.2+y))=(done.map λz=>(z.1+x,z.2+y)).map ptD by rw[Fg];rfl]
    refine CQ (by rw[Aq];omega) ?_
    rfl';have hbx:∀ z∈done.map λz=>(z.1+x,z.2+y),InB 990 z:=λz hz=>by
     obtain⟨w,hw,rfl⟩:=Bz.mp hz;have:=sm.box w ((gH ps w).mp (W'.perm.mem_iff.mp (Dh _ hw)));unfold InB at this ⊢;dsimp only;omega
    refine q _ S1 W'.kp (HZ (λz=>?_) (by rw[Aq];omega) ?_ λz hz=>?_) λz hz=>(hbx z ((pS _).mem_iff.mp hz)).2.1
    .have z:=List.map_eq_nil_iff.mp z
     subst z;by_cases hr:rest=[]
     .subst hr
      simp at hall;exact hne (Jq.mp hall.symm)
     .exact hc ⟨hr,by simp;omega⟩
    .rw[Wk,Dr]
     exact hnd.imp λ{a b} hab z=>hab (Zu (by have:=congrArg Prod.fst z;dsimp only at this;omega) (by have:=congrArg Prod.snd z;dsimp only at this;omega))
    .have:=hbx z hz
     unfold InB at this ⊢;omega
  rfl';refine⟨λe=>?_,λe=>?_⟩
  .have hr:rest≠[]:=λz=>by subst z;cases e
   have hr0:=Jo.mpr hr;rfl';refine XN W'.rb ?_;rw[Aq];rfl';refine⟨λe=>?_,λe=>?_⟩
   .have hd:done.length<many:=by have:=Bx e;omega
    rfl';refine⟨sL W'.rb,?_⟩;rfl';refine⟨sL W'.ra,?_⟩;rfl';refine XN W'.ra ?_;rw[Aq];rfl';refine w4 W'.kp.pen om λr S7 k7 h7=>?_;have ra:=(k7.same _ om om).trans W'.ra;have rb:=(k7.same _ la' om).trans W'.rb;have hr1:r<rest.length:=by omega
    rfl';refine CP ra (by rw[Aq];exact hr1) om ?_
    rw[Ny,lY];rfl';have l7:=k7.len;refine oZ (i:=S6.length+1) (by rw[Dx om];exact rb) (by rw[Aq];unfold lim;omega) ?_
    rfl';refine ED (rest.eraseIdx r).length (by rw[Vp,Bb hr1];omega) ⟨rfl,done++[rest[r]],rest.eraseIdx r,rfl,?_,?_,?_,by simp;omega,((W'.kp.trans k7).set sm.kp.len _ om).set (by have:=sm.kp.len;omega) _ om⟩
    .rw[Dx om,Ed om]
    .rw[Ed (by rw[Tl];omega),Fx]
     rfl
    .rw[Fl]
     exact(Uo done (v9 rest r hr1)).trans W'.perm
   .have hd:¬ done.length<many:=λz=>by have:=He e;omega
    exact EC (GC (fin λz=>hd z.2))
  .have hr:rest=[]:=by cases rest with|nil=>rfl|cons _ _=>cases e
   exact⟨(λz=>by cases z),λ_=>EC (GC (fin λz=>z.1 hr))⟩
def UG (x y:Am):Aa D:=[.tup [.int x,.int y,.int 0],.tup [.int x],.lst [.int x,.int y],.non,.tup [.bl true,.int y],.tup [.int x,.non],.tup [.int 1001,.int y]]++[.tup [.int x,.int (-1001)]]
theorem F0 (x y:Am):∀ d∈UG x y,Pn d/\xI d=false:=by
 intro d hd;simp only[UG,Kz,Hn,Aw,Ca,Eu] at hd;rcases hd with rfl|rfl|rfl|rfl|rfl|rfl|rfl|rfl
 all_goals refine⟨⟨_,rfl⟩,?_⟩
 all_goals first|rfl|exact Kq _
def tL (l:Aa Pt)(a:Ai)(o:D):Aa D:=(l.map ptD).take a++[o]++(l.map ptD).drop (a+1)
def rL:Aa D:=(Cg 41).map λ(i:Ai)=>D.tup [.int (i:Am),.int 0]
theorem D7 (l:Aa Pt)(q:Pt)(a:Ai)(o:D)(ho:Pn o/\xI o=false):∀ d∈((Cw 4 [D.tup (tL (l++[q]) a o)]).flatten++[.non,.tup [],.lst ((l++[q]).map ptD),ptD ((l++[q]).head (by simp)),.str "0,0",.int 7,.dct0,.tup ((l++[q]).map ptD++[ptD q])]++[.tup [.tup ((l++[q]).map ptD)]])++[.tup (_H.stepL ((l++[q]).map ptD) (-1)++[ptD q]),.tup rL]++[.tup [.tup [.int 0,.int 0],.tup [.int 0,.int 0]]],NoL d:=by
 have pp:∀ x∈(l++[q]).map ptD,Pn x:=λx hx=>by
  obtain⟨z,_,rfl⟩:=Bz.mp hx;exact mU z
 have lq:(l++[q]).map ptD=l.map ptD++[ptD q]:=by rw[Fx];rfl
 have hb:NoL (.tup (tL (l++[q]) a o)):=by
  refine⟨fR λx hx=>?_,nH (x:=o) (by simp[tL]) ho.2⟩
  unfold tL at hx;rcases Cp.mp hx with hx|hx
  .rcases Cp.mp hx with hx|hx
   .exact pp x (List.mem_of_mem_take hx)
   .rw[Dl.mp hx];exact ho.1
  .exact pp x (Vu hx)
 intro d hd;simp only[Gq,List.replicate_zero,Hv,List.flatten_nil,Kz,Hn,Gx,Aw,Ca,Eu] at hd;rcases hd with rfl|rfl|rfl|rfl|rfl|rfl|rfl|rfl|rfl|rfl|rfl|rfl|rfl|rfl|rfl|rfl
 .exact hb
 .exact hb
 .exact hb
 .exact hb
 .exact⟨⟨_,rfl⟩,rfl⟩
 .exact⟨⟨_,rfl⟩,rfl⟩
 .exact⟨OS pp,rfl⟩
 .exact⟨mU _,nH (x:=.int _) (Cz ..) rfl⟩
 .exact⟨⟨_,rfl⟩,rfl⟩
 .exact⟨⟨_,rfl⟩,rfl⟩
 .exact⟨⟨_,rfl⟩,rfl⟩
 .refine⟨fR λx hx=>?_,nJ ?_⟩
  .rcases Cp.mp hx with hx|hx
   .exact pp x hx
   .rw[Dl.mp hx];exact mU q
  .rw[Ja]
   exact λh=>h.2.2 (ptD q) (by rw[lq];simp) (ptD q) (by simp) rfl
 .refine⟨fR λx hx=>by rw[Dl.mp hx];exact fR pp,nH (x:=.tup ((l++[q]).map ptD)) (by simp) ?_⟩
  match hm:(l++[q]).map ptD with
  |[]=>rfl
  |[_]=>rfl
  |[x,y] =>
   have:x∈(l++[q]).map ptD:=by rw[hm];simp
   obtain⟨z,_,rfl⟩:=Bz.mp this;rfl
  |_::_::_::_=>rfl
 .refine⟨fR λx hx=>?_,nJ ?_⟩
  .rcases Cp.mp hx with hx|hx
   .exact pp x (WV hx)
   .rw[Dl.mp hx];exact mU q
  .rw[Ja]
   exact λh=>h.2.2 (ptD q) (by rw[lq];exact WW _ _) (ptD q) (by simp) rfl
 .refine⟨fR λx hx=>?_,BP (by unfold rL;simp)⟩
  obtain⟨i,_,rfl⟩:=Bz.mp hx;exact⟨.tuple [.int (i:Am),.int 0],rfl⟩
 .exact⟨⟨_,rfl⟩,nJ (by simp)⟩
theorem DN (q:Q (.lst rL) S):Ok (zD false [none] (wR (yN (qA (dC (.int 41)) (qB)))) (gNm 0) (xM) (zG (qU (qA (qC 0) (qA (dC (.int 0)) (qB))))) env S) Q:=by
 refine sF 41 om (λ(i:Ai)=>((i:Am),0)) (λi=>?_) ?_
 .rfl'
  exact rfl
 .rw[Fg]
  exact q
theorem UF (p M:Ai)(hM:M<=40)(l:Aa Pt)(hl:Lot M l)(S:Sto)(h:yZ S p):Ok (S__law_no_lot [.loc p,xZ l] S) λd _=>NoL d:=by
 rw[uG];refine zJ (env:=[Ab (.loc p),Ab (.tup (l.map ptD)),none,none,none,none,none,none,none]) rfl ?_;unfold b__law_no_lot;have n0:0<l.length:=Jo.mpr hl.ne;have n1:=hl.len;rfl';refine w4 h om λw S1 k1 hw=>?_;rfl';refine w4 k1.pen (by rw[Aq];omega) λa S2 k2 ha=>?_
 rw[Aq] at ha;rfl';have e1:_L.atI (l.map ptD) (a:Am)=Ab (ptD (l[a]' om)):=by
  rw[o4 (by rw[Aq];omega),Ny]
 refine Q2 e1 ?_;generalize l[a]' om=q;refine OO (xs:=[.int q.1,.int q.2]) ?_;rfl';refine w4 k2.pen om λb S3 k3 hb=>?_;refine sD (a:=UG q.1 q.2) (show b<8 by omega) λo ho=>?_
 have on:=F0 q.1 q.2 o ho;rfl';rw[TL _ a (by rw[Aq];omega)]
 refine pM (by simp only[Aq,Ia,Ch,Ez];unfold lim;omega) ?_
 rfl';rw[show (a:Am)+1=((a+1:Ai):Am) by omega,TK _ (a+1) (by rw[Aq];omega)]
 refine pM (by simp only[Cj,Aq,Ia,Jj,Ch,Ez];unfold lim;omega) ?_
 rcases List.eq_nil_or_concat l with z|⟨l',z,rfl⟩
 .exact absurd z hl.ne
 rw[List.concat_eq_append] at *;have hno:=D7 l' z a o on;have bl:((l'++[z]).map ptD).take a++[o]++((l'++[z]).map ptD).drop (a+1)=tL (l'++[z]) a o:=rfl;rw[bl];generalize tL (l'++[z]) a o=bn at hno;clear e1 bl on ho;rfl';refine DR (k:=4) ⟨Dd rfl,by omega⟩ ?_
 rfl';refine Q2 (d:=ptD ((l'++[z]).head (by simp))) ?_ ?_
 .cases l' <;> exact o4 (a:=0) (by simp)
 rfl';have lc:xK ((l'++[z]).map ptD) (Ab (-1)) none=[ptD z]:=by
  rw[Fx];exact GT _ _
 rw[lc];have hlen:((l'++[z]).map ptD).length<=40:=by rw[Aq];omega
 refine pM (by simp only[Ch,Ez];unfold lim;omega) ?_
 rfl';refine DH rfl rfl (Dd rfl) ?_;rfl';refine⟨sL (yS _ _),?_⟩;rfl';refine oZ (yS _ _) (Dd rfl) ?_;rw[eZ];rfl';refine o_2 ?_;rfl';refine DX om ?_;rfl';rw[lc];have hst:(_H.stepL ((l'++[z]).map ptD) (-1)).length<=40:=by
  unfold _H.stepL;refine Cq (Rw _ _) ?_;rw[Hw,gI];exact hlen
 refine pM (by simp only[Ch,Ez];unfold lim;omega) ?_
 rfl';refine DN ?_;rfl';refine DD (HV (yS _ _)) rfl (Dd rfl) ?_;rfl';refine vB (Dd rfl) ?_;rfl';refine sD (show w<16 by omega) λd hd=>?_
 rfl';exact hno d hd
theorem CI {q:Pt}(hp:InB 1000 p)(hq:InB 1000 q)(h:Q (.int (far p q)) S):Ok (S_far_between [ptD p,ptD q] S) Q:=by
 unfold InB at hp hq;rw[uH];refine zJ (env:=[Ab (ptD p),Ab (ptD q),none,none]) rfl ?_;rfl';exact h
theorem VG {xs ys:Aa D}(h:xs.length+ys.length<=lim)(S:Sto):zH (.tup xs) (.tup ys) S=.ok (.tup (xs++ys)) S:=Bb h
theorem AD (p q:Pt)(S:Sto)(hp:InB 1000 p)(hq:InB 1000 q):S_far_between [ptD p,ptD q] S=.ok (.int (far p q)) S:=zW (CI hp hq ⟨rfl,rfl⟩)
theorem E6 (n:Ai)(p:Pt):trb (n+1) (ptD p)=true:=by cases n <;> rfl
theorem M9 (n:Ai)(l:Aa Pt):trb (n+2) (.tup (l.map ptD))=true:=Be.mpr λx hx=>by
 obtain⟨p,_,rfl⟩:=Bz.mp hx;exact E6 n p
theorem sX:∀ a b:Aa Pt,wO (a.map ptD) (b.map ptD)=true
 |[],_=>rfl
 |_::_,[]=>rfl
 |p::a,q::b=>by
  show (w9 (ptD p) (ptD q)&&wO (a.map ptD) (b.map ptD))=true;rw[sX a b];rfl
theorem HI (p q:Pt):eqD (ptD p) (ptD q)=decide (p=q):=by
 show (p.1 == q.1&&(p.2 == q.2&&true))=_;rw[Tz];simp[Prod.ext_iff]
theorem KP (n:Ai)(p:Pt):pl (n+1) (ptD p)=true:=by cases n <;> rfl
theorem KG (p q:Pt)(S:Sto):gNe (ptD p) (ptD q) S=.ok (.bl (decide (p≠q))) S:=by
 unfold gNe;rw[show pl zQ (ptD p)=true from KP 29 p,show pl zQ (ptD q)=true from KP 29 q,HI]
 simp
def oth (l:Aa Pt)(p:Pt):Aa Pt:=l.filter λq=>decide (q≠p)
def at' (p:Pt)(qs:Aa Pt)(n:Am):Aa Pt:=qs.filter λq=>far p q == n
def ded (p:Pt)(qs:Aa Pt):Aa Am:=(qs.map (far p)).foldl Cs []
def kvO (p:Pt)(qs:Aa Pt):Aa (_L.Key × D):=(ded p qs).map λn=>(Jg n,D.tup ((at' p qs n).map ptD))
def ns (p:Pt)(qs:Aa Pt):Aa Am:=_S.srt _S.ltI (qs.map (far p))
def rD (x:Am × Aa Pt):D:=.tup [.int x.1,.tup (x.2.map ptD)]
def rg (p:Pt)(qs:Aa Pt):Aa (Am × Aa Pt):=(ns p qs).map λn=>(n,at' p qs n)
theorem cU {n:Am}:n∈ded p qs↔n∈qs.map (far p):=by
 unfold ded;rw[VE];simp
theorem N8 (p:Pt)(qs:Aa Pt):(ded p qs).Nodup:=B3 _ _ Aa0
theorem cT (p:Pt)(qs:Aa Pt):(ded p qs).length<=qs.length:=by
 have:=VD (ks:=qs.map (far p)) (l:=[]);simpa [ded] using this
theorem GJ {n:Am}(h:n ∉ qs.map (far p)):at' p qs n=[]:=by
 unfold at';rw[List.filter_eq_nil_iff];intro q hq e;exact h (Bz.mpr ⟨q,hq,by simpa using e⟩)
theorem iO (f:Am->D)(n:Am):∀ ds:Aa Am,xA (ds.map λm=>(Jg m,f m)) (.inl n)=if n∈ds then Ab (f n) else none
 |[]=>rfl
 |d::ds=>by
  have ih:=iO f n ds;unfold xA at *;rw[Ee,Ix];by_cases h:d=n
  .subst h
   simp
  .have:decide ((Jg d:_L.Key)=.inl n)=false:=Cn λe=>h (Ys e)
   rw[this];simp only;rw[ih];simp[El h]
set_option tactic.hygienic true in
theorem mO (p:Pt)(qs:Aa Pt)(n:Am):(xA (kvO p qs) (.inl n)).getD (.tup []) = .tup ((at' p qs n).map ptD):=by
 unfold kvO;rw[iO (λn=>D.tup ((at' p qs n).map ptD)) n]
 split
 .rfl
 .rename_i h
  rw[GJ λz=>h (cU.mpr z)];rfl
theorem FD (f:Am->D)(n:Am)(d:D)(ds:Aa Am):yB (ds.map λm=>(Jg m,f m)) (.inl n) d=(if n∈ds then ds else ds++[n]).map λm=>(Jg m,if m=n then d else f m):=by
 unfold yB;have hany:((ds.map λm=>((Jg m:_L.Key),f m)).any λkv=>decide (kv.1=.inl n))=decide (n∈ds):=by
  rw[List.any_map,Tz,Jp,Ce];constructor
  .rintro⟨m,hm,e⟩
   have:(Jg m:_L.Key)=.inl n:=by simpa using e
   cases this;exact hm
  .intro h
   exact⟨n,h,by simp⟩
 rw[hany];by_cases h:n∈ds
 .rw[Bb (by simpa using h),Bb h,Fg]
  apply Hz;intro m _;show (if (Jg m:_L.Key)=.inl n then _ else _)=_
  by_cases e:m=n
  .subst e;simp
  .rw[Bc λz=>e (Ys z),Bc e]
 .rw[Bc (by simpa using h),Bc h,Fx]
  congr 1
  .apply Hz
   intro m hm;rw[Bc];rintro rfl;exact h hm
  .simp
set_option tactic.hygienic true in
theorem LR (p:Pt)(qs:Aa Pt)(q:Pt):yB (kvO p qs) (.inl (far p q)) (.tup ((at' p qs (far p q)).map ptD++[ptD q]))=kvO p (qs++[q]):=by
 unfold kvO;rw[FD (λn=>D.tup ((at' p qs n).map ptD))];have e:ded p (qs++[q])=if far p q∈ded p qs then ded p qs else ded p qs++[far p q]:=by
  unfold ded;rw[Fx,List.foldl_append];show Cs _ (far p q)=_
  split
  .rename_i h;exact M4 h
  .rename_i h;exact JI h
 rw[e];apply Hz;intro m _;have ea:at' p (qs++[q]) m=at' p qs m++if far p q=m then [q] else []:=by
  unfold at';rw[Xg]
  congr 1
  by_cases h:far p q=m
  .simp[h]
  .simp[h]
 rw[ea];by_cases h:m=far p q
 .subst h
  rw[Bb rfl,Bb rfl,Fx];rfl
 .rw[Bc h,Bc (El h),Gx]
theorem AB {a b:Am}(h:a<b)(x y:Aa Pt):ltN (rD (a,x)) (rD (b,y))=true:=by
 unfold rD;rw[nM,pL (n:=0) (m:=0) (.int _ _) (.int _ _) rfl,Bc,nK]
 .exact Cy h
 .show ¬ (a == b)=true
  simp;omega
theorem D1 {a b:D}(h:ltN a b=true):ltN b a=false:=by
 cases q:ltN b a with
 |false=>rfl
 |true=>exact absurd (_S.x8.tr h q) (by rw[_S.x8.irr];simp)
theorem G7 (x:Am × Aa Pt):trb 6 (rD x)=true:=by
 show (true&&(trb 5 (.tup (x.2.map ptD))&&true))=true;rw[M9 3];rfl
theorem EV (x y:Am × Aa Pt):w9 (rD x) (rD y)=true:=by
 show (true&&(wO (x.2.map ptD) (y.2.map ptD)&&true))=true;rw[sX];rfl
theorem mK (p:Pt)(qs:Aa Pt):wD (kvO p qs)=((ded p qs).map λn=>(n,at' p qs n)).map rD:=by
 unfold wD kvO;rw[Fg,Fg];rfl
theorem eC {n:Am}:n∈ns p qs↔n∈qs.map (far p):=_S.yY _S.UI n _
theorem oX (p:Pt)(qs:Aa Pt):(ns p qs).Pairwise λa b=>a<b:=(_S.kG _S.UI _).imp λh=>Bx h
theorem CG (p:Pt)(qs:Aa Pt):(ns p qs).Nodup:=(oX p qs).imp λh=>Int.ne_of_lt h
theorem WU (p:Pt)(qs:Aa Pt):pQ (wD (kvO p qs))=(rg p qs).map rD:=by
 rw[mK];refine M1 (n:=6) (λx hx=>?_) ?_ ?_
 .obtain⟨y,_,rfl⟩:=Bz.mp hx
  exact G4 (G7 y)
 .refine AaF _ (AaF _ ((Qg (CG p qs) (N8 p qs)).mpr λn=>?_))
  rw[eC,cU]
 .unfold rg
  rw[Dr,Dr];exact(oX p qs).imp λh=>D1 (AB h _ _)
theorem i3 (a:Aa Pt)(q p:Pt):oth (a++[q]) p=if q=p then oth a p else oth a p++[q]:=by
 unfold oth;rw[Xg];by_cases h:q=p
 .simp[h]
 .simp[h]
theorem RX (h:S[j]? = Ab (.dct kvs))(hl:kvs.length<lim)(n:Am)(d:D):wQ (.loc j) (.int n) d S=.ok () (S.set j (.dct (yB kvs (.inl n) d))):=by
 show (match S[j]? with|some (.dct kvs)=>(match yO (.int n) with|some k=>(if kvs.length<lim then Res.ok () (S.set j (.dct (yB kvs k d))) else .bad)|none=>.bad)|_=>pD (.loc j) (.int n) d S)=_
 rw[h];exact Bb hl
theorem L6 (h:S[j]? = Ab (.dct kvs))(n:Am)(x:D):pB (.loc j) [.int n,x] S=.ok ((xA kvs (.inl n)).getD x) S:=by
 show (match S[j]? with|some (.dct kvs)=>(match yO (.int n) with|some k=>Res.ok ((xA kvs k).getD x) S|none=>.bad)|_=>.bad)=_
 rw[h];rfl
theorem ES {ty:Ef}{g:D->Aa D->Sto->Res D}{fo:DE}{fa:DA}{S1 S2:Sto}{o:D}{ds:Aa D}(h1:fo env S=.ok o S1)(ht:tyD o S1=Ab ty)(h2:fa env S1=.ok ds S2):dBm ty g fo fa env S=g o ds S2:=by
 unfold dBm;rw[h1,Res.bind_ok,ht,Bb (by simp),h2,Res.bind_ok]
theorem AH {f o i:DE}{h:G3}{S1 S2 S3 S4:Sto}{d a b:D}(h1:f env S=.ok d S1)(h2:o env S1=.ok a S2)(h3:i env S2=.ok b S3)(h4:h a b d S3=.ok () S4):qV f (gSb o i h) env S=.nx env S4:=by
 simp only[qV,gSb,h1,h2,h3,h4,Res.toS,Res.bind]
inductive IvR (l:Aa Pt)(p:Pt)(S:Sto)(ds:Aa D)(env:qE)(S':Sto):Prop
 |mk (a b:Aa Pt) (e3 e4:Al D) (h_0:a++b=l) (h_1:ds=b.map ptD) (h_2:env=[Ab (.tup (l.map ptD)),Ab (ptD p),Ab (.loc S.length),e3,e4]) (h_3:S'[S.length]? = Ab (.dct (kvO p (oth a p)))) (h_4:∀ m,m<S.length->S'[m]? = S[m]?):IvR l p S ds env S'
theorem FR (l:Aa Pt)(p:Pt)(S:Sto)(hok:∀ q∈l,InB 1000 q)(hp:InB 1000 p)(hl:l.length<=40):∃ (j:Ai) (S':Sto),S_rings [.tup (l.map ptD),ptD p] S=.ok (.loc j) S'/\S'[j]? = Ab (.lst ((rg p (oth l p)).map rD))/\S.length<=j/\S<+:S':=by
 have key:Rt (b_rings [Ab (.tup (l.map ptD)),Ab (ptD p),none,none,none] S) λd S'=>∃ j,d=.loc j/\S'[j]? = Ab (.lst ((rg p (oth l p)).map rD))/\S.length<=j/\S<+:S':=by
  unfold b_rings;have l1:1<=lim:=by decide
  have l0:0<=lim:=by decide
  refine WQ (XJ (qS rfl ?_));simp only[Xh,Xi];refine WQ (DB (ds:=l.map ptD) (S1:=S++[.dct []]) rfl ?_);refine aW (IvR l p S) ?_ ?_ ⟨[],l,none,none,rfl,rfl,rfl,by simp;rfl,λm hm=>Cb hm⟩
  .rintro d ds env S' ⟨a,b,e3,e4,hab,hds,rfl,hd,hpre⟩
   cases b with
   |nil=>cases hds
   |cons q b =>
    injection hds with h1 h2
    subst h1 h2;have hql:q∈l:=by rw[<- hab];simp
    have hlen:(oth a p).length<=40:=by
     have h1:=Ip (λq=>decide (q≠p)) a;have h2:=congrArg Yz hab;rw[Cj] at h2;show (a.filter _).length<=40;omega
    refine⟨[Ab (.tup (l.map ptD)),Ab (ptD p),Ab (.loc S.length),Ab (ptD q),e4],S',rfl,?_⟩;refine CH (b:=decide (q≠p)) (S1:=S') (G6 ((JY (a:=ptD q) (b:=ptD p) rfl rfl).trans (KG q p S'))) ?_;by_cases hqp:q=p
    .rw[Bc (by simpa using hqp)]
     refine KJ rfl ⟨a++[q],b,_,_,by rw[<- hab];simp,rfl,rfl,?_,hpre⟩
     rw[i3,Bb hqp];exact hd
    .rw[Bb (by simpa using hqp)]
     refine DC (XJ (qS ((JV (a:=ptD p) (b:=ptD q) rfl rfl).trans (AD p q S' hp (hok q hql))) ?_));simp only[Xh,Xi];have g1:=(ES (ty:="dict") (g:=pB) (fo:=qC 2) (env:=[Ab (.tup (l.map ptD)),Ab (ptD p),Ab (.loc S.length),Ab (ptD q),Ab (.int (far p q))]) (S:=S') (o:=.loc S.length) rfl (Y2 hd) (TQ (f1:=qC 4) (a:=.int (far p q)) rfl (WY (g:=qB) (as:=[]) rfl l0))).trans (L6 hd (far p q) (.tup []));rw[mO] at g1;have hat:((at' p (oth a p) (far p q)).map ptD).length+[ptD q].length<=lim:=by
      rw[Aq];have h1:=Ip (λr=>far p r == far p q) (oth a p);show (List.filter _ _).length+1<=lim;unfold lim;omega
     have g2:=(JY g1 (WY (ZG (f1:=qC 3) (a:=ptD q) rfl) l1)).trans (VG hat S');refine KJ (AH g2 (a:=.loc S.length) (b:=.int (far p q)) rfl rfl (RX hd ?_ _ _)) ?_
     .have:=cT p (oth a p)
      unfold kvO;rw[Aq];unfold lim;omega
     .have hlt:=(Az.mp hd).1
      refine⟨a++[q],b,_,_,by rw[<- hab];simp,rfl,rfl,?_,λm hm=>?_⟩
      .rw[i3,Bc hqp,<- LR,Ed hlt]
      .rw[Dx om]
       exact hpre m hm
  .rintro env S' ⟨a,b,e3,e4,hab,hds,rfl,hd,hpre⟩
   cases b with
   |cons _ _=>cases hds
   |nil =>
    have:a=l:=by simpa using hab
    subst this;have hlt:=(Az.mp hd).1;have hsz:(wD (kvO p (oth a p))).length<=63:=by
     have h1:=cT p (oth a p);have h2:=Ip (λq=>decide (q≠p)) a;rw[mK,Aq,Aq];have h3:(oth a p).length<=a.length:=h2;omega
    have hs:b0 (qC 2) [Ab (.tup (a.map ptD)),Ab (ptD p),Ab (.loc S.length),e3,e4] S'=.ok (.loc S'.length) (S'++[.lst ((rg p (oth a p)).map rD)]):=by
     show (match vS (.loc S.length) S' with|some kvs=>if (decide ((wD kvs).length<=63)&&sOk (wD kvs))=true then Res.ok (D.loc S'.length) (S'++[MO.lst (pQ (wD kvs))]) else .bad|none=>.bad)=_
     rw[rB hd];dsimp only;rw[Bb,WU];rw[Au,Ce];refine⟨hsz,Be.mpr λx hx=>?_⟩;rw[mK] at hx;obtain⟨y,_,rfl⟩:=Bz.mp hx;rw[G7,Wh,Au];refine⟨rfl,Be.mpr λz hz=>?_⟩;rw[mK] at hz;obtain⟨w,_,rfl⟩:=Bz.mp hz;exact EV y w
    refine RS (qS hs ⟨S'.length,rfl,by simp,by omega,(R0 hpre).trans (Fq _ _)⟩)
 obtain⟨d,S',e,j,rfl,h1,h2,h3⟩:=key;refine⟨j,S',?_,h1,h2,h3⟩;rw[m5];exact RU rfl e
def hct (l:Aa Pt)(p:Pt)(f:Am):Ai:=((oth l p).map (far p)).count f
theorem MY (l:Aa Pt)(p:Pt)(f:Am):(at' p (oth l p) f).length=hct l p f:=by
 unfold hct at';rw[List.count,Om,List.countP_eq_length_filter];rfl
def zT (l ps:Aa Pt):Aa (Pt × Am):=ps.flatMap λp=>(ns p (oth l p)).map λn=>(p,n)
def xN (l:Aa Pt)(x:Pt × Am):D:=.tup [ptD x.1,.int x.2,.int (hct l x.1 x.2:Ai)]
theorem uW {l ps:Aa Pt}{x:Pt × Am}:x∈zT l ps↔x.1∈ps/\x.2∈(oth l x.1).map (far x.1):=by
 unfold zT;rw[List.mem_flatMap];constructor
 .rintro⟨p,hp,h⟩
  obtain⟨n,hn,rfl⟩:=Bz.mp h;exact⟨hp,eC.mp hn⟩
 .rintro⟨h1,h2⟩
  exact⟨x.1,h1,Bz.mpr ⟨x.2,eC.mpr h2,rfl⟩⟩
def Bf (x y:Pt × Am):Prop:=ltP x.1 y.1=true\/x.1=y.1/\x.2<y.2
theorem jX (p:Pt):ltP p p=false:=_S.x8.irr _
theorem D3 {q:Pt}(h:ltP p q=true):ltP q p=false:=by
 cases h2:ltP q p with
 |false=>rfl
 |true=>exact absurd (show ltP p p=true from _S.x8.tr h h2) (by rw[jX];simp)
theorem Bf.irr (x:Pt × Am):¬ Bf x x:=λh=>by
 rcases h with h|h
 .rw[jX] at h;cases h
 .exact Int.lt_irrefl _ h.2
theorem Bf.as {x y:Pt × Am}(h:Bf x y):¬ Bf y x:=λk=>by
 rcases h with h|h
 .rcases k with k|k
  .rw[D3 h] at k;cases k
  .rw[k.1,jX] at h;cases h
 .rcases k with k|k
  .rw[h.1,jX] at k;cases k
  .exact absurd h.2 om
theorem iH (l:Aa Pt):∀ {ps:Aa Pt},Up ps->(zT l ps).Pairwise Bf
 |[],_=>.nil
 |p::ps,u=>by
  obtain⟨u1,u2⟩:=Ej.mp u;show ((ns p (oth l p)).map (λn=>(p,n))++zT l ps).Pairwise Bf;rw[Kv];refine⟨?_,iH l u2,λx hx y hy=>?_⟩
  .rw[Dr]
   exact(oX p (oth l p)).imp λh=>.inr ⟨rfl,h⟩
  .obtain⟨n,_,rfl⟩:=Bz.mp hx
   exact .inl (u1 _ (uW.mp hy).1)
theorem lL (kf:Ai->Am):∀ k,Ec (gtK kf) k<=k/\(∀ j,j<=k->kf j<=kf (Ec (gtK kf) k))/\∀ j,j<Ec (gtK kf) k->kf j<kf (Ec (gtK kf) k)
 |0=>⟨AT _,λj hj=>by
   have:j=0:=by omega
   subst this;exact Io _,λj hj=>absurd hj (by show ¬ j<0;omega)⟩
 |k+1=>by
  obtain⟨h1,h2,h3⟩:=lL kf k;rw[Ec];cases hb:gtK kf (k+1) (Ec (gtK kf) k) with
  |true =>
   have hb':kf (Ec (gtK kf) k)<kf (k+1):=Bx hb;rw[Bb rfl];refine⟨AT _,λj hj=>?_,λj hj=>?_⟩
   .by_cases e:j=k+1
    .subst e;exact Io _
    .have:=h2 j om;omega
   .have:=h2 j om;omega
  |false =>
   have hb':¬ kf (Ec (gtK kf) k)<kf (k+1):=He hb;rw[Bc (by simp)]
   refine⟨by omega,λj hj=>?_,h3⟩
   by_cases e:j=k+1
   .subst e;omega
   .exact h2 j om
theorem lU (l:Aa Pt):∀ xs:Aa (Pt × Am),yK 2 (xs.map (xN l))=Ab (xs.map λx=>(hct l x.1 x.2:Am))
 |[]=>rfl
 |x::xs=>by
  have h1:pH 2 (xN l x)=Ab (hct l x.1 x.2:Am):=rfl;rw[Ee];unfold yK;rw[h1,lU l xs];rfl
theorem U1 {l:Aa Pt}(hu:Up l){xs:Aa (Pt × Am)}(hx:xs=zT l l)(h:xs≠[]):∃ x∈xs,rZ (xs.map λx=>(hct l x.1 x.2:Am)) (xs.map (xN l))=xN l x/\(∀ y∈xs,hct l y.1 y.2<=hct l x.1 x.2)/\∀ y∈xs,Bf y x->hct l y.1 y.2<hct l x.1 x.2:=by
 have hp:=Jo.mpr h;have key:=lL (λi=>(xs.map λx=>(hct l x.1 x.2:Am)).getD i 0) (xs.length-1);have hm:(rZ (xs.map λx=>(hct l x.1 x.2:Am)) (xs.map (xN l)))=(xs.map (xN l)).getD (Ec (gtK λi=>(xs.map λx=>(hct l x.1 x.2:Am)).getD i 0) (xs.length-1)) .non:=by
  unfold rZ;rw[Aq]
 rw[hm];generalize Ec (gtK λi=>(xs.map λx=>(hct l x.1 x.2:Am)).getD i 0) (xs.length-1)=m at key;obtain⟨k1,k2,k3⟩:=key;have hml:m<xs.length:=by omega
 have kf:∀ j (hj:j<xs.length),(xs.map λx=>(hct l x.1 x.2:Am)).getD j 0=(hct l xs[j].1 xs[j].2:Am):=λj hj=>by
  rw[Fo,Dc,An hj];rfl
 refine⟨xs[m],Hr hml,?_,λy hy=>?_,λy hy hb=>?_⟩
 .rw[Fo,Dc,An hml];rfl
 .obtain⟨j,hj,rfl⟩:=Cd.mp hy
  have:=k2 j om;rw[kf j hj,kf m hml] at this;omega
 .obtain⟨j,hj,rfl⟩:=Cd.mp hy
  have pw:=iH l hu;rw[<- hx] at pw;have hjm:j<m:=by
   rcases Ki j m with z|z|z
   .exact z
   .subst z;exact absurd hb (Bf.irr _)
   .exact absurd hb (Bf.as (Jc.mp pw m j hml hj z))
  have:=k3 j hjm;rw[kf j hj,kf m hml] at this;omega
def lwL (l:Aa Pt):Ai->Aa Pt->Aa (Ai × Pt × Am)
 |_,[]=>[]
 |k,p::ps=>((oth l p).map (far p)).map (λf=>(k,p,f))++lwL l (k+1) ps
def lwD (l:Aa Pt)(x:Ai × Pt × Am):D:=.tup [.int (0-(hct l x.2.1 x.2.2:Ai)),.int x.1,.int x.2.2]
theorem mR {l:Aa Pt}:∀ {ps:Aa Pt} {k:Ai} {x:Ai × Pt × Am},x∈lwL l k ps↔∃ i,x.1=k+i/\ps[i]? = Ab x.2.1/\x.2.2∈(oth l x.2.1).map (far x.2.1)
 |[],k,x=>by simp[lwL]
 |p::ps,k,x=>by
  show x∈((oth l p).map (far p)).map (λf=>(k,p,f))++lwL l (k+1) ps↔_;rw[Cp,mR];constructor
  .rintro (h|⟨i,h1,h2,h3⟩)
   .obtain⟨f,hf,rfl⟩:=Bz.mp h
    exact⟨0,rfl,rfl,hf⟩
   .exact⟨i+1,by omega,h2,h3⟩
  .rintro⟨i,h1,h2,h3⟩
   cases i with
   |zero =>
    have e:p=x.2.1:=by simpa using h2
    refine .inl (Bz.mpr ⟨x.2.2,by rw[e];exact h3,?_⟩)
    obtain⟨a,b,c⟩:=x;dsimp only at *;rw[e,h1];rfl
   |succ i=>exact .inr ⟨i,by omega,h2,h3⟩
theorem lt3 {a b c a' b' c':Am}(h:ltN (.tup [.int a,.int b,.int c]) (.tup [.int a',.int b',.int c'])=false):¬ a<a'/\(a=a'->¬ b<b'/\(b=b'->¬ c<c')):=by
 have h':_H.lexLt [2,1,a,1,b,1,c,0] [2,1,a',1,b',1,c',0]=false:=h;simp only[_H.lexLt_cons,Dt] at h';refine⟨λz=>?_,λe=>⟨λz=>?_,λe2 z=>?_⟩⟩
 .rw[Bc om] at h'
  simp[z] at h'
 .rw[Bb e,Bc om] at h'
  simp[z] at h'
 .rw[Bb e,Bb e2,Bc om] at h'
  simp[z] at h'
theorem CA {l:Aa Pt}(hu:Up l){i j:Ai}{p q:Pt}(hi:l[i]? = Ab p)(hj:l[j]? = Ab q):i<j->ltP p q=true:=λh=>by
 obtain⟨hi',rfl⟩:=Az.mp hi;obtain⟨hj',rfl⟩:=Az.mp hj;exact Jc.mp hu i j hi' hj' h
theorem ER {l:Aa Pt}(hu:Up l){x:Pt × Am}(hx:x∈zT l l)(h1:∀ y∈zT l l,hct l y.1 y.2<=hct l x.1 x.2)(h2:∀ y∈zT l l,Bf y x->hct l y.1 y.2<hct l x.1 x.2)
  {z:Ai × Pt × Am} (hz:z∈lwL l 0 l) (h3:∀ y∈lwL l 0 l,ltN (lwD l y) (lwD l z)=false):z.2.1=x.1/\z.2.2=x.2/\l[z.1]? = Ab x.1:=by
 obtain⟨hx1,hx2⟩:=uW.mp hx;obtain⟨i,hi,e⟩:=Cd.mp hx1;have hxi:l[i]? = Ab x.1:=by rw[An hi,e]
 have hxl:(i,x.1,x.2)∈lwL l 0 l:=mR.mpr ⟨i,by simp,hxi,hx2⟩
 obtain⟨j,hj,hzj,hz2⟩:=mR.mp hz;have hj:z.1=j:=by omega
 subst hj;have hzr:(z.2.1,z.2.2)∈zT l l:=uW.mpr ⟨Bk hzj,hz2⟩;obtain⟨a1,a2⟩:=lt3 (h3 _ hxl);have b1:=h1 _ hzr;dsimp only at a1 a2 b1;have ec:hct l z.2.1 z.2.2=hct l x.1 x.2:=by omega
 obtain⟨a3,a4⟩:=a2 (by rw[ec])
 have nb:¬ Bf (z.2.1,z.2.2) x:=λhb=>by
  have:=h2 _ hzr hb;dsimp only at this;omega
 have hij:z.1=i:=by
  rcases Ki z.1 i with q|q|q
  .exact absurd (.inl (CA hu hzj hxi q)) nb
  .exact q
  .exact absurd (show (i:Am)<(z.1:Am) by omega) a3
 have ep:z.2.1=x.1:=by
  rw[hij,hxi] at hzj;exact(Co hzj).symm
 refine⟨ep,?_,by rw[hij];exact hxi⟩
 have a5:=a4 (by rw[hij])
 rcases Int.lt_trichotomy z.2.2 x.2 with q|q|q
 .exact absurd (.inr ⟨ep,q⟩) nb
 .exact q
 .exact absurd q a5
section
variable {α β:Type}{enc:α->D}{enc2:β->D}
theorem TJ {o:Al (Ai × MO)}{cap:Aa (Al Ai)}{fi fi2:DI2}{g g2:DG}{t t2:DT}{S1:Sto}{xs:Aa α}(ys:α->Aa β)(val:α->β->D)(C:qE->Sto->Prop)(hi:fi env S=.ok (o,xs.map enc) S1)(h0:C (xJ cap env) S1)(hl:(xs.flatMap λx=>(ys x).map (val x)).length<=lim)(hst:∀ env S,C env S->stn o S)
  (step:∀ x∈xs,∀ env S,C env S->∃ env1 o2 S3,g (enc x) env S=.ok env1 S/\t env1 S=.ok true S/\fi2 env1 S=.ok (o2,(ys x).map enc2) S3/\stn o2 S3/\∃ C2:qE->Prop,C2 env1/\(∀ y∈ys x,∀ env,C2 env->∃ env',g2 (enc2 y) env S3=.ok env' S3/\C2 env'/\t2 env' S3=.ok true S3/\fe env' S3=.ok (val x y) S3)/\∀ env,C2 env->C env S3) :
  ∃ env' S',C env' S'/\zD false cap fi g t (kIn fi2 g2 t2 (zG fe)) env S=.ok (.lst (xs.flatMap λx=>(ys x).map (val x))) S':=by
 obtain⟨env',S',e,q⟩:=goT (enc:=enc) (o:=o) (g:=g) (t:=t) (k:=kIn fi2 g2 t2 (zG fe)) (λx=>(ys x).map (val x)) C hst xs (xJ cap env) S1 [] h0 (by simpa using hl) (λx hx env S acc hC hl=>by
  obtain⟨env1,o2,S3,e1,e2,e3,e4,C2,c1,c2,c3⟩:=step x hx env S hC;have fm:=fH (val x) (ys x);obtain⟨env2,S4,e5,q,r⟩:=goT (enc:=enc2) (o:=o2) (g:=g2) (t:=t2) (k:=zG fe) (λy=>[val x y]) (λenv S''=>C2 env/\S''=S3) (λ_ _ h=>h.2▸e4) (ys x) env1 S3 acc ⟨c1,rfl⟩ (by rw[fm];exact hl) (λy hy env S'' acc hC hl=>by
   obtain⟨hc,rfl⟩:=hC;obtain⟨env3,f1,f2,f3,f4⟩:=c2 y hy env hc;exact⟨env3,S'',true,S'',f1,f3,.inr ⟨rfl,env3,S'',fN f4 (by simp at hl;omega),f2,rfl⟩⟩)
  subst r;refine⟨env1,S,true,S,e1,e2,.inr ⟨rfl,env2,S4,?_,c3 _ q⟩⟩;unfold kIn;rw[e3];simp only[Res.bind];rw[e5,fm])
 rw[Hn] at e;exact⟨env',S',q,p7 (cap:=cap) hi e⟩
end
theorem iF (l:Aa Pt):(l.flatMap λp=>(rg p (oth l p)).map λy=>D.tup [ptD p,.int y.1,.int (y.2.length:Ai)])=(zT l l).map (xN l):=by
 unfold zT rg;rw[List.map_flatMap]
 congr 1
 funext p
 rw[Fg,Fg];refine Hz λn _=>?_;show D.tup [ptD p,.int n,.int ((at' p (oth l p) n).length:Ai)]=D.tup [ptD p,.int n,.int (hct l p n:Ai)];rw[MY]
theorem nO (l:Aa Pt)(p:Pt):(oth l p).length<=l.length:=Ip _ _
theorem D9 (p:Pt)(qs:Aa Pt):(ns p qs).length<=qs.length:=by
 unfold ns;exact Cq (bL _ _) (by rw[Aq];exact AT _)
theorem dB (l:Aa Pt):∀ ps:Aa Pt,(zT l ps).length<=ps.length*l.length
 |[]=>Gy _
 |p::ps=>by
  show ((ns p (oth l p)).map (λn=>(p,n))++zT l ps).length<=_;have h1:=D9 p (oth l p);have h2:=nO l p;have h3:=dB l ps;rw[Cj,Aq,Ch,Nat.add_mul];omega
theorem iG {l:Aa Pt}(hu:Up l)(h:2<=l.length):zT l l≠[]:=by
 match l,h with
 |p::q::r,_ =>
  have hpq:q≠p:=λe=>by
   have:=(Ej.mp hu).1 q (.head _);rw[e,jX] at this;cases this
  intro e;have:(p,far p q)∈zT (p::q::r) (p::q::r):=uW.mpr ⟨.head _,Bz.mpr ⟨q,Ti.mpr ⟨.tail _ (.head _),by simpa using hpq⟩,rfl⟩⟩
  rw[e] at this;cases this
structure Hb (l:Aa Pt)(x:Pt × Am):Prop where
 mem:x∈zT l l
 most:∀ y∈zT l l,hct l y.1 y.2<=hct l x.1 x.2
 first:∀ y∈zT l l,Bf y x->hct l y.1 y.2<hct l x.1 x.2
theorem Q0 (c:Cl){l:Aa Pt}(h:Lot 40 l)(h2:2<=l.length){S:Sto}(q:∀ x S',Hb l x->S<+:S'->Q (xN l x) S'):Ok (S_hub c [xZ l] S) Q:=by
 have hll:=h.len;rw[kI];refine zJ (env:=[Ab (.tup (l.map ptD)),none]) rfl ?_;rfl';refine qS (bS c S (XW l) (rO (AT _) h)) ?_;rfl';rw[Aq];refine wJ (λe=>absurd e om) λ_=>?_;rfl';have hrl:(zT l l).length<=1600:=Cq (dB l l) (Vj hll hll);obtain⟨env',S',⟨_,hp⟩,e⟩:=TJ (enc:=ptD) (enc2:=rD) (o:=none) (cap:=[none,none,none,Ab 0]) (fi:=dIt (qC 0)) (fi2:=dIt (qN 2 (okO S_rings) (qA (qC 3) (qA (qC 0) (qB))))) (g:=gNm 0) (g2:=gTp 2 (zR (gNm 1) (zR (gNm 2) (vA)))) (t:=xM) (t2:=xM) (fe:=qU (qA (qC 0) (qA (qC 1) (qA (qL xF (qA (qC 2) (qB))) (qB))))) (env:=[Ab (.tup (l.map ptD)),none]) (S:=S) (S1:=S) (xs:=l) (λp=>rg p (oth l p)) (λp y=>D.tup [ptD p,.int y.1,.int (y.2.length:Ai)]) (λenv S'=>(∃ a b c,env=[a,b,c,Ab (.tup (l.map ptD))])/\S<+:S') (oN rfl) ⟨⟨none,none,none,rfl⟩,Bh _⟩ (by rw[iF,Aq];unfold lim;omega) (λ_ _ _=>trivial) (λx hx env S1 ⟨⟨a,b,c',e⟩,hp⟩=>by
  subst e;obtain⟨j,S3,e3,hj,hjl,hp3⟩:=FR l x S1 h.box (h.box x hx) hll;refine⟨[Ab (ptD x),b,c',Ab (.tup (l.map ptD))],Ab (j,.lst ((rg x (oth l x)).map rD)),S3,rfl,rfl,?_,hj,λenv=>∃ b c,env=[Ab (ptD x),b,c,Ab (.tup (l.map ptD))],⟨_,_,rfl⟩,λy hy env ⟨b,c,e⟩=>?_,λenv ⟨b,c,e⟩=>⟨⟨_,_,_,e⟩,hp.trans hp3⟩⟩
  .unfold dIt
   rw[(JV (f1:=qC 3) (f2:=qC 0) (a:=.tup (l.map ptD)) (b:=ptD x) rfl rfl).trans (XQ e3)];show (match S3[j]? with|some (.lst xs)=>Res.ok (Ab (j,MO.lst xs),xs) S3|_=>.bad)=_
   rw[hj]
  .subst e
   refine⟨[Ab (ptD x),Ab (.int y.1),Ab (.tup (y.2.map ptD)),Ab (.tup (l.map ptD))],rfl,⟨_,_,rfl⟩,rfl,zW ?_⟩;rfl';rw[Aq];exact⟨rfl,rfl⟩)
 rw[iF] at e;refine qS e ?_;rfl';obtain⟨x,hx,hm,hm1,hm2⟩:=U1 h.up rfl (iG h.up h2);refine⟨xN l x,S',?_,q x S' ⟨hx,hm1,hm2⟩ hp⟩;show UA 2 [.lst ((zT l l).map (xN l))] S'=_;rw[<- hm];have hne:=iG h.up h2;have hk:=lU l (zT l l);cases hr:zT l l with
 |nil=>exact absurd hr hne
 |cons y ys =>
  rw[hr] at hk;show (match yK 2 (xN l y::ys.map (xN l)) with|some ns=>Res.ok (rZ ns (xN l y::ys.map (xN l))) S'|none=>.bad)=_
  rw[show yK 2 (xN l y::ys.map (xN l))=_ from hk]
  rfl
theorem D8 (c:Cl){d:D}(S:Sto)(h:NoL d):S_hub c [d] S=.ex (.ref c.NoLot) .non S:=by
 rw[kI];exact eW (env:=[Ab d,none]) rfl (NW ((pX rfl).trans (cI c S h.1 h.2)))
theorem aU (c:Cl){l:Aa Pt}(h:Lot 40 l)(h1:l.length<2)(S:Sto):S_hub c [xZ l] S=.ex (.ref c.NoLot) .non S:=by
 rw[kI];refine eW (env:=[Ab (xZ l),none]) (env':=[Ab (xZ l),none]) rfl ((SI ((pX rfl).trans (bS c S (XW l) (rO (AT _) h)))).trans ?_);have e:sIf (dTr (d2 gLt (qL xF (qA (qC 0) (qB))) (dC (.int 2)))) (vX (.ref c.NoLot) (qA (dC (.str "a lot of two points or more is needed")) (qB))) (zL) [Ab (xZ l),none] S=.ex (.ref c.NoLot) .non [Ab (xZ l),none] S:=by
  refine K7 (S1:=S) (zW (DY ?_)) (eP _ _ _ _);unfold xZ;rfl';rw[Aq,Cy om];exact⟨rfl,rfl⟩
 unfold qM;rw[e]
theorem DP {q:Pt}(hp:InB 1000 p)(hq:InB 1000 q)(h:Q (.int (far p q)) S):Ok (S__law_far [ptD p,ptD q] S) Q:=by
 unfold InB at hp hq;rw[gL];refine zJ (env:=[Ab (ptD p),Ab (ptD q),none,none]) rfl ?_;rfl';exact h
theorem YN (fs:Aa Am)(x:Am)(S:Sto):jW (.lst (fs.map D.int)) [.int x] S=.ok (.int (fs.count x:Am)) S:=by
 have h:(fs.map D.int).all (pl zQ)=true:=by
  rw[Jr,Be];intro i _;rfl
 have e:(fs.map D.int).countP (λy=>eqD y (.int x))=fs.count x:=by
  rw[Om,List.count];rfl
 show (if (fs.map D.int).all (pl zQ)&&pl zQ (.int x) then Res.ok (D.int (((fs.map D.int).countP λy=>eqD y (.int x):Ai):Am)) S else .bad)=_
 rw[h,e];rfl
theorem GH {f:DE}{b:Ar}(h:f env S=.ok (.bl b) S):u7 (dTr f) xM env S=.ok b S:=by
 unfold u7;rw[G6 h];cases b <;> rfl
theorem aS (l:Aa Pt):∀ (ps:Aa Pt) (k:Ai),(lwL l k ps).length<=ps.length*l.length
 |[],_=>Gy _
 |p::ps,k=>by
  show (((oth l p).map (far p)).map (λf=>(k,p,f))++lwL l (k+1) ps).length<=_;have h2:=nO l p;have h3:=aS l ps (k+1);rw[Cj,Aq,Aq,Ch,Nat.add_mul];omega
theorem WH {l:Aa Pt}(h:Lot 40 l){x:Pt × Am}(hb:Hb l x)(S:Sto):S__law_hub [xZ l] S=.ok (xN l x) S:=by
 have hll:=h.len;have hlw:(lwL l 0 l).length<=1600:=Cq (aS l l 0) (Vj hll hll);rw[gM];refine zW (zJ (env:=[Ab (.tup (l.map ptD)),none,none,none,none,none,none]) rfl ?_);rfl';refine iP (λds env S'=>S'=S/\∃ (i:Ai) (e2 e3 e4 e5 e6:Al D) (done:Aa (Ai × Pt × Am)),env=[Ab (.tup (l.map ptD)),Ab (.lst (done.map (lwD l))),e2,e3,e4,e5,e6]/\ds=eL i ((l.drop i).map ptD)/\done++lwL l i (l.drop i)=lwL l 0 l) ?_ ?_ ⟨rfl,0,_,_,_,_,_,[],rfl,V7 _,rfl⟩
 .rintro d ds _ S' ⟨rfl,i,e2,e3,e4,e5,e6,done,rfl,hds,hall⟩
  cases hdr:l.drop i with
  |nil=>rw[hdr] at hds;cases hds
  |cons p rest =>
   rw[hdr] at hds hall;injection hds with h1 h2
   subst h1 h2;have hrest:l.drop (i+1)=rest:=by
    have:=congrArg List.tail hdr;simpa [List.tail_drop] using this
   have hpm:p∈l:=Vu (hdr▸Cz ..);have hdl:=congrArg Yz hall;rw[Cj] at hdl;have hol:=nO l p;rfl';refine qS (cP (xs:=l) (enc:=ptD) (o:=none) (oN rfl) trivial (λq=>decide (q≠p)) (λq=>.int (far p q)) (λenv=>∃ a,env=[a,Ab (ptD p)]) ⟨none,rfl⟩ (by unfold lim;omega) λq hq env ⟨a,e⟩=>?_) ?_
   .subst e
    refine⟨_,rfl,⟨_,rfl⟩,GH (KG q p S'),λ_=>zW ?_⟩;rfl';exact DP (h.box p hpm) (h.box q hq) ⟨rfl,rfl⟩
   .have er:((l.filter λq=>decide (q≠p)).map λq=>D.int (far p q))=((oth l p).map (far p)).map D.int:=by
     rw[Fg];rfl
    rw[er];rfl';refine qS (cP (xs:=(oth l p).map (far p)) (enc:=D.int) (o:=none) (OH rfl) trivial (λ_=>true) (λf=>lwD l (i,p,f)) (λenv=>∃ a,env=[a,Ab (.int (i:Am)),Ab (.lst (((oth l p).map (far p)).map D.int))]) ⟨none,rfl⟩ (by rw[Aq];unfold lim;omega) λf hf env ⟨a,e⟩=>?_) ?_
    .subst e
     refine⟨_,rfl,⟨_,rfl⟩,rfl,λ_=>zW ?_⟩;rfl';refine qS (YN ((oth l p).map (far p)) f S') ?_;rfl';exact rfl
    .have e5:(((oth l p).map (far p)).filter λ_=>true).map (λf=>lwD l (i,p,f))=(((oth l p).map (far p)).map λf=>(i,p,f)).map (lwD l):=by
      rw[List.filter_eq_self.mpr λ_ _=>rfl,Fg,Fg,Fg];rfl
     rw[e5];refine vB (by simp only[Aq];unfold lim;omega) ?_
     rw[<- Fx];rfl';refine vW ⟨rfl,i+1,_,_,_,_,_,done++(((oth l p).map (far p)).map λf=>(i,p,f)),rfl,by rw[hrest],?_⟩
     rw[hrest,<- hall,Fl];rfl
 .rintro _ S' ⟨rfl,i,e2,e3,e4,e5,e6,done,rfl,hds,hall⟩
  have hd:done=lwL l 0 l:=by
   cases hdr:l.drop i with
   |cons _ _=>rw[hdr] at hds;cases hds
   |nil =>
    rw[hdr] at hall;simpa [lwL] using hall
  subst hd;have hne:lwL l 0 l≠[]:=λe=>by
   obtain⟨h1,h2⟩:=uW.mp hb.mem;obtain⟨i,hi,ei⟩:=Cd.mp h1;have:(i,x.1,x.2)∈lwL l 0 l:=mR.mpr ⟨i,by simp,by rw[An hi,ei],h2⟩
   rw[e] at this;cases this
  have hpos:0<((lwL l 0 l).map (lwD l)).length:=by rw[Aq];exact Jo.mpr hne
  obtain⟨m1,m2⟩:=XB hpos;obtain⟨z,hz,ez⟩:=Bz.mp m1;have ag:=ER h.up hb.mem hb.most hb.first hz λy hy=>by
   rw[ez];exact m2 _ (Bz.mpr ⟨y,hy,rfl⟩)
  have hmin:mC [.lst ((lwL l 0 l).map (lwD l))] S'=.ok (lwD l z) S':=by
   have ok:mOk ((lwL l 0 l).map (lwD l))=true:=Be.mpr λa ha=>by
    obtain⟨a',_,rfl⟩:=Bz.mp ha;rw[show trb 6 (lwD l a')=true from rfl,AaB]
    exact Be.mpr λb hb=>by
     obtain⟨b',_,rfl⟩:=Bz.mp hb;rfl
   rw[ez];cases hL:(lwL l 0 l).map (lwD l) with
   |nil=>rw[hL] at hpos;cases hpos
   |cons a as =>
    rw[hL] at ok;show (if mOk (a::as)=true then Res.ok (eA (a::as)) S' else .bad)=_
    rw[Bb ok]
  rfl';refine qS hmin ?_;unfold lwD;rfl';obtain⟨g1,g2,g3⟩:=ag;refine Q2 (d:=ptD x.1) ?_ ?_
  .exact _L.GI (by rw[Dc,g3];rfl)
  rfl';refine⟨?_,rfl⟩;unfold xN;rw[g1,g2,show (0:Am)-(0-(hct l x.1 x.2:Ai))=(hct l x.1 x.2:Ai) by omega]
theorem VZ {l:Aa Pt}(h:Lot 7 l)(hx:∀ z∈l,z.1<=990):Lot 40 (l++[(1000,1000)]):=by
 refine⟨by simp,by rw[Cj];have:=h.len;show _+1<=40;omega,?_,λq hq=>?_⟩
 .unfold Up
  rw[Kv];refine⟨h.up,by simp,λa ha b hb=>?_⟩
  rw[Dl.mp hb];have:=hx a ha;unfold ltP;simp[_H.lexLt,show a.1<1000 by omega]
  omega
 .rcases Cp.mp hq with hq|hq
  .exact h.box q hq
  .rw[Dl.mp hq]
   exact⟨by decide,by decide,by decide,by decide⟩
theorem iB (l:Aa Pt)(x:Pt × Am)(S:Sto):S__law_same [xN l x,xN l x] S=.ok (.bl true) S:=by
 refine WJ S (d:=.tup [ptD x.1,.int x.2,.int _]) ⟨Dd rfl,λy hy=>?_⟩;simp only[Aw,Ca,Eu] at hy;rcases hy with rfl|rfl|rfl
 .refine⟨Dd rfl,λy hy=>?_⟩
  simp only[Aw,Ca,Eu] at hy;rcases hy with rfl|rfl <;> trivial
 .trivial
 .trivial
def D0 (l:Aa Pt):Ar:=decide (l≠[])&&decide (l.length<=40)&&upB (l.map kP)&&l.all λq=>decide (InB 1000 q)
theorem aQ {l:Aa Pt}(h:D0 l=true):Lot 40 l:=by
 unfold D0 at h;simp only[Au,Ce,Be] at h;refine⟨h.1.1.1,h.1.1.2,?_,h.2⟩;have:=(tB _).mp h.1.2;rw[Dr] at this;exact this
def l3:Aa Pt:=[(0,0),(1,0),(2,0)]
theorem OC {x:Pt × Am}(h:Hb l3 x):xN l3 x=.tup [ptD (1,0),.int 1,.int 2]:=by
 have e:zT l3 l3=[((0,0),1),((0,0),4),((1,0),1),((2,0),1),((2,0),4)]:=kd;have hm:=h.mem;have hb:=h.most ((1,0),1) (by rw[e];simp)
 rw[e] at hm;simp only[Aw,Ca,Eu] at hm;rcases hm with rfl|rfl|rfl|rfl|rfl
 .exact absurd hb (kd)
 .exact absurd hb (kd)
 .have:hct l3 (1,0) 1=2:=kd
  unfold xN;rw[this];rfl
 .exact absurd hb (kd)
 .exact absurd hb (kd)
def IvL (ns:Aa Am)(_:Aa Am)(env:qE)(_:Sto):Prop:=∃ e1 e2 e3 e4,env=[Ab (.lst (ns.map D.int)),e1,e2,e3,e4]
theorem VV (c:Cl)(nd:(xT c).Nodup)(ns:Aa Am)(hl:ns.length<=63):∃ S,qT 5 (b_law c) [.lst (ns.map D.int)] [] = .ok (.bl true) S:=by
 have key:Ok (qT 5 (b_law c) [.lst (ns.map D.int)] []) λd _=>d=.bl true:=by
  refine zJ (env:=[Ab (.lst (ns.map D.int)),none,none,none,none]) rfl ?_;unfold b_law;array_get_dec;array_get_dec;refine bF ?_;rfl';refine Q0 c (l:=l3) (aQ (kd)) (by decide) λx S1 hb _=>?_
  rw[OC hb];rfl';refine qS (WJ S1 (d:=.tup [ptD (1,0),.int 1,.int 2]) ⟨Dd rfl,λy hy=>?_⟩) ?_
  .simp only[Aw,Ca,Eu] at hy
   rcases hy with rfl|rfl|rfl
   .refine⟨Dd rfl,λy hy=>?_⟩
    simp only[Aw,Ca,Eu] at hy;rcases hy with rfl|rfl <;> trivial
   .trivial
   .trivial
  rfl';refine⟨λe=>(by cases e),λ_=>?_⟩
  rfl';refine Q3 (by rw[Ew];simp[uJ]) (jK c nd) (caps:=[]) rfl ((pX (a:=xZ [(3,4)]) rfl).trans (aU c (l:=[(3,4)]) (aQ (kd)) (by decide) S1)) ?_
  rfl';refine qS (d:=.bl false) (S:=S1) (by kernel_rfl!) ?_
  array_get_dec;array_get_dec;array_get_dec;array_get_dec;array_get_dec;refine AU (FQ ns hl 8 rfl λms=>?_);refine u0 (IvL ns) ?_ ?_ ⟨_,_,_,_,rfl⟩
  .rintro y xs _ S ⟨e1,e2,e3,e4,rfl⟩
   rfl';refine CO λp S0 p0=>?_;rfl';refine KL p 40 om p0 λl1 S1 k1 La _=>?_;rfl';refine KL p 7 om k1.pen λl2 S2 k2 Lb x2=>?_;rfl';have LL:=VZ Lb x2;have n2:=Lb.len;refine pM (by rw[Aq];unfold lim;show _+1<=_;omega) ?_
   have e2':l2.map ptD++[.tup [.int 1000,.int 1000]]=(l2++[((1000:Am),(1000:Am))]).map ptD:=by rw[Fx];rfl
   rw[e2'];rfl';refine iP (λds env S'=>(∀ d∈ds,∃ l,d=xZ l/\Lot 40 l)/\yZ S' p/\∃ e3 e4,env=[Ab (.lst (ns.map D.int)),Ab (.int y),Ab (.loc p),e3,e4]/\(ds.length<2->∃ l,e4=Ab (xZ l)/\Lot 40 l)) ?_ ?_ ⟨?_,k2.pen,_,_,rfl,λh=>absurd h (Dp 2)⟩
   .rintro d ds _ S' ⟨hd,pp,e3,e4,rfl,_⟩
    obtain⟨l,rfl,L⟩:=hd d (.head _);have hd':∀ d∈ds,∃ l,d=xZ l/\Lot 40 l:=λd h=>hd d (.tail _ h);unfold xZ;rfl';rw[Aq];refine wJ (λe=>?_) λe=>?_
    .have h2:2<=l.length:=by omega
     rfl';refine bF ?_;rfl';refine Q0 c L h2 λx S3 hb p3=>?_;rfl';refine qS (WH L hb S3) ?_;rfl';refine qS (iB l x S3) ?_;rfl';refine⟨λe=>(by cases e),λ_=>?_⟩
     rfl';refine Q0 c L h2 λx S4 hb p4=>?_;rfl';refine qS (WH L hb S4) ?_;rfl';refine qS (iB l x S4) ?_;rfl';exact vW ⟨hd',nQ (nQ pp p3) p4,_,_,rfl,λ_=>⟨l,rfl,L⟩⟩
    .rfl'
     refine Q3 (by rw[Ew];simp[uJ]) (jK c nd) (caps:=[xZ l]) rfl ((pX (a:=xZ l) rfl).trans (aU c L om S')) ?_
     rfl';refine qS (d:=.bl false) (S:=S') (by kernel_rfl!) ?_
     rfl';exact vW ⟨hd',pp,_,_,rfl,λ_=>⟨l,rfl,L⟩⟩
   .rintro _ S' ⟨_,pp,e3,e4,rfl,h4⟩
    obtain⟨l,rfl,L⟩:=h4 (by decide)
    rfl';refine zE (UF p 40 om l L S' pp) λbd S4 hbd=>?_;rfl';refine Q3 (by rw[Ew];simp[uJ]) (jK c nd) (caps:=[bd]) rfl ((pX (a:=bd) rfl).trans (D8 c S4 hbd)) ?_
    rfl';refine qS (d:=.bl false) (S:=S4) (by kernel_rfl!) ?_
    rfl';exact vW ⟨_,_,_,_,rfl⟩
   .intro d hd
    simp only[Aw,Ca,Eu] at hd;rcases hd with rfl|rfl
    .exact⟨l1,rfl,La⟩
    .exact⟨_,rfl,LL⟩
  .rintro _ S ⟨e1,e2,e3,e4,rfl⟩
   rfl';exact rfl
 obtain⟨d,S',e,rfl⟩:=key;exact⟨S',e⟩
end _K
namespace _K
open PySem PySem.Spec PyProof.Rows _L _D
variable {mg:Av->Al Ac}
theorem vC {P:Bd}{w:Bt}{K:Aj}{base:Bj}{c:Cl}(T:Txt K mg c){k:Ai}{F:DF}(d:DfS F P w K mg base true k "_law_same" 2):DfS (qT 2 (b__law_same F)) P w K mg base true (k+1) "_law_same" 2:=by
 refine dq P w base k 11 T rfl ck rfl ?_
 intros
 repeat' first
  |with_reducible exact ck
  |((with_reducible show QE _ _ _);with_reducible first|apply aV|apply KQ|apply W4|apply aBt|apply aO|(apply aB;first|apply GG|apply GF|apply GE|apply Y7)|apply aC|apply W7|apply W3|apply W5|apply W1)
  |((with_reducible show _=_);first|exact T.nb ck|exact k8 _|exact rfl|with_unfolding_all rfl)
  |((with_reducible show ZOp _ _ _);with_reducible first|apply EG|apply EM|apply EH)
  |((with_reducible show RoomC _ _ _);first|assumption|exact RoomC.mono (by assumption)|exact RoomC.mono (RoomC.any (by assumption))|exact RoomC.mark (by assumption) _|exact RoomC.mono (RoomC.mark (by assumption) _))
  |((with_reducible show St1 _ _ _ _);exact⟨rfl,rfl⟩)
  |((with_reducible show DfS _ _ _ _ _ _ _ _ _ _);assumption)
  |with_reducible first|apply W0|apply mV|apply bJ|apply i6|apply XZ|apply WC|(apply KS;first|apply mX|apply sH)|apply WD|apply mX|apply sH|apply aNm|apply W8|apply eM|apply i7|apply WA|apply W9|apply i9|apply i8|apply WB|apply KR|apply K4
  |((with_reducible apply aSt);case hs=>exact rfl)
  |((with_reducible show ClA _ _ _ _);first|assumption|exact ClA.tr (by assumption))
  |((with_reducible show LmX _ _ _ _ _ _ _ _ _ _);assumption)
  |((with_reducible show DfL _ _ _ _ _ _ _ _ _ _ _ _ _);assumption)
  |((with_reducible show ZF _ _ _ _);first|apply aFn|apply aFn0)
  |exact λ_=>⟨rfl,rfl,rfl⟩
  |(intro h;cases h;done)
  |((with_reducible show ZPass _);first|assumption|exact iQ)
  |exact⟨rfl,rfl⟩
  |exact⟨rfl,rfl,rfl⟩
  |apply mV
  |apply bJ
  |(intros;rfl)
  |(intro _ h;cases h <;> rfl)
  |decide
  |intro _
theorem BK {P:Bd}{w:Bt}{K:Aj}{base:Bj}{c:Cl}(T:Txt K mg c)(nd:(xT c).Nodup)(hT:(LS.all λy=>(Dq K y).isSome)=true):∃ F,sN P w K mg base true 9 "law" ["_law_script"] F/\∀ ns:Aa Am,ns.length<=63->∃ S,F [.lst (ns.map D.int)] [] = .ok (.bl true) S:=by
 refine hv (λ_=>?_) (dq (cm:=true) P w base 0 0 T rfl ck (gQ) ?_);refine hv (λ_=>?_) (dq (cm:=true) P w base 1 1 T rfl ck (jT) ?_);refine hv (λ_=>?_) (dq (cm:=true) P w base 0 2 T rfl ck (jS) ?_);refine hv (λ_=>?_) (dq (cm:=true) P w base 2 3 T rfl ck (gP) ?_);refine hv (λ_=>?_) (dq (cm:=true) P w base 3 4 T rfl ck (bO) ?_);refine hv (λ_=>?_) (dq (cm:=true) P w base 4 5 T rfl ck (u4 c) ?_);refine hv (λ_=>?_) (dq (cm:=true) P w base 0 6 T rfl ck (uH) ?_);refine hv (λ_=>?_) (dq (cm:=true) P w base 1 7 T rfl ck (m5) ?_);refine hv (λ_=>?_) (dq (cm:=true) P w base 5 8 T rfl ck (kI c) ?_);refine hv (λ_=>?_) (dq (cm:=false) P w base 0 9 T rfl ck (j9 c) ?_);refine hv (λ_=>?_) (dqL (cm:=true) (g:=b__law_refused c) (N:=2) P w base 7 7 0 10 T rfl ck ?_);have s0:DfS (t8 0) P w K mg base true 0 "_law_same" 2:=⟨PC (T.src 11 rfl)⟩;have d__law_same:DfS S__law_same P w K mg base true 4 "_law_same" 2:=jR▸vC T (vC T (vC T (vC T s0)));refine hv (λ_=>?_) (dq (cm:=true) P w base 0 12 T rfl ck (jO) ?_);refine hv (λ_=>?_) (dq (cm:=true) P w base 0 13 T rfl ck (gO) ?_);refine hv (λ_=>?_) (dq (cm:=true) P w base 0 14 T rfl ck (jP) ?_);refine hv (λ_=>?_) (dq (cm:=true) P w base 0 15 T rfl ck (gL) ?_);refine hv (λ_=>?_) (dq (cm:=true) P w base 0 16 T rfl ck (uF) ?_);refine hv (λ_=>?_) (dq (cm:=true) P w base 1 17 T rfl ck (jQ) ?_);refine hv (λ_=>?_) (dq (cm:=true) P w base 2 18 T rfl ck (gN) ?_);refine hv (λ_=>?_) (dq (cm:=true) P w base 1 19 T rfl ck (uG) ?_);refine hv (λ_=>?_) (dq (cm:=true) P w base 1 20 T rfl ck (gM) ?_);refine⟨_,dqP 8 21 T rfl ck ?_,VV c nd⟩
 all_goals
  intros
  repeat' first
   |with_reducible exact ck
   |((with_reducible show QE _ _ _);with_reducible first|apply aV|apply RB|apply KQ|apply RF|apply W4|apply aBt|apply aGi|apply aCl|apply aO|apply aN|(apply aB;first|apply GG|apply GF|apply GE|apply JN|apply EK|apply Y7|apply EI)|(apply aT;first|apply MJ|apply EJ|apply IA)|apply aC|apply W7|apply RD|apply FI|apply RC|apply A7|apply UT|apply FJ|apply A8|apply W3|apply UR|apply RE|apply A9|apply W5|apply W1|apply FG|apply RA|apply cJ|apply W6|(apply mW;(case slot=>apply Np);(case' hm=>first|apply AY))|(apply mW;(case slot=>apply PySem.F.slot_list_append);(case' hm=>first|apply JL))|(apply mW;(case slot=>apply Mg);(case' hm=>first|apply MG|apply JM))|(apply mW;(case slot=>apply Sr);(case' hm=>first|apply MH))|(apply mW;(case slot=>apply PySem.F.slot_list_pop);(case' hm=>first|apply MI))|apply R8)
   |((with_reducible show _=_);first|exact T.nb ck|with_reducible apply Mj|with_reducible apply Tc|with_reducible apply Uu|with_reducible apply Ry|with_reducible apply Td|with_reducible apply Te|with_reducible apply Uv|exact k8 _|exact rfl|with_unfolding_all rfl)
   |((with_reducible show ZOp _ _ _);with_reducible first|apply AW|apply EE|apply EF|apply II|apply EL|apply ID|apply AX|apply IC|apply IG|apply qAJ|apply qAI|apply qAG|apply qAF|apply IE|apply EG|apply EM|apply EH|apply IB|apply AZ)
   |((with_reducible show RoomC _ _ _);first|assumption|exact RoomC.mono (by assumption)|exact RoomC.mono (RoomC.any (by assumption))|exact RoomC.mark (by assumption) _|exact RoomC.mono (RoomC.mark (by assumption) _))
   |((with_reducible show St1 _ _ _ _);exact⟨rfl,rfl⟩)
   |((with_reducible show DfS _ _ _ _ _ _ _ _ _ _);assumption)
   |with_reducible first|apply W0|apply mV|apply bJ|apply i6|apply XZ|apply aK0|apply aMk|apply FM|apply FN|apply RP|apply WC|apply UY|(apply KS;first|apply iA|apply mX|apply WG|apply sH)|apply WD|apply iA|apply mX|apply WG|apply sH|apply aNm|apply W8|apply RH|apply eM|apply i7|apply RJ|apply UU|apply WA|apply FL|apply W9|apply RI|apply i9|apply UZ|apply i8|apply AA|apply WB|apply KR|apply FO|apply RL|apply UX|apply aP2|apply aRs|apply aTr|apply IF|apply qAH|apply IH|apply K4|apply Mj|apply Tc|apply Uu|apply Ry|apply Td|apply Te|apply Uv
   |((with_reducible apply aCs);case hsw=>exact rfl)
   |((with_reducible apply aSt);case hs=>exact rfl)
   |with_reducible apply RK
   |exact T.cls
   |exact T.cl (by kernel_rfl)
   |exact T.rz (by kernel_rfl)
   |exact T.ct
   |exact T.gi (by kernel_rfl)
   |((with_reducible apply IP);(case D=>assumption))
   |((with_reducible show ClA _ _ _ _);first|assumption|exact ClA.tr (by assumption))
   |((with_reducible show LmX _ _ _ _ _ _ _ _ _ _);assumption)
   |((with_reducible show DfL _ _ _ _ _ _ _ _ _ _ _ _ _);assumption)
   |((with_reducible show LmK _ _);refine lmK hT (by assumption) ?_ rfl)
   |((with_reducible show ZF _ _ _ _);first|apply aFn|apply aFn0)
   |exact λ_=>⟨rfl,rfl,rfl⟩
   |(intro h;cases h;done)
   |((with_reducible show ZPass _);first|assumption|exact iQ)
   |exact⟨rfl,rfl⟩
   |exact⟨rfl,rfl,rfl⟩
   |apply mV
   |apply bJ
   |decide
   |(intros;rfl)
   |(intro _ h;cases h <;> rfl)
   |intro _
end _K
namespace _K
open PySem PySem.Spec PyProof.Rows _L _D
variable {K:Aj}
theorem bdf:BdF top tab:=by
 repeat (refine⟨?_,?_⟩;(intro _ _ _ _ _ _ us h;first|(obtain⟨_,rfl⟩:=us1 h;rfl)|(obtain⟨_,_,rfl⟩:=us2 h;rfl)|(obtain⟨_,_,_,rfl⟩:=us3 h;rfl)))
 exact trivial
theorem EU {C0 C1 C2 C3 C4 C5 C6 C7 C8 C9 C10 C11:Af}(q0:Ds K Cm "FarError" = Ab (Ab (.ref C0)))(q1:Ds K Cm "NoPoint" = Ab (Ab (.ref C1)))(q2:Ds K Cm "NoLot" = Ab (Ab (.ref C2)))(q3:Ds K Cm "NoNumber" = Ab (Ab (.ref C3)))(q4:Ds K Cm "NoCircle" = Ab (Ab (.ref C4)))(q5:Ds K Cm "NoMarks" = Ab (Ab (.ref C5)))(q6:Ds K Cm "NoFars" = Ab (Ab (.ref C6)))(q7:Ds K Cm "NoText" = Ab (Ab (.ref C7)))(q8:Ds K Cm "NoLine" = Ab (Ab (.ref C8)))(q9:Ds K Cm "NoDeed" = Ab (Ab (.ref C9)))(q10:Ds K Cm "Alike" = Ab (Ab (.ref C10)))(q11:Ds K Cm "TooMany" = Ab (Ab (.ref C11))):iS K (clt ⟨C0,C1,C2,C3,C4,C5,C6,C7,C8,C9,C10,C11⟩):=⟨q0,q1,q2,q3,q4,q5,q6,q7,q8,q9,q10,q11,trivial⟩
theorem EY {k0 k1 k2:Pi}(g0:Ds K Cm "LEAST_NUMBER" = Ab (Ab (.int (-1000) k0)))(g1:Ds K Cm "MOST_NUMBER" = Ab (Ab (.int (1000) k1)))(g2:Ds K Cm "MOST_POINTS" = Ab (Ab (.int (40) k2))):iT K cst:=⟨⟨_,g0⟩,⟨_,g1⟩,⟨_,g2⟩,trivial⟩
theorem LV {P:Bd}{w:Bt}{mg:Av->Al Ac}{c:Cl}{fa:Af}(T:Txt K mg c)(nd:(xT c).Nodup)(hT:(LS.all λy=>(Dq K y).isSome)=true)(hfa:mg "law" = Ab (.ref fa)) :
  ∃ fd:Ft,(∀ (s:Ah) (v:Ac),Nm s fd ⟨[v],[]⟩ [("_law_script",v)])/\∀ base:Bj,K.In base->base.Ns Cm mg->FnOk P w K mg base (CXd P w) 9 fa fd ["_law_script"] (sI K):=
 BL (T.src 21 rfl) hfa (λkV doc pm an cdv ct s v=>.of_eq rfl) λbase=>BK T nd hT
end _K
theorem PySem.W.Fast.tw504897948076794777 : True := trivial
theorem PySem.W.Fast.tw1062751790578572834 : True := trivial
theorem PySem.W.Fast.tw2472236890410998452 : True := trivial
theorem PySem.W.Fast.tw3218770785337566762 : True := trivial
theorem PySem.W.Fast.tw4723720522881354082 : True := trivial
theorem PySem.W.Fast.tw6496294999665381873 : True := trivial
theorem PySem.W.Fast.tw17660645177440419124 : True := trivial
theorem PySem.W.Fast.tw9795484870914154308 : True := trivial
theorem PySem.W.Fast.tw17561077649815386790 : True := trivial
theorem PySem.W.Fast.tw10266557572163498526 : True := trivial
theorem PySem.W.Fast.tw11625079677045348501 : True := trivial
theorem PySem.W.Fast.tw17585271002617745925 : True := trivial
theorem PySem.W.Fast.tw1096481063791195648 : True := trivial
theorem PySem.W.Fast.tw2415870252701968861 : True := trivial
theorem PySem.W.Fast.tw4215560648858754090 : True := trivial
theorem PySem.W.Fast.tw4421561555666065900 : True := trivial
theorem PySem.W.Fast.tw8995003100620939211 : True := trivial
theorem PySem.W.Fast.tw4681240806285742298 : True := trivial
theorem PySem.W.Fast.tw3634447924785772596 : True := trivial
theorem PySem.W.Fast.tw2241899499494521879 : True := trivial
theorem PySem.W.Fast.tw6582753666775708848 : True := trivial
theorem PySem.W.Fast.tw3959095188661188936 : True := trivial
theorem PySem.W.Fast.tw8023887304850280284 : True := trivial
theorem PySem.W.Fast.tw3040437977699110421 : True := trivial
theorem PySem.W.Fast.tw5642151897269534901 : True := trivial
theorem PySem.W.Fast.tw8346470314869603049 : True := trivial
theorem PySem.W.Fast.tw6209776787581245759 : True := trivial
theorem PySem.W.Fast.tw15548241732301263144 : True := trivial
theorem PySem.W.Fast.tw15189205388871254752 : True := trivial
theorem PySem.W.Fast.tw1579702053923456011 : True := trivial
theorem PySem.W.Fast.tw7353877760648384816 : True := trivial
theorem PySem.W.Fast.tw3452433165535503529 : True := trivial
theorem PySem.W.Fast.tw6415553802950479375 : True := trivial
theorem PySem.W.Fast.tw10398864707337188403 : True := trivial
theorem PySem.W.Fast.tw9485668641696902001 : True := trivial
theorem PySem.W.Fast.tw12215829466163955238 : True := trivial
theorem PySem.W.Fast.tw17660912808408316772 : True := trivial
theorem PySem.W.Fast.tw5264218316932666967 : True := trivial
theorem PySem.W.Fast.tw16589884652353415049 : True := trivial
theorem PySem.W.Fast.tw3096261926146970384 : True := trivial
theorem PySem.W.Fast.tw5737991702581853557 : True := trivial
theorem PySem.W.Fast.tw258262437490672725 : True := trivial
theorem PySem.W.Fast.tw6411112779020046297 : True := trivial
theorem PySem.W.Fast.tw18005082195855784753 : True := trivial
theorem PySem.W.Fast.tw7259391353586351153 : True := trivial
theorem PySem.W.Fast.tw11439943976057436157 : True := trivial
theorem PySem.W.Fast.tw17065151577672063291 : True := trivial
theorem PySem.W.Fast.tw16349857481200565190 : True := trivial
theorem PySem.W.Fast.tw15325392096660756305 : True := trivial
theorem PySem.W.Fast.tw1137219246576108353 : True := trivial
theorem PySem.W.Fast.tw5670045455795495941 : True := trivial
theorem PySem.W.Fast.tw14068724969794142558 : True := trivial
theorem PySem.W.Fast.tw13162814234795135626 : True := trivial
theorem PySem.W.Fast.tw11998911408890724775 : True := trivial
theorem PySem.W.Fast.tw15720707847761680220 : True := trivial
theorem PySem.W.Fast.tw15838528669195279514 : True := trivial
theorem PySem.W.Fast.tw1261579786720800680 : True := trivial
theorem PySem.W.Fast.tw16858209041384799719 : True := trivial
theorem PySem.W.Fast.tw3486896708287829032 : True := trivial
theorem PySem.W.Fast.tw15844031459341632940 : True := trivial
theorem PySem.W.Fast.tw5318034656317331689 : True := trivial
theorem PySem.W.Fast.tw15886938358220721144 : True := trivial
theorem PySem.W.Fast.tw17642424707991227784 : True := trivial
theorem PySem.W.Fast.tw3096203667931399086 : True := trivial
theorem PySem.W.Fast.tw15762191921656884685 : True := trivial
theorem PySem.W.Fast.tw10065851933210765164 : True := trivial
theorem PySem.W.Fast.tw17871081201343147202 : True := trivial
theorem PySem.W.Fast.tw1559036684074577673 : True := trivial
theorem PySem.W.Fast.tw14837845612538126471 : True := trivial
theorem PySem.W.Fast.tw235353259751804047 : True := trivial
theorem PySem.W.Fast.tw12548768403809595561 : True := trivial
theorem PySem.W.Fast.tw7485946730075004151 : True := trivial
theorem PySem.W.Fast.tw55503404760939985 : True := trivial
theorem PySem.W.Fast.tw8566383038286176998 : True := trivial
theorem PySem.W.Fast.tw3064541948090482206 : True := trivial
theorem PySem.W.Fast.tw4899396931554542475 : True := trivial
open PySem PySem.W PyProof.Rows
set_option maxRecDepth 100000 in
set_option maxHeartbeats 0 in
theorem PySem.Challenge.cw_fewdistances_k63_hubs_of_lots_holds : PySem.Challenge.rw_fewdistances_k63_hubs_of_lots.Holds := by
 w_on;o_law;k_head;(case hw=>w_witness2)
 k_fill
 refine _D.AV (l:=Ri) (k:=9) (x:="_law_script") rfl rfl ⟨rfl,by decide,by decide,rfl⟩ (λ_=>by kernel_rfl) (λw h Y=>PySem.W.km_in_of Y) ?F
 case F =>
  intro w mg fa h KX G hmg
  refine' _K.LV (_D.AQ _K.bdf ?hp rfl KX G ?s ?z (_K.EU ?q0 ?q1 ?q2 ?q3 ?q4 ?q5 ?q6 ?q7 ?q8 ?q9 ?q10 ?q11) (_K.EY ?gi0 ?gi1 ?gi2) ?e1 ?e2 ?e3 ?e4 ?e5 ?e6) ?nd ?hT hmg
  (case s=>(repeat (refine' ⟨_D.SrcF.mk ?a ?l ?c ?k,?_⟩;(case a=>k_is);(case l=>k_is);(case c=>k_is);(case k=>k_is)));exact trivial)
  (case z=>rfl)
  (case q0=>k_is)
  (case q1=>k_is)
  (case q2=>k_is)
  (case q3=>k_is)
  (case q4=>k_is)
  (case q5=>k_is)
  (case q6=>k_is)
  (case q7=>k_is)
  (case q8=>k_is)
  (case q9=>k_is)
  (case q10=>k_is)
  (case q11=>k_is)
  (case gi0=>k_is)
  (case gi1=>k_is)
  (case gi2=>k_is)
  (case hp=>intro y hy;revert hy;simp;grind)
  (case e1=>rfl)
  (case e2=>rfl)
  (case e3=>rfl)
  (case e4=>rfl)
  (case e5=>rfl)
  (case e6=>rfl)
  (case nd=>decide)
  (case hT=>rfl)
