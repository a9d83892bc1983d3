import PyProof.Rows.All
import Wide.All
import OpenK.AllK
import Wide.FinOn
import Lean
import PyProof.EqAt
import PyProof.EqKinds
import PyProof.TupleCall
import KE.KLam
import KE.KTryMore
import KE.KIsAll
import PyProof.NeKinds
import PyProof.Rows.CountFlat
import PyProof.Rows.FStr
import PyProof.ZipIter
import PyProof.EnumMake
import PyProof.EnumStmt
import KE.KDictLaws
import PyProof.DictWalks
import PyProof.Rows.SetFrom
import PyProof.SumWalkG
import PyProof.Rows.SumGenD
import PyProof.SeqI2
import KE.KItemsList
import PyProof.SetKind
import PyProof.TupleKey
import KE.KSortTup
import PyProof.ReprRoads
import PyProof.ReprBulk
import PyProof.TupleOfSeq
import PyProof.WalkInts
import PyProof.SeqI3
import PyProof.Rows.RuleDivmod
import PyProof.ListRange
import KE.KPairComp
import KE.KMinKey
import PyProof.Rows.CallKwBuiltin
import PySem.Challenge.RW_fewdistances_k71_gaps_twice_and_by_rests
set_option Elab.async false
set_option linter.all false
set_option maxRecDepth 100000
set_option maxHeartbeats 0
set_option tactic.hygienic false
set_option bootstrap.genMatcherCode false
set_option genSizeOf false
set_option compiler.extract_closed false
open Array renaming length_toList->Bg,getElem?_toList->Bk,toList_append->Ds,getElem?_eq_some_iff->Dy,getElem?_eq_getElem->Eb,toList_push->Er,getD_eq_getD_getElem?->Fo,getD->Gr,size_extract->Je,toList_extract->Jw,toList_reverse->Lr,mem_toList_iff->OL,toArray_toList->OP,perm_iff_toList_perm->Qq,getElem?_eq_none->Tz,size_map->Va,forIn_toList->Ww,toList_inj->Ze,toList->AaA
open Bool renaming and_eq_true->Az,false_eq_true->By,and_eq_true_iff->EQ,false_and->Fm,true_and->Gh,false_ne_true->Gy,noConfusion->Hf,not_true->Ku,and_false->Ll,not_eq_true'->Nu,or_eq_true->OV,eq_iff_iff->Ts,not_false->Vb,and_true->Aa4
open Classical renaming byContradiction->Fz,choose->Ov,choose_spec->Ow
open False renaming elim->An
open ForInStep renaming yield->Kr
open Int renaming toNat_natCast->Ez,le_trans->Fv,le_of_lt->Hs,emod_lt_of_pos->Jd,emod_nonneg->Kt,le_refl->Ms,eq_ofNat_of_zero_le->Ta,sub_zero->Xa,not_lt->sK,mul_le_mul->wS
open List renaming getElem?_eq_getElem->Ar,length_map->Av,mem_cons->Aw,size_toArray->Bf,getElem?_append_left->Bi,length_cons->Bj,prefix_refl->Bn,getElem?_eq_some_iff->Bo,mem_of_getElem?->Bp,mem_append_right->Bx,mem_cons_of_mem->Cd,getElem?_set_ne->Ch,length_append->Cj,all_eq_true->Cn,append_assoc->Cp,mem_append->Cq,getElem?_append_right->Cs,mem_iff_getElem->Cu,pairwise_cons->Cz,mem_map->Dc,range->De,mem_append_left->Df,replicate->Dg,mem_cons_self->Dj,not_mem_nil->Dl,getElem?_map->Dp,mem_singleton->Dq,pairwise_append->Dt,map_cons->Dv,length_nil->Ec,getElem?_set_self->Ed,length_take->El,map_append->En,contains_iff_mem->Ex,mem_range->Fk,append_nil->Fx,find?_cons->Fy,pairwise_map->Ge,take_of_length_le->Gm,replicate_succ->Go,nil_append->Gw,map_map->Ht,length_drop->Hw,drop_eq_getElem_cons->Hx,extract_eq_take_drop->HT,filter_append->Ie,flatten_cons->Ih,filterMap_cons->Ir,mem_filterMap->Jb,prefix_append->Jc,length_filter_le->Jh,any_cons->Jq,nodup_append->Jr,pairwise_iff_getElem->Js,length_range->Jt,flatMap_cons->Ju,lookup_cons->Kb,length_pos_iff->Kg,getD->Kh,getLastD_cons->Km,foldl_cons->Kq,range_succ_eq_map->Ks,eq_nil_of_length_eq_zero->Kv,mem_iff_getElem?->La,perm_append_comm->Lf,mem_of_mem_drop->Lq,mem_of_mem_take->Ls,cons_append->Lu,all_cons->Mc,reverse_append->Me,findSome?_cons->Mi,of_mem_zip->Ml,forIn_cons->Mn,getElem?_take_of_lt->Mv,find?_eq_none->Na,getElem?_replicate->Nc,length_eq_zero_iff->Nh,all_map->Ni,forIn_nil->Nn,drop_eq_nil_of_le->Nz,drop_of_length_le->Ob,filter_eq_nil_iff->Oc,getElem_inj->Of,length->Ol,length_singleton->On,getElem?_eq_none->Oo,lookup->Op,ext_getElem->Ox,take_append_drop->OI,nodup_cons->OS,length_zip->Pa,zip_cons_cons->Qc,getD_eq_getElem?_getD->Qr,take_sublist->Qw,getElem?_zip_eq_some->Ra,ext_getElem?->Rf,getElem_take->Rg,getElem_drop->Rh,map_drop->Rp,length_erase_of_mem->Rw,getLast_eq_getLastD->Rz,getElem_mem->Sf,zipIdx_cons->Sg,map_fst_zip->Si,getLast_mem->Sk,any_map->Sr,getElem?_cons_succ->Sw,pairwise_singleton->Sz,mem_filter->Ti,find?_cons_of_neg->Tp,pairwise_lt_range->Tt,length_pos_of_mem->Tu,countP_mono_left->Um,singleton_append->Uo,map_id->Us,nodup_nil->Uz,mem_erase_of_ne->Vg,reverse_reverse->Vj,mem_map_of_mem->Wg,map_take->Wh,lookup_append->Wt,getElem?_drop->Wv,mergeSort_nil->Wz,map_nil->WP,foldl_append->Yh,getElem_map->Yy,nodup_range->Yz,filter_cons->Za,countP_cons->Zd,getLast_map->Zg,length_set->Zj,zipIdx_nil->Zl,filter_map->Zu,foldl->Zz,Nodup->f8,take_zero->v6
open List.Pairwise renaming nil->Nr,imp_of_mem->Rv
open List.Perm renaming append_left->Hz,append_right->Kw,trans->Mr,refl->Np
open Nat renaming le_refl->Au,lt_of_lt_of_le->Bb,le_of_ble_eq_true->Cc,ne_of_lt->Ci,le_trans->DL,lt_irrefl->Et,le_of_lt->Fd,ne_of_gt->Gi,zero_add->Hj,le_add_right->Hy,lt_of_le_of_ne->Ic,lt_trans->Im,zero_le->Io,add_le_add_left->Iw,lt_succ_self->Ke,add_sub_cancel_left->Kk,eq_zero_of_not_pos->Kx,le_of_lt_succ->Lc,add_lt_of_lt_sub'->Lg,one_pos->Lh,sub_lt->Mf,lt_of_le_of_lt->Mz,pos_of_ne_zero->Nb,not_lt->NE,min_eq_left->Pb,succ_pos->Pd,mod_lt->Pk,add_right_comm->Qg,le_succ->Qo,lt_succ_of_lt->Rk,lt_of_succ_lt->Rl,sub_pos_of_lt->Rm,le_of_not_lt->Sc,add_comm->Sn,le_antisymm->T0,add_le_of_le_sub'->Uq,le_of_sub_eq_zero->Ur,lt_sub_of_add_lt->Vh,add_le_add_right->Vi,pow_le_pow_right->Vk,add_sub_cancel'->Wd,min_self->Xe,le_of_eq->Xj,sub_self->Xk,add_zero->Xl,lt_trichotomy->Ye,min_eq_right->Zf,add_le_add->v4,mul_le_mul->wP
open Nat.succ renaming inj->AaB
open Ne renaming symm->Gb
open Option renaming some->Ab,map_eq_some_iff->Do,bind_eq_some_iff->Ei,isSome_iff_exists->Jx,getD_some->Oq,map_some->OY,bind_some->Sl,isSome_some->Wr,getD_none->Yr,none->AaF
open Option.some renaming inj->Ct
open Or renaming inr->Yt,inl->wT
open PyProof.Rows renaming wpS_bind->AT,step_dedup->Bc,wpS_pure->Br,Keyed->Bs,callWith_type1->Ep,seqObj->Es,slot_tuple_getitem->Ft,wpS_forRange->Fu,SortSt->Gg,envOfC->Gn,wpS_mono->Hq,wpS_modify->Jj,IntsAre->Jo,callWith_builtin1->Kl,SortKind->Mq,get?_update_seq->Mt,wpS_get->Nk,AllBare->Oe,assignInOrder_cons->Qb,wpS_lift->Qs,IsTup->Sm,subscriptTail_builtinR->Tk,isBoolOf->Tq,gallopOf->TD,lt_int->Vr,entry_tuple_getitem->Vt,subscriptTail->Vu,args_tuple_getitem->Wp,assignInOrder_nil->Xn,Call_->Zk,entry_list_sort->Zs,step_dedup->dL
open PyProof.Rows.F renaming plain_set_update_loop->IN,entry_set_update_loop->Mp
open PyProof.Rows.IntsAre renaming int_at->Pz
open PyProof.Rows.IsTup renaming new->Uc
open PyProof.Rows.SortSt renaming mk'->Dh
open PySem renaming Value->Ac,wpAny_bind->Ad,Addr->Af,Shared->Ag,wpAny_pure->Am,wpAny->Ao,Str->Ap,model->As,Program->Bd,starEach->Be,intKind->Bh,Heap->Bq,Around->Bt,tupleKeyHash->Bu,Expr->Bw,World->Bz,mainGlobals->Cg,Obj->Co,compareOp->Cy,wpAny_holding->Ee,wpAny_field->Eg,wpAny_callSpecial?_slot->Eh,sizeLine_eq->Ej,wpAny_call_entry->Em,wpAny_newObj_type->Eo,Scope->Eu,Comprehension->Ew,foldedSetIterable->Ey,binaryOp->Fa,bootBuiltins->Fc,wpAny_setField_rec->Ff,cLine->Fi,Stmt->Fj,Pos->Fl,mem_of_lookup->Fq,FuncData->Fw,SetTable->Ga,backTo->Gc,wpAny_setState_of->Gf,rawInt->Gj,wpAny_pyIter_list->Gp,codeAny_builtin->Gu,wpAny_pyIter_tuple->Gz,wpAny_Call_Name_kw->Ha,assignEach->Hc,wpAny_rule->Hd,wpAny_seqItems->Hk,wpAny_mono->Hm,Builtin->Hn,codeAny->Hu,cellsFrom->Hv,NameKind->Ia,wpAny_attempt->Iu,Env->Ja,IsPair->Jg,codeAny_mono->Ji,sysModules->Ka,wpAny_askSetting->Kc,letOwnedTupleGo->Kn,Sem->Ky,Model->Kz,codeAny_call_builtin->Lp,swappedStores->Lv,swapsWithSole->Lw,wpAny_standAt->Lx,behindInMarks->Ly,TriplesOk->Mb,wpAny_passesOwn->Mj,sliceBounds->Mm,wpAny_typeOf->Ng,pyNext->Nl,wpAny_setField->No,swapsWith->Nt,ofAClassStatement->Nw,wpAny_storeSet_of->Nx,pyIter->Og,BindsTo->Oh,wpAny_forIn_list->Om,wpAny_isInstance->Ou,plainId_quiet->Oy,wpAny_updateSeq_pair->ON,wpAny_execs_nil->OR,Arguments->OT,codeAmong->OU,codeAny_of_tree->OX,pickOrder->OZ,builtinsNs->Pe,call_meets->Pg,wpAny_call->Ph,IsTupleKey->Pl,recursionLimit->Pq,firstArgMember->Ps,IsZip->Pu,wpAny_runValue->Pv,wpAny_newFunctionEnv_cells->Qi,IsPart->Qj,wpAny_of_eq->Qn,hashByValue->Qp,Tok->Qt,getItem->Qx,callerA->Qy,attributeBase->Rb,wpAny_onRaise->Rc,setSearchFrom->Ri,wpAny_comprehension_free->Rr,noFill_tuple_add->Sb,checkBuiltinCall->Sd,closureFor->Se,bindArgs->Tj,standAt->Tl,wpAny_ite_split->Tx,tupleKind->Ub,PassesOwn->Ud,codeAny_call_function->Ue,noteFrame->Uf,wpAny_letGo->Ug,IsEnum->Uh,weight_type_call_type->Uj,builtinLookup_eq_fast->Uk,wpAny_newTuple->Uw,isSubtype_stop->Ux,newFunctionEnv->Uy,isSubtype_type->Vc,assignInOrder->Vm,CmpOp->Vn,bindL->Vp,bindC->Vq,seq_tuple_add->Vs,valueAt->Vw,intKind_is->Wa,wpAny_setEntries_of->Wc,wpAny_newList->We,bindName->Wi,Result->Wj,setState->Wl,concat_meets->WF,callType_new->Xg,wpAny_assign_Name->Xm,wpAny_truthy_bool->Xo,wpAny_sequenceKey->Xs,slot_list_getitem->Xt,list_append->Xu,atKey->Xv,lastMarks->Xw,ClassData->Xx,setFlight->Xy,pushCells->XV,wpAny_pyIter_enum->Ya,searchCouldBeSeen->Yd,wpAny_pyIter_slot->Yf,wpAny_collect_seq->Yg,wpAny_eqBool_int->Yi,wpAny_execs_cons->Yj,unaryOp->Yl,seqIndex_of->Yq,wpAny_pyIter_zip->Yw,argsOk->Yx,setAdd->Zb,check_set_init_1->Zc,GenState->Zh,pushCells_keeps->Zm,wpAny_stack_any->Zn,wpAny_specialOf->Zp,typeLookup_type->Zq,wpAny_updateSeq->Zr,wpAny_Name->Zv,wpAny_load->Zw,typeIs_int->Zy,call->ZB,setsByText->sB,defaultsOf->t0,Within->Aa9,isTrue->AaD
open PySem.Around renaming under_plainId->Hi,frames_deeper->OM,under_plain->Wx
open PySem.AutoSeq1 renaming wpAny_loadPart'->Gx
open PySem.Builtin.Frozenset renaming updateFrom->Pm,sizeOf->Rx,newClass->Aa0
open PySem.Builtin.Getset_descriptor renaming descrCheckInstance->Tf,descrNameAndClass->Tn,descrGetter->Vx,descrGet->Xd
open PySem.Builtin.List renaming listExtendWith->Lm,listTooLong->Mx,listLengthHint->Pw,listSameRef->Ry
open PySem.Builtin.ObjectAttr renaming bindTo->Qz,dataDescriptor?->Xc,getOf->Aa8,find->AaC
open PySem.Builtin.Range renaming rangeSize->Ik,small->Po
open PySem.Builtin.Slice renaming slicePlaces->Jp,sliceAdjust->Ma,sliceApplied->Qk,slicePartIndex->Zx
open PySem.Builtin.SmallTypes renaming nextOf->Ea,ownedTupleIsFree->Ev,ownedTupleHandOut->Gv
open PySem.Builtin.Tuple renaming tupleExact->Jy,tupleItemsOf->Ql,tupleCompareSizes->Yp,tupleIsExact->x0
open PySem.Calls renaming spliced_cons->Ib,spliced_nil->Ig,Name_function_global->Qh,call_function_entry->Ro,callWith_builtin->To,evalArgs_plain->Vf
open PySem.Challenge renaming pw_fewdistances_k71_gaps_twice_and_by_rests->OJ,rw_fewdistances_k71_gaps_twice_and_by_rests->OK
open PySem.Code renaming quiet_builtin->Qf
open PySem.F renaming called_set->Dr,slot_tuple_iterator_next->Jf,plain_list_iadd->Kj,slot_enumerate_next->Lb,args_tuple_add_2->Mw,entry_tuple_add->Nd,plainAttrs_dict->Nj,slot_tuple_add->Ny,called_tuple->OO,slot_zip_next->OW,args_tuple_iterator_next_1->Pi,slot_dict_setdefault->Pj,type_dict_setdefault->Pp,entry_tuple_iterator_next->Pr,entry_proto_collect->Px,plain_proto_collect->Py,excBase_ValueError->Qm,slot_dict_values->Rt,type_list_append->Sa,attr_ValueError->So,slot_list_count->Ss,slot_list_index->Su,args_enumerate_next_1->Sv,entry_type_call->Sx,entry_list_iadd->Sy,plainAttrs_list->Tc,type_list_count->Td,type_list_index->Te,entry_enumerate_next->Tr,typeCall_set_1->Tv,entry_set_init->Tw,plain_set_new->Ui,slot_set_iter->Ul,args_list_append_2->Ve,entry_list_append->Vv,slot_list_append->Wq,args_zip_next_1->Xz,entry_zip_next->Yv,slot_int_rmul->Zo
open PySem.Heap renaming get?_push_of_some->Ah,lt_size->Ay,get?_push_size->Ba,get?_update_other->Di,size_push->Dz,SameBut->Fe,get?_update_self->Gd,get?_none_of_le->Jv,FlyingW->Pc,MadeExcOf->Uv,IsTuple->Xf,IsList->Yu
open PySem.Heap.IsSliceOf renaming new->AaG
open PySem.Heap.SameBut renaming update->Ho,refl->Re
open PySem.IsL renaming update->Ys
open PySem.IsRange renaming new->Yk
open PySem.MeetsSeq renaming list_index->Aa5,EqGives->AaE
open PySem.NameKind renaming free->Gq,cell->Os
open PySem.Obj renaming mapSeq->Fb,mapFields->Wb,data_mapFields->Wu,putSet->o0
open PySem.SeqAt.EqAt renaming bool_bool->xL,same->Aa3
open PySem.SetTable renaming insertAt->Ca,below->Cf,sizeAbove->Fg,grown->Hl,runEnd->Hr,insertAt_perm->Ix,fill->Md,Probe->Nv,toList_insertAt->Ru,tooFull->Sh,laid->Vy,fits->Vz,has->Xh,layClean->Yc,slot->Aa6
open PySem.SetTable.below renaming go->Yb
open PySem.SetTable.layClean renaming free->Iy
open PySem.SetTable.probe renaming go->Ld
open PySem.Shared renaming heap->Ot,TypeIs->Rj
open PySem.Str renaming ofString->Il,empty->Lz
open PySem.Value renaming ref->Ce,none->Dm,bool->Fp,type->Hb,int->Jm,str->TW,isStrOf->Aa1,builtin->Aa2
open PySem.W renaming Frag->Aj,nsIn->Dn,tabIn->Du,kia_one->Ek,keepIn->Fn,fnOf->Gs,kitx_list->Jn,exmOne->Jz,cellsFrom_some->Ko,kitOne->Li,codeIn->Lj,tabObj->Ln,envX->Lo,kla_obj->Mu,kitx_tuple->My,findIn->Nm,kitx_dict->Nq,hideAll->OQ,callWith_K->Qe,methodObj->Qu,nsMap_none_of_in->Rq,instObj->Th,CodeHd->Ut,lookIn->Uu,kitAny->Vd,hideAll_get->Vl,mroIn->Vo,mg_of->Wf,of_hideAll->Wm,codeRec_of->Wn,isNs_of_in->Ws,looks_findIn->Xb,specialIn->Xp,kitx_none->Xq,kitx_bool->Xr,plainGet->Ym,kitx_int->Yn,kitx_str->Yo,takesIn->Zi,OpenLaw->Zt,nsOkIn->u8,kla_fn->wE,WalkO->Aa7
open PySem.pickOrder renaming go->Xi
open Sum renaming inl->Jl,inr->Tg
open Sum.inl renaming inj->Ua
open True renaming intro->He
open _root_ renaming List->Aa,Nat->Ai,Option->Ak,Int->Al,Bool->Aq,Array->Ax,if_pos->Bl,if_neg->Bm,decide_eq_true_eq->Bv,of_decide_eq_true->Cw,decide_eq_false->Dd,decide_eq_true->Dk,if_true->Dw,String->Dx,if_false->Ef,False->Fh,beq_self_eq_true->Gk,or_false->Hg,decide_eq_false_iff_not->Ip,beq_eq_false_iff_ne->Iq,Decidable->Jk,decide_true->Kf,decide_false->Ki,beq_iff_eq->Oa,True->Od,StateT->OH,Unit->Qv,decide_eq_decide->Sj,not_or->Wk,of_decide_eq_false->Wy
noncomputable section
theorem om {p:Prop}(h:p:=by omega):p:=h
theorem li {p:Prop}(h:p:=by lia):p:=h
theorem kd {p:Prop}[Jk p](h:p:=by decide +kernel):p:=h
section
namespace _L
open PySem PySem.Spec PyProof.Rows
abbrev Key:=Sum Al Ap
noncomputable def pV:Key->Ac->Aq
 |.inl k,v=>Value.isInt k v
 |.inr x,v=>Aa1 x v
noncomputable def CV (w:Bz):Key->Al
 |.inl k=>hashInt k
 |.inr x=>hashStr w x
theorem zZ:∀ {k:Key} {v:Ac},pV k v=true->(∃ i t,k=Jl i/\v=Jm i t)\/(∃ x t,k=Tg x/\v=TW x t)
 |.inl i,v,h=>by
  obtain⟨t,e⟩:=Value.isInt_shape (k:=i) (v:=v) h;exact .inl ⟨i,t,rfl,e⟩
 |.inr x,v,h=>by
  obtain⟨t,e⟩:=Value.isStrOf_shape (x:=x) (v:=v) h;exact .inr ⟨x,t,rfl,e⟩
theorem Z5 (i:Al)(t:Qt):pV (.inl i) (.int i t)=true:=by simp[pV,Value.isInt]
theorem Z6 (x:Ap)(t:Qt):pV (.inr x) (.str x t)=true:=by simp[pV,Aa1]
theorem NF (a b:Al):decide ((Jl a:Key)=Jl b)=(a == b):=by
 by_cases e:a=b
 .subst e;simp
 .have h:¬ (Jl a:Key)=Jl b:=λq=>e (Ua q)
  rw[Dd h];exact(Iq.mpr e).symm
theorem NI (a b:Ap):decide ((Tg a:Key)=Tg b)=decide (a=b):=by
 by_cases e:a=b
 .subst e;simp
 .have h:¬ (Tg a:Key)=Tg b:=λq=>e (Sum.inr.inj q)
  rw[Dd h,Dd e]
theorem NG (a:Al)(b:Ap):decide ((Jl a:Key)=Tg b)=false:=Dd (λq=>nomatch q)
theorem NH (a:Ap)(b:Al):decide ((Tg a:Key)=Jl b)=false:=Dd (λq=>nomatch q)
noncomputable def zN (prog:Bd)(w:Bz):PySem.KeyKind prog w Key where
 is:=pV
 hash:=CV w
 inj:=λv a b ha hb=>by
  rcases zZ ha with⟨i,t,rfl,rfl⟩|⟨x,t,rfl,rfl⟩
  .rcases zZ hb with⟨j,u,rfl,e⟩|⟨y,u,rfl,e⟩
   .injection e with e1 _;rw[e1]
   .exact nomatch e
  .rcases zZ hb with⟨j,u,rfl,e⟩|⟨y,u,rfl,e⟩
   .exact nomatch e
   .injection e with e1 _;rw[e1]
 byValue:=λk v h=>by
  rcases zZ h with⟨i,t,rfl,rfl⟩|⟨x,t,rfl,rfl⟩ <;> rfl
 pyHash:=λhv h=>by
  rcases zZ hv with⟨i,t,rfl,rfl⟩|⟨x,t,rfl,rfl⟩
  .exact wpAny_pyHash_int h
  .exact wpAny_pyHash_str h
 eqBool:=λhu hv h=>by
  rcases zZ hu with⟨i,t,rfl,rfl⟩|⟨x,t,rfl,rfl⟩
  .rcases zZ hv with⟨j,u,rfl,rfl⟩|⟨y,u,rfl,rfl⟩
   .rw[NF] at h;exact Yi h
   .rw[NG] at h;exact SeqAt.EqAt.int_str i t y u _ _ _ _ h
  .rcases zZ hv with⟨j,u,rfl,rfl⟩|⟨y,u,rfl,rfl⟩
   .rw[NH] at h;exact SeqAt.EqAt.str_int x t j u _ _ _ _ h
   .rw[NI] at h;exact wpAny_eqBool_str h
 «strs»:=λk x t v h=>by
  rcases zZ h with⟨i,u,rfl,e⟩|⟨y,u,rfl,e⟩
  .exact nomatch e
  .injection e with e1 _
   subst e1;cases v <;> rfl
theorem eG (prog:Bd)(w:Bz)(i:Al)(t:Qt):(zN prog w).is (.inl i) (.int i t)=true:=Z5 i t
theorem eI (prog:Bd)(w:Bz)(x:Ap)(t:Qt):(zN prog w).is (.inr x) (.str x t)=true:=Z6 x t
end _L
namespace _L
open PySem PySem.Spec PyProof.Rows
inductive V where
 |non|bl (b:Aq)|int (i:Al)|str (x:Ap)|byt (b:Ax UInt8)|flt (b:UInt64)|ref (a:Af)|ty (n:Dx)
 deriving DecidableEq
def qL:V->Ac->Prop
 |.non,u=>u=Dm
 |.bl b,u=>u=Fp b
 |.int i,u=>∃ t,u=Jm i t
 |.str x,u=>∃ t,u=TW x t
 |.byt b,u=>∃ t,u=Value.bytes b t
 |.flt b,u=>∃ t,u=Value.float b t
 |.ref a,u=>u=Ce a
 |.ty n,u=>u=Hb n
abbrev qK:Aa V->Aa Ac->Prop:=Paired qL
theorem qK.length {xs:Aa V}{us:Aa Ac}(r:qK xs us):xs.length=us.length:=Paired.length r
theorem qK.get:∀ {xs:Aa V} {us:Aa Ac} {i:Ai} {x:V},qK xs us->xs[i]? = Ab x->∃ u,us[i]? = Ab u/\qL x u
 |_,_,_,_,.nil,e=>by simp at e
 |_,_,0,_,.cons r _,e=>by simp at e;subst e;exact⟨_,rfl,r⟩
 |_,_,i+1,x,.cons _ t,e=>by
  obtain⟨u,h1,h2⟩:=qK.get (i:=i) (x:=x) t (by simpa using e)
  exact⟨u,by simpa using h1,h2⟩
theorem qK.set {x:V}{u:Ac}(r:qL x u):∀ {xs:Aa V} {us:Aa Ac} (i:Ai),qK xs us->qK (xs.set i x) (us.set i u)
 |_,_,_,.nil=>.nil
 |_,_,0,.cons _ t=>.cons r t
 |_,_,i+1,.cons q t=>.cons q (qK.set r i t)
theorem qK.append {xs ys:Aa V}{us ws:Aa Ac}(h:qK xs us)(s:qK ys ws):qK (xs++ys) (us++ws):=by
 induction h with
 |nil=>exact s
 |cons r t ih=>exact .cons r ih
theorem qK.take:∀ {xs:Aa V} {us:Aa Ac} (n:Ai),qK xs us->qK (xs.take n) (us.take n)
 |_,_,0,_=>.nil
 |_,_,_+1,.nil=>.nil
 |_,_,n+1,.cons r t=>.cons r (qK.take n t)
theorem qK.drop:∀ {xs:Aa V} {us:Aa Ac} (n:Ai),qK xs us->qK (xs.drop n) (us.drop n)
 |_,_,0,r=>r
 |_,_,_+1,.nil=>.nil
 |_,_,n+1,.cons _ t=>qK.drop n t
def kO:Ak V->Ak Ac->Prop
 |some v,Ab u=>qL v u
 |none,none=>Od
 |_,_=>Fh
def KV {κ : Type}:Aa (κ × V)->Aa (κ × Ac)->Prop:=Paired λ(p:κ × V) (q:κ × Ac)=>p.1=q.1/\qL p.2 q.2
noncomputable def kV:Key->V
 |.inl i=>.int i
 |.inr x=>.str x
inductive HO where
  |lst (xs:Aa V)
  |tup (xs:Aa V)
  |dK (kvs:Aa (Key × V))|dT (kvs:Aa (Aa Key × V))
  |set (S:Al->Aq) (n:Ai)
  |ins (C dx:Af) (fs:Aa (Ap × V))
  |own (x:Af)
  |xd (fs:Aa (Ap × V))
  |met (f x:Af)
  |rng (lo hi:Al)
  |frz (o:Co) (u:HO)
  |tbl (ps:Ax Ac)
  |ext (φ : Bq->Prop)
abbrev Hp:=Af->Ak HO
noncomputable def upd (H:Hp)(a:Af)(o:HO):Hp:=λb=>if b=a then Ab o else H b
theorem qU {H:Hp}{a:Af}{o:HO}:upd H a o a=Ab o:=by unfold upd;rw[Bl rfl]
theorem qI {H:Hp}{a b:Af}{o:HO}(h:b≠a):upd H a o b=H b:=by unfold upd;rw[Bm h]
theorem RZ {H:Hp}{a b:Af}{o u:HO}(h:H a=Ab o)(h':H b=Ab u)(d:o≠u):a≠b:=by
 intro e;subst e;rw[h] at h';exact d (Ct h')
theorem qT {H:Hp}{a b:Af}{o:HO}(h:H a=Ab o)(h':H b=none):a≠b:=by
 intro e;subst e;rw[h] at h';cases h'
section
variable (P:Bd)(w:Bz)
def z9 (H:Hp)(h:Bq)(a:Af):HO->Prop
 |.lst xs=>xs.length<=sizeLine/\∃ (its:Aa Ac) (n:Ai),qK xs its/\h.get? a=Ab { cls:=.type "list",data:=.seq its.toArray n }
 |.tup xs=>xs.length<=sizeLine/\∃ its:Aa Ac,qK xs its/\Sm h a its.toArray
 |.dK kvs=>kvs.length<=sizeLine/\(a == Ka)=false/\∃ vs,KV kvs vs/\h.DictOf (zN P w) a vs
 |.dT kvs=>kvs.length<=sizeLine/\(a == Ka)=false/\∃ xs:Aa (Aa Key × Af × Ac),
   Paired (λ(p:Aa Key × V) (q:Aa Key × Af × Ac)=>p.1=q.1/\H q.2.1=Ab (.tup (p.1.map kV))/\qL p.2 q.2.2) kvs xs /\
   ∃ o es ep,h.get? a=Ab o/\o.ExactDict/\o.data=.dict es ep/\es.toList=xs.map (entryOfKey (Ub (zN P w)))/\(xs.map (·.1)).Nodup
 |.set S n=>h.SetOf (Bh P w) a S n
 |.ins C dx fs=>H dx=Ab (.own a)/\fs.length<=1000/\dx≠a/\h.get? a=Ab (Th C dx) /\
   ∃ mA,h.Ns1 dx mA/\(∀ f,kO (fs.lookup f) (mA f))/\Aa9 mA (fs.map (·.1))
 |.own _=>∃ o,h.get? a=Ab o
 |.xd fs=>∃ mA,h.Ns1 a mA/\∀ f,kO (fs.lookup f) (mA f)
 |.rng lo hi=>∃ t u v,h.get? a=Ab { cls:=.type "range",data:=.fields #[.int lo t,.int hi u,.int 1 v] }
 |.frz o u=>h.get? a=Ab o/\z9 H h a u
 |.tbl ps=>h.get? a=Ab { cls:=.none,data:=.fields ps }
 |.met f x=>h.get? a=Ab (Qu (.ref f) (.ref x))
 |.ext φ => φ h/\(∃ o,h.get? a=Ab o)/\∀ h1 h2:Bq,φ h1->(∀ o,h1.get? a=Ab o->h2.get? a=Ab o)->φ h2
def HOk (H:Hp)(h:Bq):Prop:=∀ a o,H a=Ab o->z9 P w H h a o
end
section
variable {P:Bd}{w:Bz}{H H':Hp}{h h':Bq}{a:Af}{o:HO}
theorem z9.lt (x:z9 P w H h a o):a<h.objs.size:=by
 cases o with
 |lst xs=>obtain⟨_,_,_,_,e⟩:=x;exact Ay e
 |tup xs=>obtain⟨_,_,_,p⟩:=x;exact p.lt
 |dK kvs=>obtain⟨_,_,_,_,o,_,_,e,_⟩:=x;exact Ay e
 |dT kvs=>obtain⟨_,_,_,_,o,_,_,e,_⟩:=x;exact Ay e
 |set S n=>obtain⟨o,_,_,_,e,_⟩:=x;exact Ay e
 |ins C dx fs=>obtain⟨_,_,_,e,_⟩:=x;exact Ay e
 |own y=>obtain⟨_,e⟩:=x;exact Ay e
 |xd fs=>obtain⟨_,⟨_,_,_,e,_⟩,_⟩:=x;exact Ay e
 |rng lo hi=>obtain⟨_,_,_,e⟩:=x;exact Ay e
 |frz ob u=>obtain⟨e,_⟩:=x;exact Ay e
 |tbl ps=>exact Ay (show h.get? a=Ab _ from x)
 |met f y=>exact Ay (show h.get? a=Ab _ from x)
 |ext φ => obtain⟨_,⟨_,e⟩,_⟩:=x;exact Ay e
theorem Paired.mapP {α β:Type}{F G:α->β->Prop}{l₁:Aa α}{l₂:Aa β}(h:Paired F l₁ l₂)(f:∀ a b,F a b->G a b):Paired G l₁ l₂:=by
 induction h with
 |nil=>exact .nil
 |cons r t ih=>exact .cons (f _ _ r) ih
theorem z9.stay (x:z9 P w H h a o)(k:∀ b u,(b=a\/H b=Ab (.own a))->h.get? b=Ab u->h'.get? b=Ab u)
  (ho:∀ b,H b=Ab (.own a)->H' b=Ab (.own a)) (ht:∀ b xs,H b=Ab (.tup xs)->H' b=Ab (.tup xs)):z9 P w H' h' a o:=by
 induction o with
 |lst xs=>obtain⟨z,its,n,r,e⟩:=x;exact⟨z,its,n,r,k _ _ (.inl rfl) e⟩
 |tup xs=>obtain⟨z,its,r,ob,e,c⟩:=x;exact⟨z,its,r,ob,k _ _ (.inl rfl) e,c⟩
 |dK kvs=>obtain⟨z,y,vs,r,ob,es,ep,e,c⟩:=x;exact⟨z,y,vs,r,ob,es,ep,k _ _ (.inl rfl) e,c⟩
 |dT kvs =>
  obtain⟨z,y,xs,r,ob,es,ep,e,c⟩:=x;exact⟨z,y,xs,Paired.mapP r λp q z=>⟨z.1,ht _ _ z.2.1,z.2.2⟩,ob,es,ep,k _ _ (.inl rfl) e,c⟩
 |set S n=>obtain⟨ob,es,ep,t,e,c⟩:=x;exact⟨ob,es,ep,t,k _ _ (.inl rfl) e,c⟩
 |ins C dx fs =>
  obtain⟨d,z,ne,e,mA,⟨od,es,ep,e2,c⟩,r⟩:=x;exact⟨ho _ d,z,ne,k _ _ (.inl rfl) e,mA,⟨od,es,ep,k _ _ (.inr d) e2,c⟩,r⟩
 |own y=>obtain⟨ob,e⟩:=x;exact⟨ob,k _ _ (.inl rfl) e⟩
 |xd fs=>obtain⟨mA,⟨od,es,ep,e,c⟩,r⟩:=x;exact⟨mA,⟨od,es,ep,k _ _ (.inl rfl) e,c⟩,r⟩
 |rng lo hi=>obtain⟨t,u,v,e⟩:=x;exact⟨t,u,v,k _ _ (.inl rfl) e⟩
 |frz ob u ih=>obtain⟨e,q⟩:=x;exact⟨k _ _ (.inl rfl) e,ih q⟩
 |tbl ps =>
  have e:h.get? a=Ab { cls:=.none,data:=.fields ps }:=x;show h'.get? a=Ab { cls:=.none,data:=.fields ps };exact k a _ (.inl rfl) e
 |met f y =>
  have e:h.get? a=Ab (Qu (.ref f) (.ref y)):=x;show h'.get? a=Ab (Qu (.ref f) (.ref y));exact k a _ (.inl rfl) e
 |ext φ => obtain⟨p,⟨o,e⟩,st⟩:=x;exact⟨st _ _ p λo q=>k _ _ (.inl rfl) q,⟨o,k _ _ (.inl rfl) e⟩,st⟩
theorem HOk.lt (x:HOk P w H h)(e:H a=Ab o):a<h.objs.size:=(x a o e).lt
theorem HOk.fresh (x:HOk P w H h)(e:h.objs.size<=a):H a=none:=by
 cases q:H a with
 |none=>rfl
 |some u=>exact absurd (Bb (x.lt q) e) (Et _)
theorem HOk.kept (x:HOk P w H h)(k:∀ b u,h.get? b=Ab u->h'.get? b=Ab u):HOk P w H h':=λa o e =>
 (x a o e).stay (λb u _ q=>k b u q) (λ_ q=>q) λ_ _ q=>q
theorem HOk.laid (x:HOk P w H h)(k:∀ b u,h.get? b=Ab u->h'.get? b=Ab u)(hp:h.objs.size<=a)(new:z9 P w (upd H a o) h' a o):HOk P w (upd H a o) h':=λb u e=>by
 have hn:=x.fresh hp;by_cases hb:b=a
 .subst hb;rw[qU] at e;cases e;exact new
 .rw[qI hb] at e
  exact(x b u e).stay (λc v _ q=>k c v q) (λc q=>by rw[qI (qT q hn)];exact q) λc xs q=>by rw[qI (qT q hn)];exact q
end
def Rd (H:Hp)(a:Af)(u:HO):Prop:=H a=Ab u\/∃ o,H a=Ab (.frz o u)
theorem Rd.of {H:Hp}{a:Af}{u:HO}(h:H a=Ab u):Rd H a u:=.inl h
theorem Rd.ok {P:Bd}{w:Bz}{H:Hp}{h:Bq}{a:Af}{u:HO}(r:Rd H a u)(x:HOk P w H h):z9 P w H h a u:=by
 rcases r with r|⟨o,r⟩
 .exact x a u r
 .obtain⟨_,q⟩:=x a _ r
  exact q
def Mut:Ak HO->Prop
 |some (.lst _)=>Od
 |some (.dK _)=>Od
 |some (.dT _)=>Od
 |some (.set _ _)=>Od
 |some (.ins _ _ _)=>Od
 |some (.ext _)=>Od
 |_=>Fh
section
variable {P:Bd}{w:Bz}{H:Hp}{h h':Bq}{x e:Af}{o':HO}
theorem HOk.write (ok:HOk P w H h)(mu:Mut (H x))(he:e=x\/H e=Ab (.own x))(k:∀ b u,b≠e->h.get? b=Ab u->h'.get? b=Ab u)(heo:∃ u,h'.get? e=Ab u)
  (new:z9 P w (upd H x o') h' x o'):HOk P w (upd H x o') h':=λb u q=>by
 have nown:∀ c y,H c=Ab (.own y)->c≠x:=λc y r z=>by subst z;rw[r] at mu;exact mu
 have ntup:∀ c xs,H c=Ab (.tup xs)->c≠x:=λc xs r z=>by subst z;rw[r] at mu;exact mu
 by_cases hb:b=x
 .subst hb;rw[qU] at q;cases q;exact new
 .rw[qI hb] at q
  by_cases hbe:b=e
  .have q':H b=Ab (.own x):=by
    rcases he with z|z
    .exact absurd (hbe.trans z) hb
    .rw[hbe];exact z
   rw[q] at q';cases q';obtain⟨v,hv⟩:=heo;exact⟨v,by rw[hbe];exact hv⟩
  .refine(ok b u q).stay (λc v hc r=>k c v ?_ r) (λc r=>by rw[qI (nown c b r)];exact r) λc xs r=>by rw[qI (ntup c xs r)];exact r
   rcases hc with rfl|hc
   .exact hbe
   .rintro rfl
    rcases he with z|z
    .exact nown c b hc z
    .rw[hc] at z;cases z;exact hb rfl
end
structure Un (fs ex:Aa Af)(H H':Hp)(h h':Bq):Prop where
 keep:∀ b o,h.get? b=Ab o->H b=none->b ∉ fs->b ∉ ex->h'.get? b=Ab o
 slot:∀ b o,h.get? b=Ab o->H b=none->b∈fs->b ∉ ex->∃ sl,h'.get? b=Ab { o with slots:=sl }
 free:∀ b o,h.get? b=Ab o->H b=none->b ∉ ex->H' b=none
 there:∀ b o,h.get? b=Ab o->b ∉ ex->∃ o',h'.get? b=Ab o'
 tups:∀ b xs,H b=Ab (.tup xs)->H' b=Ab (.tup xs)
 frzs:∀ b o u,H b=Ab (.frz o u)->H' b=Ab (.frz o u)
 tbls:∀ b ps,H b=Ab (.tbl ps)->∃ more,H' b=Ab (.tbl (ps++more))
section
variable {fs fs' ex ex':Aa Af}{H H1 H2:Hp}{h h1 h2 h':Bq}{a x e:Af}{o:HO}
theorem Un.any (u:Un fs ex H H1 h h1){b:Af}{ob:Co}(q:h.get? b=Ab ob)(n:H b=none)(hx:b ∉ ex):∃ sl,h1.get? b=Ab { ob with slots:=sl }:=by
 by_cases hb:b∈fs
 .exact u.slot b ob q n hb hx
 .exact⟨ob.slots,u.keep b ob q n hb hx⟩
theorem Un.kept (k:∀ b u,h.get? b=Ab u->h'.get? b=Ab u):Un fs ex H H h h':=
 ⟨λb ob q _ _ _=>k b ob q,λb ob q _ _ _=>⟨ob.slots,k b ob q⟩,λ_ _ _ n _=>n,λb ob q _=>⟨ob,k b ob q⟩,λ_ _ q=>q,λ_ _ _ q=>q,λ_ ps q=>⟨#[],by rw[q];simp⟩⟩
theorem Un.refl:Un fs ex H H h h:=Un.kept λ_ _ q=>q
theorem Un.laid (k:∀ b u,h.get? b=Ab u->h'.get? b=Ab u)(hp:h.objs.size<=a)(hn:H a=none):Un fs ex H (upd H a o) h h' where
 keep:=λb u q _ _ _=>k b u q
 slot:=λb u q _ _ _=>⟨u.slots,k b u q⟩
 free:=λb u q n _=>by rw[qI (Ci (Bb (Ay q) hp))];exact n
 there:=λb u q _=>⟨u,k b u q⟩
 tups:=λb xs q=>by rw[qI (qT q hn)];exact q
 frzs:=λb u xs q=>by rw[qI (qT q hn)];exact q
 tbls:=λb ps q=>⟨#[],by rw[qI (qT q hn),q];simp⟩
theorem Un.write (mu:Mut (H x))(he:e=x\/H e=Ab (.own x))(k:∀ b u,b≠e->h.get? b=Ab u->h'.get? b=Ab u)(heo:∃ u,h'.get? e=Ab u):Un fs ex H (upd H x o) h h':=by
 have hx:∀ b,H b=none->b≠x:=λb n z=>by subst z;rw[n] at mu;exact mu
 have hb:∀ b,H b=none->b≠e:=λb n z=>by
  subst z;rcases he with r|r
  .exact hx b n r
  .rw[n] at r;cases r
 have hm:∀ b u,H b=Ab u->¬ Mut (Ab u)->b≠x:=λb u q nm z=>by subst z;rw[q] at mu;exact nm mu
 refine⟨λb u q n _ _=>k b u (hb b n) q,λb u q n _ _=>⟨u.slots,k b u (hb b n) q⟩,λb u q n _=>by rw[qI (hx b n)];exact n,λb u q _=>?_,
  λb xs q=>by rw[qI (hm b _ q λz=>z)];exact q,λb u xs q=>by rw[qI (hm b _ q λz=>z)];exact q,λb ps q=>⟨#[],by rw[qI (hm b _ q λz=>z),q];simp⟩⟩
 by_cases hbe:b=e
 .subst hbe;exact heo
 .exact⟨u,k b u hbe q⟩
end
noncomputable def trk (h:Bq)(H:Hp):Aa Af:=(De h.objs.size).filter λa=>(H a).isSome
noncomputable def gA (h:Bq)(H:Hp):Bq:=OQ h (trk h H)
theorem QX (h:Bq)(H:Hp):(gA h H).objs.size=h.objs.size:=PySem.W.hideAll_size _ _
theorem YJ {h:Bq}{H:Hp}{b:Af}{o:Co}(e:h.get? b=Ab o)(n:H b=none):(gA h H).get? b=Ab o:=
 Vl _ e λhm=>by
  have q:(H b).isSome=true:=(Ti.mp hm).2;rw[n] at q;simp at q
theorem B9 {h:Bq}{H:Hp}{b:Af}{o:Co}(e:(gA h H).get? b=Ab o):h.get? b=Ab o/\H b=none:=by
 have e':h.get? b=Ab o:=Wm (trk h H) e;refine⟨e',?_⟩;cases q:H b with
 |none=>rfl
 |some x =>
  have hm:b∈trk h H:=Ti.mpr ⟨Fk.mpr (Ay e'),by simp[q]⟩
  have z:(gA h H).get? b=none:=PySem.W.hideAll_none (trk h H) hm;rw[z] at e;cases e
end _L
namespace _L
open PySem PySem.Spec PyProof.Rows
variable {ch:Aa Af}{E:Ac->Ag->Prop}{t':Ai}{g':Ax Zh}{d':Drawn}{M:Kz}{Q:Qv->Ag->Prop}
noncomputable def w9:Aa Ap:=["law","_law_right","by_hull","pair_bound"]
def FX (mg:Ap->Ak Ac)(h:Bq):Prop:=∃ bm o,mg "__builtins__" = Ab (.ref bm)/\bm≠Pe/\h.get? bm=Ab o/\o.cls=.type "module" /\ o.dict=Ab Pe/\o.data=.plain
structure Mod (K:Aj)(mg:Ap->Ak Ac)(base:Bq):Prop where
 kin:K.In base
 glob:base.Ns Cg mg
 blt:∃ mb,base.Ns Pe mb/\∀ x:Ap,x ≠ "__name__" -> mb x=Fc x
 nolimit:base.NoLimit
 bm:FX mg base
 code:∀ x∈w9,∀ c T,Du K x=Ab (c,T)->Ut base c T
 inj:∀ x∈w9,∀ y∈w9,∀ c d T,Du K x=Ab (c,T)->Du K y=Ab (d,T)->x=y
structure Cx where
 prog:Bd
 w:Bz
 K:Aj
 mg:Ap->Ak Ac
 base:Bq
 A:Bt
 N:Aa Ap
 s₀:Ag
 H₀:Hp
 env:Ja
 outer:Aa Ja
 stack:Aa Ja
 ex:Aa Af
 fn:Ap->Aq
 calm:Aq
 pn:Aa (Af × Co)
 xe:Ac->Ag->Prop
noncomputable def frs (l:Aa Ja):Aa Af:=l.filterMap (·.frame)
abbrev Cx.fs (X:Cx):Aa Af:=frs X.outer
def Vis (sc:Eu)(x:Ap):Prop:=sc.names.lookup x=Ab .local \/ sc.names.lookup x=Ab .cell\/sc.names.lookup x=Ab .free
def Loc (sc:Eu)(x:Ap):Prop:=sc.names.lookup x=Ab .local \/ sc.names.lookup x=Ab .cell
def M0 (env:Ja)(h:Bq)(m:Ap->Ak Ac)(x:Ap)(u:Ac):Prop:=
 (env.kindOf x=Ab .local /\ m x=Ab u)\/((env.kindOf x=Ab .cell\/env.kindOf x=Ab .free)/\∃ c,env.cells.lookup x=Ab c/\h.IsCell c (Ab u))
structure Cx.Ok (X:Cx):Prop where
 mod:Mod X.K X.mg X.base
 kind:X.env.scope.kind=.function
 glob:X.env.globals=Cg
 blt:X.env.builtins=Pe
 above:X.s₀.heap.objs.size<=X.env.locals
 inj:∀ x y c,X.env.cells.lookup x=Ab c->X.env.cells.lookup y=Ab c->x=y
 has:∀ x,(X.env.kindOf x=Ab .cell\/X.env.kindOf x=Ab .free)->∃ c,X.env.cells.lookup x=Ab c
 cab:∀ x c,X.fn x=true->X.env.cells.lookup x=Ab c->X.s₀.heap.objs.size<=c
 hd:X.calm=true->X.A.handled=none
 frames:X.A.frames=Ab X.stack
 stk:X.stack=X.outer\/(X.stack=X.env::X.outer/\X.env.frame=Ab X.env.locals)
 exf:∀ b∈X.ex,b≠X.env.locals/\∀ x c,X.env.cells.lookup x=Ab c->c≠b
 bs:∀ b o,X.base.get? b=Ab o->X.s₀.heap.get? b=Ab o/\X.H₀ b=none
 bsz:X.base.objs.size<=X.s₀.heap.objs.size
 noex:∀ b o,X.base.get? b=Ab o->b ∉ X.ex
 exfs:∀ b∈X.ex,b ∉ X.fs
 funs:X.s₀.heap.FunFrames X.base X.outer
 frf:∀ b∈X.fs,X.H₀ b=none
structure Inv (X:Cx)(pins:Aa (Af × Co))(σ : Aa (Ak V))(H:Hp)(s:Ag):Prop where
 ok:X.Ok
 os:s.os=X.s₀.os
 bare:Oe s.gens
 base:Un X.fs X.ex X.H₀ H X.s₀.heap s.heap
 loc:∃ m,s.heap.Ns X.env.locals m/\∀ (i:Ai) (x:Ap) (v:V),X.N[i]? = Ab x->σ[i]? = Ab (Ab v)->Vis X.env.scope x->∃ u,qL v u/\M0 X.env s.heap m x u
 cell:∀ x c,X.env.cells.lookup x=Ab c->∃ v,s.heap.IsCell c v
 free:H X.env.locals=none
 freeC:∀ x c,X.env.cells.lookup x=Ab c->H c=none
 pin:∀ p∈X.pn++pins,s.heap.get? p.1=Ab p.2/\H p.1=none/\p.1≠X.env.locals/\p.1 ∉ X.fs/\∀ v,p.2.data≠.cell v
 hok:HOk X.prog X.w H s.heap
 len:σ.length=X.N.length
section
variable {X:Cx}{pins:Aa (Af × Co)}{σ : Aa (Ak V)}{H H':Hp}{s:Ag}{h':Bq}
theorem Cx.Ok.nofr (ok:X.Ok){b:Af}{o:Co}(e:X.base.get? b=Ab o):b ∉ X.fs:=λhb=>by
 have:=(ok.funs.mem hb).1;rw[e] at this;cases this
theorem Inv.bs (I:Inv X pins σ H s):∀ b o,X.base.get? b=Ab o->s.heap.get? b=Ab o/\H b=none:=λb o e =>
 ⟨I.base.keep b o (I.ok.bs b o e).1 (I.ok.bs b o e).2 (I.ok.nofr e) (I.ok.noex b o e),I.base.free b o (I.ok.bs b o e).1 (I.ok.bs b o e).2 (I.ok.noex b o e)⟩
theorem Inv.bk (I:Inv X pins σ H s):∀ b o,X.base.get? b=Ab o->s.heap.get? b=Ab o:=λb o e=>(I.bs b o e).1
theorem Inv.mod (I:Inv X pins σ H s):Mod X.K X.mg X.base:=I.ok.mod
theorem Inv.kIn (I:Inv X pins σ H s):X.K.In s.heap:=I.ok.mod.kin.keeps I.bk
theorem Inv.nolimit (I:Inv X pins σ H s):s.heap.NoLimit:=I.ok.mod.nolimit.keeps I.bk
theorem Inv.lt (I:Inv X pins σ H s):X.env.locals<s.heap.objs.size:=let ⟨_,hn,_⟩:=I.loc;hn.lt
theorem Inv.sz (I:Inv X pins σ H s):X.s₀.heap.objs.size<=s.heap.objs.size:=DL I.ok.above (Fd I.lt)
theorem Inv.nofs (I:Inv X pins σ H s){a:Af}(h:s.heap.objs.size<=a):a ∉ X.fs:=λhb=>by
 obtain⟨_,o,ho,_⟩:=I.ok.funs.mem hb;exact absurd (Bb (Ay ho) (DL I.sz h)) (Et _)
theorem Inv.cne (I:Inv X pins σ H s):∀ x c,X.env.cells.lookup x=Ab c->c≠X.env.locals:=λx c e z=>by
 obtain⟨v,o,ho,hd⟩:=I.cell x c e;obtain⟨m,⟨o',es,ep,ho',hd',_⟩,_⟩:=I.loc;rw[z,ho'] at ho;cases ho;rw[hd'] at hd;cases hd
theorem Inv.funs (I:Inv X pins σ H s):s.heap.FunFrames X.base X.outer:=by
 have all:∀ (l:Aa Ja),(∀ b∈frs l,b∈X.fs)->X.s₀.heap.FunFrames X.base l->s.heap.FunFrames X.base l:=by
  intro l
  induction l with
  |nil=>intro _ _;trivial
  |cons env r ih =>
   intro hs hl;obtain⟨hk,⟨L,o,hf,hn,ho,hd⟩,hr⟩:=hl;have hL:L∈X.fs:=hs L (by unfold frs;rw[Ir,hf];exact Dj)
   obtain⟨sl,e⟩:=I.base.slot L o ho (I.ok.frf L hL) hL λz=>I.ok.exfs L z hL;exact⟨hk,⟨L,_,hf,hn,e,hd⟩,ih (λb hb=>hs b (by unfold frs;rw[Ir,hf];exact Cd _ hb)) hr⟩
 exact all X.outer (λ_ hb=>hb) I.ok.funs
theorem Inv.stack (I:Inv X pins σ H s):s.heap.FunFrames X.base X.stack:=by
 rcases I.ok.stk with e|⟨e,hf⟩
 .rw[e];exact I.funs
 .rw[e]
  obtain⟨m,hn,_⟩:=I.loc;refine .cons (by rw[I.ok.kind];decide) hf hn ?_ I.funs
  exact Jv (DL I.ok.bsz I.ok.above)
theorem Inv.stkSub (I:Inv X pins σ H s):∀ b∈frs X.stack,b∈X.env.locals::X.fs:=λb hb=>by
 rcases I.ok.stk with e|⟨e,hf⟩
 .rw[e] at hb;exact Cd _ hb
 .rw[e] at hb
  unfold frs at hb;rw[Ir,hf] at hb;exact hb
theorem Inv.stkFree (I:Inv X pins σ H s):∀ b∈frs X.stack,H b=none:=λb hb=>by
 rcases Aw.mp (I.stkSub b hb) with e|hb
 .rw[e];exact I.free
 .obtain⟨_,o,ho,_⟩:=I.ok.funs.mem hb
  exact I.base.free b o ho (I.ok.frf b hb) λz=>I.ok.exfs b z hb
theorem Inv.step {g':Ax Zh}{t':Ai}{d':Drawn}(I:Inv X pins σ H s)
  (hch:∀ b∈ch,(b∈X.ex\/X.s₀.heap.objs.size<=b)/\b≠X.env.locals/\(∀ x c,X.env.cells.lookup x=Ab c->c≠b)/\∀ p∈X.pn++pins,p.1≠b)
  (keep:∀ b o,b≠X.env.locals->b ∉ X.fs->b ∉ ch->s.heap.get? b=Ab o->H b=none->h'.get? b=Ab o)
  (slot:∀ b o,b≠X.env.locals->b∈X.fs->b ∉ ch->s.heap.get? b=Ab o->H b=none->∃ sl,h'.get? b=Ab { o with slots:=sl }) (free:∀ b o,b ∉ ch->s.heap.get? b=Ab o->H b=none->H' b=none)
  (there:∀ b o,b ∉ ch->s.heap.get? b=Ab o->∃ o',h'.get? b=Ab o')
  (tups:∀ b xs,H b=Ab (.tup xs)->H' b=Ab (.tup xs)) (frzs:∀ b o u,H b=Ab (.frz o u)->H' b=Ab (.frz o u)) (tbls:∀ b ps,H b=Ab (.tbl ps)->∃ more,H' b=Ab (.tbl (ps++more)))
  (ns:∀ m,s.heap.Ns X.env.locals m->h'.Ns X.env.locals m) (hok:HOk X.prog X.w H' h') (hg:Oe g') :
  Inv X pins σ H' { s with heap:=h',gens:=g',drawn:=d',toks:=t' }:=by
 have neL:∀ b o,X.s₀.heap.get? b=Ab o->b≠X.env.locals:=λb o e=>Ci (Bb (Ay e) I.ok.above);have neC:∀ b o,X.s₀.heap.get? b=Ab o->b ∉ X.ex->b ∉ ch:=λb o e hx hb=>by
  rcases (hch b hb).1 with z|z
  .exact hx z
  .exact absurd (Bb (Ay e) z) (Et _)
 have cellK:∀ x c,X.env.cells.lookup x=Ab c->∀ v,s.heap.IsCell c v->h'.IsCell c v:=λx c e v ⟨o,ho,hd⟩=>by
  have nch:c ∉ ch:=λz=>(hch c z).2.2.1 x c e rfl;by_cases hc:c∈X.fs
  .obtain⟨sl,q⟩:=slot c o (I.cne x c e) hc nch ho (I.freeC x c e)
   exact⟨_,q,hd⟩
  .exact⟨o,keep c o (I.cne x c e) hc nch ho (I.freeC x c e),hd⟩
 refine⟨I.ok,I.os,hg,⟨λb o e n hb hx=>?_,λb o e n hb hx=>?_,λb o e n hx=>?_,λb o e hx=>?_,λb xs e=>tups b xs (I.base.tups b xs e),λb o xs e=>frzs b o xs (I.base.frzs b o xs e),λb ps e=>?_⟩,?_,λx c e=>?_,?_,λx c e=>?_,λp hp=>?_,hok,I.len⟩
 .exact keep b o (neL b o e) hb (neC b o e hx) (I.base.keep b o e n hb hx) (I.base.free b o e n hx)
 .obtain⟨sl,e1⟩:=I.base.slot b o e n hb hx
  obtain⟨sl',e2⟩:=slot b _ (neL b o e) hb (neC b o e hx) e1 (I.base.free b o e n hx);exact⟨sl',e2⟩
 .obtain⟨o',e1⟩:=I.base.there b o e hx
  exact free b o' (neC b o e hx) e1 (I.base.free b o e n hx)
 .obtain⟨o',e1⟩:=I.base.there b o e hx
  exact there b o' (neC b o e hx) e1
 .obtain⟨m1,e1⟩:=I.base.tbls b ps e
  obtain⟨m2,e2⟩:=tbls b _ e1;exact⟨m1++m2,by rw[e2,Array.append_assoc]⟩
 .obtain⟨m,hn,hl⟩:=I.loc
  refine⟨m,ns m hn,λi x v e1 e2 e3=>?_⟩;obtain⟨u,r,l⟩:=hl i x v e1 e2 e3;refine⟨u,r,?_⟩;rcases l with l|⟨k,c,e,z⟩
  .exact .inl l
  .exact .inr ⟨k,c,e,cellK x c e _ z⟩
 .obtain⟨v,z⟩:=I.cell x c e
  exact⟨v,cellK x c e v z⟩
 .obtain⟨m,⟨o,_,_,ho,_⟩,_⟩:=I.loc
  exact free _ o (λz=>(hch _ z).2.1 rfl) ho I.free
 .obtain⟨v,o,ho,hd⟩:=I.cell x c e
  exact free c o (λz=>(hch c z).2.2.1 x c e rfl) ho (I.freeC x c e)
 .obtain⟨e,n,ne,nf,d⟩:=I.pin p hp
  have nch:p.1 ∉ ch:=λz=>(hch p.1 z).2.2.2 p hp rfl;exact⟨keep p.1 p.2 ne nf nch e n,free p.1 p.2 nch e n,ne,nf,d⟩
theorem Inv.un {t':Ai}(I:Inv X pins σ H s)(u:Un X.fs [] H H' s.heap h')(hok:HOk X.prog X.w H' h'):Inv X pins σ H' { s with heap:=h',toks:=t' }:=by
 obtain⟨m,⟨o,es,ep,ho,r⟩,_⟩:=id I.loc;obtain⟨sl,hL⟩:=u.any ho I.free (by simp)
 exact I.step (g':=s.gens) (d':=s.drawn) (ch:=[]) (λ_ z=>nomatch z) (λb o _ hb _ e n=>u.keep b o e n hb (by simp)) (λb o _ hb _ e n=>u.slot b o e n hb (by simp)) (λb o _ e n=>u.free b o e n (by simp)) (λb o _ e=>u.there b o e (by simp)) u.tups u.frzs u.tbls (λm' hm=>by
  obtain⟨o',es',ep',ho',r'⟩:=hm;rw[ho] at ho';cases ho';exact⟨_,es',ep',hL,r'⟩) hok I.bare
theorem Inv.call {t':Ai}{d':Drawn}(I:Inv X pins σ H s)(u:Un (frs X.stack) ch H H' s.heap h')(hok:HOk X.prog X.w H' h')(hg:Oe g')
  (hch:∀ b∈ch,(b∈X.ex\/X.s₀.heap.objs.size<=b)/\b≠X.env.locals/\(∀ x c,X.env.cells.lookup x=Ab c->c≠b)/\∀ p∈X.pn++pins,p.1≠b) :
  Inv X pins σ H' { s with heap:=h',gens:=g',drawn:=d',toks:=t' }:=by
 obtain⟨m,⟨o,es,ep,ho,r⟩,_⟩:=id I.loc;obtain⟨sl,hL⟩:=u.any ho I.free λz=>(hch _ z).2.1 rfl;exact I.step (ch:=ch) hch (λb o hL hb hc e n=>u.keep b o e n (λz=>(Aw.mp (I.stkSub b z)).elim hL hb) hc) (λb o _ _ hc e n=>u.any e n hc) (λb o hc e n=>u.free b o e n hc) (λb o hc e=>u.there b o e hc) u.tups u.frzs u.tbls (λm' hm=>by
  obtain⟨o',es',ep',ho',r'⟩:=hm;rw[ho] at ho';cases ho';exact⟨_,es',ep',hL,r'⟩) hok hg
theorem Inv.turned {t':Ai}{it:Af}(I:Inv X pins σ H s)(k:∀ b o,b≠it->s.heap.get? b=Ab o->h'.get? b=Ab o)(hn:H it=none)(hL:it≠X.env.locals)
  (h1:it∈X.ex\/X.s₀.heap.objs.size<=it) (h2:∀ x c,X.env.cells.lookup x=Ab c->c≠it) (h3:∀ p∈X.pn++pins,p.1≠it):Inv X pins σ H { s with heap:=h',toks:=t' }:=by
 have nit:∀ b u,H b=Ab u->b≠it:=λb u e z=>by rw[z,hn] at e;cases e
 refine I.step (g':=s.gens) (d':=s.drawn) (ch:=[it]) (λb hb=>?_) (λb o _ _ hc e _=>k b o (λz=>hc (by simp[z])) e) (λb o _ _ hc e _=>⟨o.slots,k b o (λz=>hc (by simp[z])) e⟩) (λ_ _ _ _ n=>n)
  (λb o hc e=>⟨o,k b o (λz=>hc (by simp[z])) e⟩) (λ_ _ e=>e) (λ_ _ _ e=>e) (λb ps e=>⟨#[],by rw[e];simp⟩) (λm hm=>?_) (λb u e=>?_) I.bare
 .have e:b=it:=by simpa using hb
  subst e;exact⟨h1,hL,h2,h3⟩
 .obtain⟨o,es,ep,ho,r⟩:=hm
  exact⟨o,es,ep,k _ o (Gb hL) ho,r⟩
 .refine(I.hok b u e).stay (λc v hc q=>k c v ?_ q) (λ_ q=>q) λ_ _ q=>q
  rcases hc with z|z
  .rw[z];exact nit b u e
  .exact nit c _ z
theorem Inv.tok (I:Inv X pins σ H s)(t:Ai):Inv X pins σ H { s with toks:=t }:=I.un (h':=s.heap) (t':=t) Un.refl I.hok
theorem Inv.kept {t':Ai}(I:Inv X pins σ H s)(k:∀ b u,s.heap.get? b=Ab u->h'.get? b=Ab u):Inv X pins σ H { s with heap:=h',toks:=t' }:=I.un (Un.kept k) (I.hok.kept k)
theorem Inv.laid {a:Af}{o:HO}{t':Ai}(I:Inv X pins σ H s)(k:∀ b u,s.heap.get? b=Ab u->h'.get? b=Ab u)(hp:s.heap.objs.size<=a)(new:z9 X.prog X.w (upd H a o) h' a o) :
  Inv X pins σ (upd H a o) { s with heap:=h',toks:=t' }:=I.un (Un.laid k hp (I.hok.fresh hp)) (I.hok.laid k hp new)
theorem Inv.write {x e:Af}{o:HO}{t':Ai}(I:Inv X pins σ H s)(mu:Mut (H x))(he:e=x\/H e=Ab (.own x))(k:∀ b u,b≠e->s.heap.get? b=Ab u->h'.get? b=Ab u)(heo:∃ u,h'.get? e=Ab u)
  (new:z9 X.prog X.w (upd H x o) h' x o):Inv X pins σ (upd H x o) { s with heap:=h',toks:=t' }:=I.un (Un.write mu he k heo) (I.hok.write mu he k heo new)
theorem Inv.pins_of {pins':Aa (Af × Co)}(I:Inv X pins σ H s)(h:∀ p∈pins',s.heap.get? p.1=Ab p.2/\H p.1=none/\p.1≠X.env.locals/\p.1 ∉ X.fs/\∀ v,p.2.data≠.cell v):Inv X pins' σ H s:=
 ⟨I.ok,I.os,I.bare,I.base,I.loc,I.cell,I.free,I.freeC,λp hp=>(Cq.mp hp).elim (λz=>I.pin p (Df _ z)) (h p),I.hok,I.len⟩
theorem f9 {N:Aa Ap}(hN:N.Nodup){i j:Ai}{x:Ap}(a:N[i]? = Ab x)(b:N[j]? = Ab x):i=j:=by
 obtain⟨h1,e1⟩:=Bo.mp a;obtain⟨h2,e2⟩:=Bo.mp b;exact(Of hN).mp (e1.trans e2.symm)
theorem lL {A:Bt}{i:Ai}{x:Ap}{v:V}{u:Ac}(I:Inv X pins σ H s)(hN:X.N.Nodup)(hi:X.N[i]? = Ab x)(hx:Loc X.env.scope x)(r:qL v u)
  (h:∀ s',Inv X pins (σ.set i (Ab v)) H s'->(∃ a,Fe a s.heap s'.heap/\(a=X.env.locals\/X.env.cells.lookup x=Ab a))->Q () s') (hf:X.fn x=true\/X.env.scope.names.lookup x=Ab .local:=by first|exact .inl rfl|exact .inr rfl|assumption):Ao M A (storeName X.env x u) Q E s:=by
 obtain⟨m,hn,hl⟩:=id I.loc;have hcls:(X.env.scope.kind == .class||(X.env.scope.kind == .module&&X.env.locals != X.env.globals))=false:=by rw[I.ok.kind];rfl
 have hiσ:i<σ.length:=by rw[I.len];exact(Bo.mp hi).1
 have cne:=I.cne;have tracked:∀ {a:Af} {h':Bq},(∃ o,s.heap.get? a=Ab o/\H a=none)->Fe a s.heap h'->HOk X.prog X.w H h':=λ{a h'} ha hs b ob e=>by
  obtain⟨_,_,hfree⟩:=ha;refine(I.hok b ob e).stay (λc w' hc q=>(hs.2 c ?_).trans q) (λ_ q=>q) λ_ _ q=>q;rintro rfl;rcases hc with rfl|hc
  .rw[hfree] at e;cases e
  .rw[hfree] at hc;cases hc
 rcases hx with hk|hk
 .refine wpAny_storeName_local hk hn (λh' hn' hs=>?_) hcls
  obtain⟨oL,_,_,hoL,_⟩:=id hn;refine h _ ⟨I.ok,I.os,I.bare,⟨λb o e n hb hx=>?_,λb o e n hb hx=>?_,I.base.free,λb o e hx=>?_,I.base.tups,I.base.frzs,I.base.tbls⟩,⟨_,hn',λj y v' e1 e2 e3=>?_⟩,λy c e=>?_,I.free,I.freeC,λp hp=>?_,tracked ⟨oL,hoL,I.free⟩ hs,by simpa using I.len⟩ ⟨_,hs,.inl rfl⟩
  .exact(hs.2 b (Ci (Bb (Ay e) I.ok.above))).trans (I.base.keep b o e n hb hx)
  .obtain⟨sl,e1⟩:=I.base.slot b o e n hb hx
   exact⟨sl,(hs.2 b (Ci (Bb (Ay e) I.ok.above))).trans e1⟩
  .obtain⟨o',e1⟩:=I.base.there b o e hx
   exact⟨o',(hs.2 b (Ci (Bb (Ay e) I.ok.above))).trans e1⟩
  .by_cases hj:j=i
   .subst hj
    rw[hi] at e1;cases e1;rw[Ed hiσ] at e2;cases e2;exact⟨u,r,.inl ⟨hk,by simp⟩⟩
   .rw[Ch (Gb hj)] at e2
    obtain⟨u',r',q⟩:=hl j y v' e1 e2 e3;refine⟨u',r',?_⟩;rcases q with⟨k,e⟩|⟨k,c,e,z⟩
    .refine .inl ⟨k,?_⟩
     have:y≠x:=λe=>hj (f9 hN e1 (e▸hi));simp[this,e]
    .exact .inr ⟨k,c,e,z.sameBut hs (cne y c e)⟩
  .obtain⟨w',z⟩:=I.cell y c e
   exact⟨w',z.sameBut hs (cne y c e)⟩
  .obtain⟨e,n,ne,nf,d⟩:=I.pin p hp
   exact⟨(hs.2 p.1 ne).trans e,n,ne,nf,d⟩
 .have hfn:X.fn x=true:=by
   rcases hf with z|z
   .exact z
   .rw[z] at hk;cases hk
  obtain⟨c,hc⟩:=I.ok.has x (.inl hk);obtain⟨w',z⟩:=I.cell x c hc;refine wpAny_storeName_cell I.ok.kind hk hc z (λh' hc' hs=>?_);obtain⟨oc,hoc,hocd⟩:=id z;refine h { s with heap:=h' } ⟨I.ok,I.os,I.bare,⟨λb o e n hb hx=>?_,λb o e n hb hx=>?_,I.base.free,λb o e hx=>?_,I.base.tups,I.base.frzs,I.base.tbls⟩,⟨m,hn.sameBut hs (Gb (cne x c hc)),λj y v' e1 e2 e3=>?_⟩,λy c' e=>?_,I.free,I.freeC,λp hp=>?_,tracked ⟨oc,hoc,I.freeC x c hc⟩ hs,by simpa using I.len⟩ ⟨c,hs,.inr hc⟩
  .exact(hs.2 b (Ci (Bb (Ay e) (I.ok.cab x c hfn hc)))).trans (I.base.keep b o e n hb hx)
  .obtain⟨sl,e1⟩:=I.base.slot b o e n hb hx
   exact⟨sl,(hs.2 b (Ci (Bb (Ay e) (I.ok.cab x c hfn hc)))).trans e1⟩
  .obtain⟨o',e1⟩:=I.base.there b o e hx
   exact⟨o',(hs.2 b (Ci (Bb (Ay e) (I.ok.cab x c hfn hc)))).trans e1⟩
  .by_cases hj:j=i
   .subst hj
    rw[hi] at e1;cases e1;rw[Ed hiσ] at e2;cases e2;exact⟨u,r,.inr ⟨.inl hk,c,hc,hc'⟩⟩
   .rw[Ch (Gb hj)] at e2
    obtain⟨u',r',q⟩:=hl j y v' e1 e2 e3;refine⟨u',r',?_⟩;rcases q with q|⟨k,c',e,z'⟩
    .exact .inl q
    .refine .inr ⟨k,c',e,z'.sameBut hs ?_⟩
     rintro rfl;exact hj (f9 hN e1 (I.ok.inj _ _ _ e hc▸hi))
  .by_cases hcc:c'=c
   .subst hcc;exact⟨_,hc'⟩
   .obtain⟨w2,z2⟩:=I.cell y c' e
    exact⟨w2,z2.sameBut hs hcc⟩
  .obtain⟨e,n,ne,nf,d⟩:=I.pin p hp
   refine⟨(hs.2 p.1 ?_).trans e,n,ne,nf,d⟩;intro q;rw[q,hoc] at e;have q':oc=p.2:=Ct e;exact d w' (by rw[<- q'];exact hocd)
theorem jI {A:Bt}{i:Ai}{x:Ap}{v:V}{u:Ac}(I:Inv X pins σ H s)(hN:X.N.Nodup)(hi:X.N[i]? = Ab x)(hx:Loc X.env.scope x)(r:qL v u)
  (h:∀ s',Inv X pins (σ.set i (Ab v)) H s'->Q () s') (hf:X.fn x=true\/X.env.scope.names.lookup x=Ab .local:=by first|exact .inl rfl|exact .inr rfl|assumption):Ao M A (storeName X.env x u) Q E s:=
 lL I hN hi hx r (λs' I' _=>h s' I') hf
theorem Inv.call' {s':Ag}(I:Inv X pins σ H s)(ho:s'.os=s.os)(u:Un (frs X.stack) ch H H' s.heap s'.heap)(hok:HOk X.prog X.w H' s'.heap)(hg:Oe s'.gens)
  (hch:∀ b∈ch,(b∈X.ex\/X.s₀.heap.objs.size<=b)/\b≠X.env.locals/\(∀ x c,X.env.cells.lookup x=Ab c->c≠b)/\∀ p∈X.pn++pins,p.1≠b):Inv X pins σ H' s':=by
 obtain⟨h',g',d',t',o'⟩:=s';have e:o'=s.os:=ho;subst e;exact I.call (g':=g') (t':=t') (d':=d') u hok hg hch
end
abbrev XK:=Ac->Ak Af->Hp->Prop
abbrev St:=Aa (Ak V)
abbrev VK:=V->Hp->Prop
abbrev TE:=St->Hp->VK->Prop
abbrev TT:=St->Hp->(Aq->Hp->Prop)->Prop
abbrev TA:=St->Hp->(Aa V->Hp->Prop)->Prop
structure Ends where
 nx:St->Hp->Prop
 rt:VK
 bk:St->Hp->Prop:=λ_ _=>Fh
 ct:St->Hp->Prop:=λ_ _=>Fh
abbrev TS:=Ends->St->Hp->Prop
inductive EP (X:Cx)(pins:Aa (Af × Co))(σ : St)(Q:VK)(u:Ac)(s':Ag):Prop
 |mk (v:V) (H':Hp) (I:Inv X pins σ H' s') (r:qL v u) (q:Q v H'):EP X pins σ Q u s'
inductive TP (X:Cx)(pins:Aa (Af × Co))(σ : St)(Q:Aq->Hp->Prop)(b:Aq)(s':Ag):Prop
 |mk (H':Hp) (I:Inv X pins σ H' s') (q:Q b H'):TP X pins σ Q b s'
inductive AP (X:Cx)(pins:Aa (Af × Co))(σ : St)(Q:Aa V->Hp->Prop)(us:Aa Ac)(s':Ag):Prop
 |mk (vs:Aa V) (H':Hp) (I:Inv X pins σ H' s') (r:qK vs us) (q:Q vs H'):AP X pins σ Q us s'
def SP (X:Cx)(pins:Aa (Af × Co))(D:Ends)(f:Flow)(s':Ag):Prop:=
 match f with
 |.next=>∃ σ' H',Inv X pins σ' H' s'/\D.nx σ' H'
 |.brk=>∃ σ' H',Inv X pins σ' H' s'/\D.bk σ' H'
 |.cont=>∃ σ' H',Inv X pins σ' H' s'/\D.ct σ' H'
 |.ret u=>∃ v σ' H',Inv X pins σ' H' s'/\qL v u/\D.rt v H'
def PE (X:Cx)(e:Bw)(t:TE):Prop:=
 ∀ (pins:Aa (Af × Co)) (s:Ag) (σ : St) (H:Hp) (Q:VK),Inv X pins σ H s->t σ H Q->Ao (As X.prog X.w) X.A (eval e X.env) (EP X pins σ Q) X.xe s
def PT (X:Cx)(e:Bw)(t:TT):Prop:=
 ∀ (pins:Aa (Af × Co)) (s:Ag) (σ : St) (H:Hp) (Q:Aq->Hp->Prop),Inv X pins σ H s->t σ H Q->Ao (As X.prog X.w) X.A (isTrue e X.env (eval e X.env)) (TP X pins σ Q) X.xe s
def PW (X:Cx)(e:Bw)(t:TT):Prop:=
 ∀ (whole:Ky Ac) (pins:Aa (Af × Co)) (s:Ag) (σ : St) (H:Hp) (Q:Aq->Hp->Prop),Inv X pins σ H s->t σ H Q->Ao (As X.prog X.w) X.A (isTrue e X.env whole) (TP X pins σ Q) X.xe s
def PA (X:Cx)(es:Aa Bw)(t:TA):Prop:=
 ∀ (pos:Fl) (pins:Aa (Af × Co)) (s:Ag) (σ : St) (H:Hp) (Q:Aa V->Hp->Prop),Inv X pins σ H s->t σ H Q->Ao (As X.prog X.w) X.A (spliced (Gc pos (Be es X.env))) (AP X pins σ Q) X.xe s
def PS (X:Cx)(st:Fj)(t:TS):Prop:=
 ∀ (pins:Aa (Af × Co)) (s:Ag) (σ : St) (H:Hp) (D:Ends),Inv X pins σ H s->t D σ H->Ao (As X.prog X.w) X.A (exec st X.env) (SP X pins D) X.xe s
def PSs (X:Cx)(st:Aa Fj)(t:TS):Prop:=
 ∀ (pins:Aa (Af × Co)) (s:Ag) (σ : St) (H:Hp) (D:Ends),Inv X pins σ H s->t D σ H->Ao (As X.prog X.w) X.A (execs st X.env) (SP X pins D) X.xe s
theorem thn {α:Type}{t:Ky α}{Q Q':α->Ag->Prop}{A:Bt}{s:Ag}(h:Ao M A t Q E s)(hQ:∀ a s,Q a s->Q' a s):Ao M A t Q' E s:=Hm h hQ λ_ _ x=>x
end _L
namespace _L
open PySem PySem.Spec PyProof.Rows
variable {pins:Aa (Af × Co)}{u:Ac}{E Q:Ac->Ag->Prop}
section
variable {X:Cx}
theorem bin {a b:Bw}{ta tb:TE}(ha:PE X a ta)(hb:PE X b tb){pins:Aa (Af × Co)}{s:Ag}{σ : St}{H:Hp}{R:V->V->Hp->Prop}(I:Inv X pins σ H s)(h:ta σ H λx H1=>tb σ H1 λy H2=>R x y H2)
  {α:Type} {Q:α->Ag->Prop} {f:Ac->Ac->Ky α}
  (hf:∀ v u s2 x y H2,Inv X pins σ H2 s2->qL x v->qL y u->R x y H2->Ao (As X.prog X.w) X.A (f v u) Q X.xe s2) :
  Ao (As X.prog X.w) X.A (eval a X.env) (λv s₁=>Ao (As X.prog X.w) X.A (eval b X.env) (λu s₂=>Ao (As X.prog X.w) X.A (f v u) Q X.xe s₂) X.xe s₁) X.xe s:=by
 refine thn (ha pins s σ H _ I h) λv s1 ⟨x,H1,I1,r1,q1⟩=>?_;refine thn (hb pins s1 σ H1 _ I1 q1) λu s2 ⟨y,H2,I2,r2,q2⟩=>?_;exact hf v u s2 x y H2 I2 r1 r2 q2
def SJ (i:Ai):TE:=λσ H Q=>∃ v,σ[i]? = Ab (Ab v)/\Q v H
def tC (v:V):TE:=λ_ H Q=>Q v H
theorem ZZ {i:Ai}{x:Ap}{pos:Fl}(hN:X.N[i]? = Ab x)(hv:Vis X.env.scope x)(hd:(x == ("__debug__" : Ap))=false:=by decide)(hcd:(x == ("__classdict__" : Ap))=false:=by decide):PE X (.Name x pos) (SJ i):=by
 intro pins s σ H Q I h;obtain⟨v,e,h⟩:=h;obtain⟨m,hn,hl⟩:=I.loc;obtain⟨u,r,l⟩:=hl i x v hN e hv;have fin:EP X pins σ Q u s:=⟨v,H,I,r,h⟩;rcases l with⟨hk,hm⟩|⟨hk,c,hc,hcell⟩
 .exact Zv (wpAny_loadName_local I.ok.kind hk hn hm fin) hd
 .rcases hk with hk|hk
  .exact Zv (wpAny_loadName_cell I.ok.kind hk hc hcell fin) hd
  .exact Zv (wpAny_loadName_free I.ok.kind hk hc hcell fin hcd) hd
theorem LS:PE X (.Constant (.int i) j pos) (tC (.int i)):=λ_ _ _ H _ I h=>wpAny_Constant_int ⟨.int i,H,I.tok _,⟨_,rfl⟩,h⟩
theorem EG:PE X (.Constant (.bool b) j pos) (tC (.bl b)):=λ_ _ _ H _ I h=>Constant_bool ⟨.bl b,H,I,rfl,h⟩
theorem LU:PE X (.Constant .none j pos) (tC .non):=λ_ _ _ H _ I h=>Constant_none ⟨.non,H,I,rfl,h⟩
theorem LW:PE X (.Constant (.str x) j pos) (tC (.str x)):=λ_ _ _ H _ I h=>Calls.Constant_str ⟨.str x,H,I.tok _,⟨_,rfl⟩,h⟩
def Gl (X:Cx)(x:Ap):Prop:=X.env.kindOf x=Ab .globalImplicit
theorem uK {s:Ag}{σ:St}{H:Hp}{x:Ap}{pos:Fl}(I:Inv X pins σ H s)(hg:Gl X x)(hm:X.mg x=Ab u)(h:Q u s)
  (hd:(x == ("__debug__" : Ap))=false:=by decide):Ao (As X.prog X.w) X.A (eval (.Name x pos) X.env) Q E s:=
 Qh I.ok.kind hg (Calls.loadGlobal_global (by rw[I.ok.glob];exact I.mod.glob.keeps I.bk) hm h) hd
theorem wF {s:Ag}{σ:St}{H:Hp}{x:Ap}{pos:Fl}(I:Inv X pins σ H s)(hg:Gl X x)(hm:X.mg x=none)(hv:Fc x=Ab u)(h:Q u s)
  (hn:x ≠ "__name__":=by decide) (hd:(x == ("__debug__" : Ap))=false:=by decide):Ao (As X.prog X.w) X.A (eval (.Name x pos) X.env) Q E s:=by
 obtain⟨mb,h1,h2⟩:=I.mod.blt;exact Qh I.ok.kind hg (Calls.loadGlobal_builtin (by rw[I.ok.glob];exact I.mod.glob.keeps I.bk) hm (by rw[I.ok.blt];exact h1.keeps I.bk) ((h2 x hn).trans hv) h) hd
theorem BD {x:Ap}{v:V}{pos:Fl}(hg:Gl X x)(hm:X.mg x=Ab u)(r:qL v u)(hd:(x == ("__debug__" : Ap))=false:=by decide):PE X (.Name x pos) (tC v):=
 λ_ _ _ H _ I h=>uK I hg hm ⟨v,H,I,r,h⟩ hd
theorem BC {x:Ap}{v:V}{pos:Fl}(hg:Gl X x)(hm:X.mg x=none)(hv:Fc x=Ab u)(r:qL v u)(hn:x ≠ "__name__":=by decide)(hd:(x == ("__debug__" : Ap))=false:=by decide):PE X (.Name x pos) (tC v):=
 λ_ _ _ H _ I h=>wF I hg hm hv ⟨v,H,I,r,h⟩ hn hd
variable {a b:Bw}{ta tb:TE}{pos:Fl}
variable {tA tB':TT}{rest:Aa Bw}
theorem BM (ha:PT X a tA):PW X (.BoolOp .And [a] pos) tA:=by
 intro wh pins s σ H Q I h;refine isTrue_and (thn (ha pins s σ H Q I h) λc s1 e=>?_);cases c with
 |true=>exact isTrue_and_nil e
 |false=>exact e
theorem D8 (ha:PT X a tA):PW X (.BoolOp .Or [a] pos) tA:=by
 intro wh pins s σ H Q I h;refine isTrue_or (thn (ha pins s σ H Q I h) λc s1 e=>?_);cases c with
 |false=>exact isTrue_or_nil e
 |true=>exact e
theorem LV {t:TE}(h:PE X a t):PE X (.BoolOp op [a] pos) t:=λpins s σ H Q I hw=>BoolOp_one (h pins s σ H Q I hw)
end
end _L
namespace _L
open PySem PySem.Spec PyProof.Rows
variable {es:Aa Bw}{K:Aj}{P:Bd}{tg:Bw}{w:Bz}
def SqL (K:Aj)(H:Hp)(a:Af)(xs:Aa V):Prop:=
 Rd H a (.lst xs) \/
  ∃ (o:Co) (its:Ax Ac) (n:Ai),K.lookup a=Ab o/\o.cls=.type "list" /\ o.dict=none/\o.data=.seq its n/\its.size<=sizeLine/\qK xs its.toList
def SqT (K:Aj)(H:Hp)(a:Af)(xs:Aa V):Prop:=
 Rd H a (.tup xs) \/
  ∃ (o:Co) (its:Ax Ac) (n:Ai),K.lookup a=Ab o/\o.cls=.type "tuple" /\ o.data=.seq its n/\its.size<=sizeLine/\qK xs its.toList
noncomputable def HY:Ac->Ak V
 |.none=>Ab .non
 |.bool b=>Ab (.bl b)
 |.int i _=>Ab (.int i)
 |.str x _=>Ab (.str x)
 |.bytes b _=>Ab (.byt b)
 |.float b _=>Ab (.flt b)
 |.ref a=>Ab (.ref a)
 |.type n=>Ab (.ty n)
 |_=>none
theorem qL.abs {x:V}{u:Ac}(r:qL x u):HY u=Ab x:=by
 cases x with
 |non=>cases r;rfl
 |bl _=>cases r;rfl
 |int _=>obtain⟨t,rfl⟩:=r;rfl
 |str _=>obtain⟨t,rfl⟩:=r;rfl
 |byt _=>obtain⟨t,rfl⟩:=r;rfl
 |flt _=>obtain⟨t,rfl⟩:=r;rfl
 |ref _=>cases r;rfl
 |ty _=>cases r;rfl
theorem qL.inj {x y:V}{u:Ac}(r:qL x u)(q:qL y u):x=y:=Ct (r.abs.symm.trans q.abs)
theorem qK.inj {xs ys:Aa V}{us:Aa Ac}(h:qK xs us)(k:qK ys us):xs=ys:=by
 induction h generalizing ys with
 |nil=>cases k;rfl
 |cons r t ih =>
  cases k with
  |cons r' t'=>rw[r.inj r',ih t']
section
variable {X:Cx}{pins:Aa (Af × Co)}{σ : St}{H:Hp}{s:Ag}{a:Af}{xs ys:Aa V}
theorem SqL.of (h:H a=Ab (.lst xs)):SqL K H a xs:=.inl (.inl h)
theorem SqT.of (h:H a=Ab (.tup xs)):SqT K H a xs:=.inl (.inl h)
theorem Inv.list (I:Inv X pins σ H s)(h:SqL X.K H a xs):∃ its:Aa Ac,qK xs its/\PlainL s.heap a its.toArray/\xs.length<=sizeLine:=by
 rcases h with h|⟨o,its,n,hk,hc,hd,hs,hz,r⟩
 .obtain⟨z,its,n,r,e⟩:=h.ok I.hok
  exact⟨its,r,⟨_,n,e,rfl,rfl,rfl⟩,z⟩
 .refine⟨its.toList,r,⟨o,n,I.kIn a o hk,hc,hd,by simpa using hs⟩,?_⟩
  have e:=r.length;simp only[Bg] at e
  lia
theorem Inv.tuple (I:Inv X pins σ H s)(h:SqT X.K H a xs):∃ its:Aa Ac,qK xs its/\Sm s.heap a its.toArray/\xs.length<=sizeLine:=by
 rcases h with h|⟨o,its,n,hk,hc,hs,hz,r⟩
 .obtain⟨z,its,r,p⟩:=h.ok I.hok
  exact⟨its,r,p,z⟩
 .refine⟨its.toList,r,⟨o,I.kIn a o hk,hc,n,by simpa using hs⟩,?_⟩
  have e:=r.length;simp only[Bg] at e
  lia
theorem Inv.list_inj (I:Inv X pins σ H s)(h:SqL X.K H a xs)(h':SqL X.K H a ys):xs=ys:=by
 obtain⟨its,r,⟨o,n,e,_,_,d⟩,_⟩:=I.list h;obtain⟨its',r',⟨o',n',e',_,_,d'⟩,_⟩:=I.list h';rw[e] at e';cases e';rw[d] at d';injection d' with d1 _
 have:its=its':=by simpa using congrArg AaA d1
 subst this;exact r.inj r'
theorem Inv.tuple_inj (I:Inv X pins σ H s)(h:SqT X.K H a xs)(h':SqT X.K H a ys):xs=ys:=by
 obtain⟨its,r,⟨o,e,_,n,d⟩,_⟩:=I.tuple h;obtain⟨its',r',⟨o',e',_,n',d'⟩,_⟩:=I.tuple h';rw[e] at e';cases e';rw[d] at d';injection d' with d1 _
 have:its=its':=by simpa using congrArg AaA d1
 subst this;exact r.inj r'
end
abbrev Cx.wish (X:Cx)(E:Ac->Ag->Prop):Cx:={ X with xe:=E }
abbrev Cx.nox (X:Cx):Cx:=X.wish λ_ _=>Fh
theorem Cx.Ok.wish {X:Cx}(ok:X.Ok)(E:Ac->Ag->Prop):(X.wish E).Ok:=
 ⟨ok.mod,ok.kind,ok.glob,ok.blt,ok.above,ok.inj,ok.has,ok.cab,ok.hd,ok.frames,ok.stk,ok.exf,ok.bs,ok.bsz,ok.noex,ok.exfs,ok.funs,ok.frf⟩
theorem Cx.Ok.unwish {X:Cx}{E:Ac->Ag->Prop}(ok:(X.wish E).Ok):X.Ok:=
 ⟨ok.mod,ok.kind,ok.glob,ok.blt,ok.above,ok.inj,ok.has,ok.cab,ok.hd,ok.frames,ok.stk,ok.exf,ok.bs,ok.bsz,ok.noex,ok.exfs,ok.funs,ok.frf⟩
section
variable {X:Cx}{pins:Aa (Af × Co)}{σ : St}{H:Hp}{s:Ag}{E:Ac->Ag->Prop}
theorem Inv.wish (I:Inv X pins σ H s)(E:Ac->Ag->Prop):Inv (X.wish E) pins σ H s:=⟨I.ok.wish E,I.os,I.bare,I.base,I.loc,I.cell,I.free,I.freeC,I.pin,I.hok,I.len⟩
theorem Inv.unwish (I:Inv (X.wish E) pins σ H s):Inv X pins σ H s:=⟨I.ok.unwish,I.os,I.bare,I.base,I.loc,I.cell,I.free,I.freeC,I.pin,I.hok,I.len⟩
theorem SP.unwish {D:Ends}{f:Flow}{s':Ag}(h:SP (X.wish E) pins D f s'):SP X pins D f s':=by
 cases f with
 |next=>obtain⟨σ',H',I,q⟩:=h;exact⟨σ',H',I.unwish,q⟩
 |brk=>obtain⟨σ',H',I,q⟩:=h;exact⟨σ',H',I.unwish,q⟩
 |cont=>obtain⟨σ',H',I,q⟩:=h;exact⟨σ',H',I.unwish,q⟩
 |ret u=>obtain⟨v,σ',H',I,r,q⟩:=h;exact⟨v,σ',H',I.unwish,r,q⟩
theorem PE.nox {e:Bw}{t:TE}(h:PE X.nox e t):PE X e t:=λpins s σ H Q I hw =>
 Hm (h pins s σ H Q (I.wish _) hw) (λ_ _ ⟨v,H',I',r,q⟩=>⟨v,H',I'.unwish,r,q⟩) λ_ _ z=>An z
theorem PT.nox {e:Bw}{t:TT}(h:PT X.nox e t):PT X e t:=λpins s σ H Q I hw =>
 Hm (h pins s σ H Q (I.wish _) hw) (λ_ _ ⟨H',I',q⟩=>⟨H',I'.unwish,q⟩) λ_ _ z=>An z
theorem PSs.nox {st:Aa Fj}{t:TS}(h:PSs X.nox st t):PSs X st t:=λpins s σ H D I hw =>
 Hm (h pins s σ H D (I.wish _) hw) (λ_ _ q=>q.unwish) λ_ _ z=>An z
end
section
variable {X:Cx}{st:Fj}{rest:Aa Fj}{t u:TS}{e:Bw}{te:TE}{pos:Fl}
def HA:TS:=λD σ H=>D.nx σ H
def AH (t u:TS):TS:=λD σ H=>t { D with nx:=u D } σ H
theorem BK:PSs X [] HA:=λ_ _ σ H _ I h=>OR ⟨σ,H,I,h⟩
theorem VJ (h1:PS X st t)(h2:PSs X rest u):PSs X (st::rest) (AH t u):=by
 intro pins s σ H D I h;refine Yj (thn (h1 pins s σ H { D with nx:=u D } I h) λf s1 q=>?_)
 cases f with
 |next =>
  obtain⟨σ',H',I',q⟩:=q;exact h2 pins s1 σ' H' D I' q
 |ret v=>exact q
 |brk=>exact q
 |cont=>exact q
theorem BL (h1:PS X st t):PSs X [st] t:=by
 intro pins s σ H D I h;refine Yj (thn (h1 pins s σ H D I h) λf s1 q=>?_);cases f with
 |next=>exact OR q
 |ret v=>exact q
 |brk=>exact q
 |cont=>exact q
theorem Inv.quiet {pins:Aa (Af × Co)}{σ:St}{H:Hp}{s:Ag}(I:Inv X pins σ H s):interactive X.env=false:=by simp[interactive,I.ok.kind]
end
abbrev TG:=V->St->Hp->(St->Hp->Prop)->Prop
abbrev TGs:=Aa V->St->Hp->(St->Hp->Prop)->Prop
def PG (X:Cx)(target:Bw)(t:TG):Prop:=
 ∀ (pins:Aa (Af × Co)) (s:Ag) (σ : St) (H:Hp) (v:V) (u:Ac) (Q:St->Hp->Prop),Inv X pins σ H s->qL v u->t v σ H Q ->
  Ao (As X.prog X.w) X.A (assign target X.env u) (λ_ s'=>∃ σ' H',Inv X pins σ' H' s'/\Q σ' H') X.xe s
def PGs (X:Cx)(ts:Aa Bw)(t:TGs):Prop:=
 ∀ (pins:Aa (Af × Co)) (s:Ag) (σ : St) (H:Hp) (vs:Aa V) (us:Aa Ac) (Q:St->Hp->Prop),Inv X pins σ H s->qK vs us->t vs σ H Q ->
  Ao (As X.prog X.w) X.A (Vm ((Hc ts X.env).map (·.2)) us) (λ_ s'=>∃ σ' H',Inv X pins σ' H' s'/\Q σ' H') X.xe s
abbrev M1:=V->V->V->Hp->(Hp->Prop)->Prop
def dJ (X:Cx)(t:M1):Prop:=
 ∀ (pins:Aa (Af × Co)) (s:Ag) (σ : St) (H:Hp) (o i v:V) (ov iv u:Ac) (Q:Hp->Prop),Inv X pins σ H s->qL o ov->qL i iv->qL v u->t o i v H Q ->
  Ao (As X.prog X.w) X.A (setItem ov iv u) (λ_ s'=>∃ H',Inv X pins σ H' s'/\Q H') X.xe s
section
variable {X:Cx}{pos:Fl}
def RO (i:Ai):TG:=λv σ H Q=>Q (σ.set i (Ab v)) H
theorem BE {i:Ai}{x:Ap}(hN:X.N.Nodup)(hi:X.N[i]? = Ab x)(hx:Loc X.env.scope x)(hf:X.fn x=true\/X.env.scope.names.lookup x=Ab .local:=by first|exact .inl rfl|exact .inr rfl|assumption):PG X (.Name x pos) (RO i):=by
 intro pins s σ H v u Q I r h;exact Xm (jI I hN hi hx r (λs' I'=>⟨_,H,I',h⟩) hf)
def CN:TGs:=λvs σ H Q=>vs=[]/\Q σ H
def RN (t:TG)(u:TGs):TGs:=λvs σ H Q=>∃ v r,vs=v::r/\t v σ H λσ' H'=>u r σ' H' Q
theorem BF:PGs X [] CN:=by
 intro pins s σ H vs us Q I r h;obtain⟨e,h⟩:=h;subst e;cases r;exact Xn ⟨σ,H,I,h⟩
theorem VH {e:Bw}{t:TG}{u:TGs}(h1:PG X e t)(h2:PGs X es u)
  (hs:(Hc (e::es) X.env).map (·.2)=assign e X.env::(Hc es X.env).map (·.2):=by rfl):PGs X (e::es) (RN t u):=by
 intro pins s σ H vs us Q I r h;obtain⟨v,vr,e1,h⟩:=h;subst e1;cases r with
 |cons r rr =>
  rw[hs];refine Qb (thn (h1 pins s σ H _ _ _ I r h) λ_ s1 ⟨σ1,H1,I1,q1⟩=>?_);exact h2 pins s1 σ1 H1 _ _ Q I1 rr q1
def CO (K:Aj)(n:Ai)(t:TGs):TG:=λv σ H Q=>∃ a xs,v=.ref a/\SqT K H a xs/\xs.length=n/\t xs σ H Q
theorem LZ {k:Ai}{t:TGs}{n:Ai}(hc:X.calm=true)(h:PGs X es t)
  (hn:(Hc es X.env).length=n:=by rfl) (hst:(Hc es X.env).findIdx? (·.1)=none:=by rfl):PG X (.Tuple es k pos) (CO X.K n t):=by
 intro pins s σ H v u Q I r hw;obtain⟨a,xs,e1,hq,hl,hw⟩:=hw;subst e1;cases r;obtain⟨its,rv,ht,hz⟩:=I.tuple hq;refine assign_Tuple_tuple (I.ok.hd hc) ht (by simp[hn,<- hl,rv.length]) hst λh' hx=>?_
 have I1:Inv X pins σ H { s with heap:=h' }:=I.kept (t':=s.toks) λb o e=>hx b o (Ci (Ay e)) e
 exact h pins _ σ H xs _ Q I1 (by simpa using rv) hw
def AG (i j:Ai)(ta:TA):TS:=λD σ H=>ta σ H λvs H1=>∃ v w,vs=[v,w]/\D.nx ((σ.set i (Ab v)).set j (Ab w)) H1
theorem D5 {i j:Ai}{x y:Ap}{a b:Bw}{ta:TA}{px py pt:Fl} {kt k2 pt2} (hc:X.calm=true) (hN:X.N.Nodup) (hi:X.N[i]? = Ab x) (hj:X.N[j]? = Ab y) (hij:i≠j)
  (hx:X.env.scope.names.lookup x=Ab .local) (hy:X.env.scope.names.lookup y=Ab .local) (ha:PA X [a,b] ta)
  (hw:Lv [.Tuple [.Name x px,.Name y py] kt pt] (.Tuple [a,b] k2 pt2) X.env=pure (Ab [x,y]))
  (hs:Lw [.Tuple [.Name x px,.Name y py] kt pt] (.Tuple [a,b] k2 pt2) pos.line X.env=pure false:=by rfl) :
  PS X (.Assign [.Tuple [.Name x px,.Name y py] kt pt] (.Tuple [a,b] k2 pt2) pos) (AG i j ta):=by
 intro pins s σ H D I h;rw[exec_Assign_arm];refine Ad (Lx ?_);rw[hs];refine Ad (Am ?_);rw[Bm (by decide)]
 refine Ad (Tuple_ (thn (ha _ pins s σ H _ I h) λus s1 ⟨vs,H1,I1,r1,q1⟩=>?_));obtain⟨v,w,e1,q1⟩:=q1;subst e1;obtain⟨u1,u2,rfl,rv,rw'⟩:∃ u1 u2,us=[u1,u2]/\qL v u1/\qL w u2:=by
  cases r1 with
  |cons p q =>
   cases q with
   |cons p' q' =>
    cases q';exact⟨_,_,rfl,p,p'⟩
 refine Eo ?_ (by show 2<=sizeLine;decide)
 have I2:Inv X pins σ H1 { s1 with heap:=s1.heap.push { cls:=.type "tuple",data:=.seq [u1,u2].toArray } }:=I1.kept (t':=s1.toks) λb o e=>Ah _ e
 rw[hw];refine Ad (Am ?_);show Ao (As X.prog X.w) X.A (do rule "assign.swapped-stores";let items <- unpackItems (.ref s1.heap.objs.size) 2 none;Vm [λv=>Wi X.env y v,λv=>Wi X.env x v] items.reverse;pure Flow.next) _ _ _
 refine Ad (Hd (Ad (unpackItems_tuple (items:=#[u1,u2]) (I.ok.hd hc) (Uc s1.heap _) λh' hx'=>?_)));have I3:=I2.kept (h':=h') (t':=s1.toks) λb o e=>hx' b o (Ci (Ay e)) e;show Ao _ _ (Vm [λv=>Wi X.env y v,λv=>Wi X.env x v] [u2,u1] >>= λ_=>pure Flow.next) _ _ _;refine Ad (Qb (wpAny_bindName (jI I3 hN hj (.inl hy) rw' (λs2 I4=>?_) (.inr hy))));refine Qb (wpAny_bindName (jI I4 hN hi (.inl hx) rv (λs3 I5=>Xn (Am ?_)) (.inr hx)));rw[List.set_comm _ _ (Gb hij)] at I5;exact⟨_,H1,I5,q1⟩
end
structure It where
 go:Ai->Hp->Prop
 yld:Ai->Hp->V->Hp->Prop
 stop:Ai->Hp->Prop
def xC (X:Cx)(pins:Aa (Af × Co))(H:Hp)(b:Af):Prop:=
 H b=none/\b≠X.env.locals/\b ∉ X.fs/\(b∈X.ex\/X.s₀.heap.objs.size<=b)/\(∀ x c,X.env.cells.lookup x=Ab c->c≠b)/\∀ p∈X.pn++pins,p.1≠b
theorem Inv.fpOk {X:Cx}{pins:Aa (Af × Co)}{σ:St}{H H':Hp}{s:Ag}{b:Af}(I:Inv X pins σ H s)(hb:s.heap.objs.size<=b)(hn:H' b=none):xC X pins H' b:=by
 refine⟨hn,Gi (Bb I.lt hb),I.nofs hb,.inr (DL I.sz hb),λx c e z=>?_,λp hp z=>?_⟩
 .obtain⟨v,q⟩:=I.cell x c e
  exact absurd (Bb q.lt (by rw[z];exact hb)) (Et _)
 .exact absurd (Bb (Ay (I.pin p hp).1) (by rw[z];exact hb)) (Et _)
structure Turn (P:Bd)(w:Bz)(K:Aj)(tg:Bw)(J:It)(fp:Aa Af)(it:Af)(tn:Ai->Bq->Prop):Prop where
 mem:it∈fp
 obj:∀ i h,tn i h->∀ b∈fp,∃ o,h.get? b=Ab o/\∀ v,o.data≠.cell v
 keep:∀ i h h',tn i h->(∀ b∈fp,∀ o,h.get? b=Ab o->h'.get? b=Ab o)->tn i h'
 item:∀ (X:Cx),X.prog=P->X.w=w->X.K=K->X.calm=true->∀ (i:Ai) (pins:Aa (Af × Co)) (s:Ag) (σ : St) (H:Hp) (E:Ac->Ag->Prop),Inv X pins σ H s->(∀ b∈fp,xC X pins H b)->tn i s.heap->J.go i H ->
  Ao (As P w) X.A (Nl (.ref it)) (λr s1=>∃ u,r=Ab u /\
   Ao (As P w) X.A (Kn tg (.ref it) u) (λ_ s2=>∃ x H',Inv X pins σ H' s2/\qL x u/\J.yld i H x H'/\tn (i+1) s2.heap/\∀ b∈fp,H' b=none) E s1) E s
 done:∀ (X:Cx),X.prog=P->X.w=w->X.K=K->X.calm=true->∀ (i:Ai) (pins:Aa (Af × Co)) (s:Ag) (σ : St) (H:Hp) (E:Ac->Ag->Prop),Inv X pins σ H s->(∀ b∈fp,xC X pins H b)->tn i s.heap->J.stop i H ->
  Ao (As P w) X.A (Nl (.ref it)) (λr s1=>r=none/\Inv X pins σ H s1) E s
 self:∀ (A:Bt) (i:Ai) (s:Ag) (Q:Ac->Ag->Prop) (E:Ac->Ag->Prop),tn i s.heap->Q (.ref it) s->Ao (As P w) A (Og (.ref it)) Q E s
abbrev TI:=St->Hp->(It->Hp->Prop)->Prop
inductive PIE (X:Cx)(pins:Aa (Af × Co))(σ : St)(tg:Bw)(R:It->Hp->Prop)(itv:Ac)(s2:Ag):Prop
 |mk (it:Af) (fp:Aa Af) (tn:Ai->Bq->Prop) (J:It) (H':Hp) (e:itv=.ref it) (I:Inv X pins σ H' s2) (t:Turn X.prog X.w X.K tg J fp it tn) (z:tn 0 s2.heap) (f:∀ b∈fp,xC X pins H' b) (q:R J H'):PIE X pins σ tg R itv s2
def PI (X:Cx)(tg iter:Bw)(wi:TI):Prop:=
 ∀ (pins:Aa (Af × Co)) (s:Ag) (σ : St) (H:Hp) (R:It->Hp->Prop),Inv X pins σ H s->wi σ H R ->
  Ao (As X.prog X.w) X.A (eval iter X.env) (λv s1=>Ao (As X.prog X.w) X.A (Og v) (PIE X pins σ tg R) X.xe s1) X.xe s
theorem d0 {M:Kz}{A:Bt}{E:Ac->Ag->Prop}{s:Ag}{it:Af}{u:Ac}{o:Co}{n:Dx}{vs:Ax Ac}{Q:Qv->Ag->Prop}(ho:s.heap.get? it=Ab o)(hc:o.cls=.type n)(hd:o.data=.fields vs)
    (hn:["enumerate","zip","dict_itemiterator","dict_reverseitemiterator","odict_iterator","itertools.zip_longest","itertools.pairwise"].contains n=false) (hQ:Q () s):Ao M A (Kn tg (.ref it) u) Q E s:=by
  unfold Kn;cases tg <;> first
    |exact Am hQ
    |(cases u <;> first
        |exact Am hQ
        | (refine Ad (Zw ho ?_)
           rw[hc,hd];show Ao M A (if (["enumerate","zip","dict_itemiterator","dict_reverseitemiterator","odict_iterator","itertools.zip_longest","itertools.pairwise"].contains n&&vs[0]? == Ab (Gj _))=true then _ else _) Q E s
           rw[Bm (by intro h;rw[hn,Fm] at h;cases h)]
           exact Am hQ))
noncomputable def Itl (K:Aj)(a:Af):It:=
 ⟨λi H=>∃ xs x,SqL K H a xs/\xs[i]? = Ab x,λi H x H'=>H'=H/\∀ xs,SqL K H a xs->xs[i]? = Ab x,λi H=>∃ xs,SqL K H a xs/\xs.length<=i⟩
noncomputable def Itt (K:Aj)(a:Af):It:=
 ⟨λi H=>∃ xs x,SqT K H a xs/\xs[i]? = Ab x,λi H x H'=>H'=H/\∀ xs,SqT K H a xs->xs[i]? = Ab x,λi H=>∃ xs,SqT K H a xs/\xs.length<=i⟩
noncomputable def Itr (lo:Al)(n:Ai):It:=⟨λi _=>i<n,λi H x H'=>H'=H/\x=.int (lo+i),λi _=>n<=i⟩
theorem lN (a it:Af):Turn P w K tg (Itl K a) [it] it (λi h=>h.IsListIter it a i) where
 mem:=by simp
 obj:=λi h st b hb=>by
  have e:b=it:=by simpa using hb
  subst e;obtain⟨o,e,c,d⟩:=st;exact⟨o,e,λv z=>by rw[d] at z;cases z⟩
 keep:=λi h h' st k=>st.at λo e=>k it (by simp) o e
 item:=by
  intro X hP hw hK hc i pins s σ H E I hf st hg;subst hP hw hK;obtain⟨xs,x,hq,hx⟩:=hg;obtain⟨its,rv,p,hz⟩:=I.list hq;obtain⟨u,hu,ru⟩:=rv.get hx;obtain⟨f0,f1,f2,f3,f4,f5⟩:=hf it (by simp)
  refine wpAny_pyNext_list_item st p.isList (x:=u) (by simpa using hu) λh' st' sb=>?_
  have I1:Inv X pins σ H { s with heap:=h' }:=I.turned (t':=s.toks) (λb o hb e=>(sb.2 b hb).trans e) f0 f1 f3 f4 f5
  obtain⟨o,e,c,d⟩:=id st';exact⟨u,rfl,d0 (s:={ s with heap:=h' }) e c d (by decide) ⟨x,H,I1,ru,⟨rfl,λys hy=>by rw[I.list_inj hy hq];exact hx⟩,st',λb hb=>(hf b hb).1⟩⟩
 done:=by
  intro X hP hw hK hc i pins s σ H E I hf st hg;subst hP hw hK;obtain⟨xs,hq,hx⟩:=hg;obtain⟨its,rv,p,hz⟩:=I.list hq;obtain⟨f0,f1,f2,f3,f4,f5⟩:=hf it (by simp)
  have hl:=rv.length;exact wpAny_pyNext_list_end (I.ok.hd hc) st p.isList (by simp;lia) λh' eb=>⟨rfl,I.turned (t':=s.toks) (λb o hb e=>eb b o hb e) f0 f1 f3 f4 f5⟩
 self:=λ_ _ _ _ _ st h=>wpAny_pyIter_listiter st h
theorem oM (a it:Af):Turn P w K tg (Itt K a) [it] it (λi h=>h.IsTupleIter it a i) where
 mem:=by simp
 obj:=λi h st b hb=>by
  have e:b=it:=by simpa using hb
  subst e;obtain⟨o,e,c,d⟩:=st;exact⟨o,e,λv z=>by rw[d] at z;cases z⟩
 keep:=λi h h' st k=>st.at λo e=>k it (by simp) o e
 item:=by
  intro X hP hw hK hc i pins s σ H E I hf st hg;subst hP hw hK;obtain⟨xs,x,hq,hx⟩:=hg;obtain⟨its,rv,p,hz⟩:=I.tuple hq;obtain⟨u,hu,ru⟩:=rv.get hx;obtain⟨f0,f1,f2,f3,f4,f5⟩:=hf it (by simp)
  refine wpAny_pyNext_tuple_item st (show s.heap.IsTuple a its.toArray from p) (x:=u) (by simpa using hu) λh' st' sb=>?_
  have I1:Inv X pins σ H { s with heap:=h' }:=I.turned (t':=s.toks) (λb o hb e=>(sb.2 b hb).trans e) f0 f1 f3 f4 f5
  obtain⟨o,e,c,d⟩:=id st';exact⟨u,rfl,d0 (s:={ s with heap:=h' }) e c d (by decide) ⟨x,H,I1,ru,⟨rfl,λys hy=>by rw[I.tuple_inj hy hq];exact hx⟩,st',λb hb=>(hf b hb).1⟩⟩
 done:=by
  intro X hP hw hK hc i pins s σ H E I hf st hg;subst hP hw hK;obtain⟨xs,hq,hx⟩:=hg;obtain⟨its,rv,p,hz⟩:=I.tuple hq;obtain⟨f0,f1,f2,f3,f4,f5⟩:=hf it (by simp)
  have hl:=rv.length;exact wpAny_pyNext_tuple_end (I.ok.hd hc) st (show s.heap.IsTuple a its.toArray from p) (by simp;lia) λh' eb=>⟨rfl,I.turned (t':=s.toks) (λb o hb e=>eb b o hb e) f0 f1 f3 f4 f5⟩
 self:=λ_ _ _ _ _ st h=>wpAny_pyIter_tupleiter st h
theorem oK (it:Af)(lo:Al)(n:Ai):Turn P w K tg (Itr lo n) [it] it (λi h=>IsRangeIter h it (lo+(i:Ai)*1) ((n:Al)-(i:Ai)) 1) where
 mem:=by simp
 obj:=λi h st b hb=>by
  have e:b=it:=by simpa using hb
  subst e;exact⟨_,st,λv z=>by
   have z':Data.fields _=Data.cell v:=z;cases z'⟩
 keep:=λi h h' st k=>k it (by simp) _ st
 item:=by
  intro X hP hw hK hc i pins s σ H E I hf st hg;subst hP hw hK;obtain⟨f0,f1,f2,f3,f4,f5⟩:=hf it (by simp)
  have W:=Walks.range (prog:=X.prog) (w:=X.w) (I.ok.hd hc) it lo 1 n;refine W.item i s _ _ hg st λv h' tk hv st' kk=>?_;obtain⟨t,rfl⟩:=hv;have I1:Inv X pins σ H { s with heap:=h',toks:=tk }:=I.turned (λb o hb e=>kk b o (by simpa using hb) e) f0 f1 f3 f4 f5
  refine⟨_,rfl,d0 (s:={ s with heap:=h',toks:=tk }) (n:="range_iterator") st' rfl rfl (by decide) ⟨.int (lo+i),H,I1,⟨t,?_⟩,⟨rfl,rfl⟩,st',λb hb=>(hf b hb).1⟩⟩
  rw[Int.mul_one]
 done:=by
  intro X hP hw hK hc i pins s σ H E I hf st hg;subst hP hw hK;obtain⟨f0,f1,f2,f3,f4,f5⟩:=hf it (by simp)
  exact wpAny_pyNext_range_end (I.ok.hd hc) st (by have:n<=i:=hg;lia) λh' eb=>⟨rfl,I.turned (t':=s.toks) (λb o hb e=>eb b o hb e) f0 f1 f3 f4 f5⟩
 self:=λ_ _ _ _ _ st h=>wpAny_pyIter_rangeiter st h
end _L
namespace _L
open PySem PySem.Spec PyProof.Rows
variable {pins:Aa (Af × Co)}{fp:Aa Af}{s:Ag}{H:Hp}{σ:St}
section
variable {X:Cx}{tg:Bw}
theorem rJ {R:It->Hp->Prop}{E:Ac->Ag->Prop}{lo hi:Al}{t u v:Qt}{tk:Ai}(I:Inv X pins σ H s)(h1 : -(2 ^ 62)<=lo)(h2:lo<2 ^ 62)(h3 : -(2 ^ 62)<=hi)(h4:hi<2 ^ 62)
  (q:R (Itr lo (hi-lo).toNat) H):Ao (As X.prog X.w) X.A (Og (.ref s.heap.objs.size)) (PIE X pins σ tg R) E { s with heap:=s.heap.push { cls:=.type "range",data:=.fields #[.int lo t,.int hi u,.int 1 v] },toks:=tk }:=by
 refine wpAny_pyIter_range (Yk ..) (small_one h1 h2 h3 h4) ?_;have I1:Inv X pins σ H { s with heap:=s.heap.push { cls:=.type "range",data:=.fields #[.int lo t,.int hi u,.int 1 v] },toks:=tk }:=I.kept λb o e=>Ah _ e
 refine⟨(s.heap.push { cls:=.type "range",data:=.fields #[.int lo t,.int hi u,.int 1 v] }).objs.size,[(s.heap.push { cls:=.type "range",data:=.fields #[.int lo t,.int hi u,.int 1 v] }).objs.size],_,_,H,rfl,
  I1.kept (t':=tk) λb o e=>Ah _ e,oK _ lo (hi-lo).toNat,?_,λb hb=>?_,q⟩
 .have e1:lo+((0:Ai):Al)*1=lo:=by simp
  have e2:(((hi-lo).toNat:Ai):Al)-((0:Ai):Al)=Ik lo hi 1:=by rw[rangeSize_one];split <;> lia
  show IsRangeIter _ _ (lo+((0:Ai):Al)*1) ((((hi-lo).toNat:Ai):Al)-((0:Ai):Al)) 1;rw[e1,e2];exact Ba _ rfl
 .have e:b=(s.heap.push { cls:=.type "range",data:=.fields #[.int lo t,.int hi u,.int 1 v] }).objs.size:=by simpa using hb
  subst e;exact I1.fpOk (Au _) (I1.hok.fresh (Au _))
def AD (wi:TI)(g:TG)(tb:TS):TS:=λD σ H=>wi σ H λJ H1=>∃ W:Ai->Ai->St->Hp->Prop,(∃ m,W 0 m σ H1)/\∀ i m σ H,W i m σ H ->
 (J.stop i H/\D.nx σ H)\/(J.go i H/\∃ N:St->Hp->Prop,(∀ σ' H',N σ' H'->∃ m',m'<m/\W (i+1) m' σ' H')/\∀ x H',J.yld i H x H'->g x σ H' λσ2 H2=>tb { D with nx:=N,ct:=N,bk:=D.nx } σ2 H2)
noncomputable def vA (fp:Aa Af)(h:Bq):Aa (Af × Co):=fp.filterMap λb=>(h.get? b).map λo=>(b,o)
theorem uF {h:Bq}{b:Af}{o:Co}(hb:b∈fp)(e:h.get? b=Ab o):(b,o)∈vA fp h:=Jb.mpr ⟨b,hb,by rw[e];rfl⟩
theorem lD {h:Bq}{p:Af × Co}(hp:p∈vA fp h):p.1∈fp/\h.get? p.1=Ab p.2:=by
 obtain⟨b,hb,e⟩:=Jb.mp hp;cases q:h.get? b with
 |none=>rw[q] at e;cases e
 |some o =>
  rw[q] at e;have e':(b,o)=p:=Ct e;subst e';exact⟨hb,q⟩
theorem Inv.pinned (I:Inv X pins σ H s)(hf:∀ b∈fp,xC X pins H b)(ho:∀ b∈fp,∃ o,s.heap.get? b=Ab o/\∀ v,o.data≠.cell v):Inv X (pins++vA fp s.heap) σ H s:=
 I.pins_of λp hp=>(Cq.mp hp).elim (λz=>I.pin p (Bx _ z)) λz=>by
  obtain⟨hb,e⟩:=lD z;obtain⟨f0,f1,f2,_⟩:=hf p.1 hb;obtain⟨o,e',d⟩:=ho p.1 hb;rw[e] at e';cases e';exact⟨e,f0,f1,f2,d⟩
theorem Inv.unpinned {pl:Aa (Af × Co)}(I:Inv X (pins++pl) σ H s):Inv X pins σ H s:=I.pins_of λp hp=>I.pin p (Bx _ (Df _ hp))
inductive ForI (X:Cx)(pins:Aa (Af × Co))(fp:Aa Af)(tn:Ai->Bq->Prop)(W:Ai->Ai->St->Hp->Prop)(n:Ai)(s':Ag):Prop
 |mk (i:Ai) (σ' : St) (H':Hp) (I:Inv X pins σ' H' s') (t:tn i s'.heap) (f:∀ b∈fp,H' b=none) (w:W i n σ' H'):ForI X pins fp tn W n s'
theorem D4 {iter:Bw}{body:Aa Fj}{wi:TI}{g:TG}{tb:TS}{pos:Fl}(hp:Ud (As X.prog X.w) X.A X.env X.xe)(hc:X.calm=true)(hi:PI X tg iter wi)(hg:PG X tg g)(hb:PSs X body tb)
  (hs:∀ x,Ey iter X.env x=pure x:=by intro _;rfl):PS X (.For tg iter body [] pos) (AD wi g tb):=by
 intro pins s σ H D I h;refine wpAny_For (thn (hi pins s σ H _ I h) λv s1 h1=>thn h1 λitv s2 h2=>?_) hs;obtain⟨it,fp,tn,J,H2,e,I2,T,st2,f2,W,⟨m0,w0⟩,turn⟩:=h2;subst e;have stat:∀ {H':Hp},(∀ b∈fp,H' b=none)->∀ b∈fp,xC X pins H' b:=λhn b hb=>⟨hn b hb,(f2 b hb).2⟩;refine codeAny_forLoop_any (ForI X pins fp tn W) ?_ m0 ⟨0,σ,H2,I2,st2,λb hb=>(f2 b hb).1,w0⟩;rintro n s3 ⟨i,σ3,H3,I3,st3,fr3,w3⟩;rcases turn i n σ3 H3 w3 with⟨stop,qn⟩|⟨go,N,hN,step⟩
 .refine Mj hp (thn (T.done X rfl rfl rfl hc i pins s3 σ3 H3 X.xe I3 (stat fr3) st3 stop) λr s4 ⟨hr,I4⟩=>?_)
  subst hr;exact OR ⟨σ3,H3,I4,qn⟩
 .refine Mj hp (thn (T.item X rfl rfl rfl hc i pins s3 σ3 H3 X.xe I3 (stat fr3) st3 go) λr s4 ⟨u,hr,h4⟩=>?_)
  subst hr;refine Mj hp (thn h4 λ_ s5 ⟨x,H5,I5,r5,y5,st5,fr5⟩=>?_);have I5':=I5.pinned (stat fr5) (T.obj _ _ st5);refine Mj hp (thn (hg _ s5 σ3 H5 x u _ I5' r5 (step x H5 y5)) λ_ s6 ⟨σ6,H6,I6,q6⟩=>?_);refine Mj hp (thn (hb _ s6 σ6 H6 _ I6 q6) λf s7 q7=>?_);have again:∀ {σ7:St} {H7:Hp},Inv X (pins++vA fp s5.heap) σ7 H7 s7->N σ7 H7->∃ m,m<n/\ForI X pins fp tn W m s7:=λ{σ7 H7} I7 n7=>by
   obtain⟨m',hm,w7⟩:=hN σ7 H7 n7;refine⟨m',hm,i+1,σ7,H7,I7.unpinned,T.keep _ _ _ st5 λb hb o e=>(I7.pin (b,o) (Bx _ (Bx _ (uF hb e)))).1,λb hb=>?_,w7⟩;obtain⟨o,e,d⟩:=T.obj _ _ st5 b hb;exact(I7.pin (b,o) (Bx _ (Bx _ (uF hb e)))).2.1
  cases f with
  |next=>obtain⟨σ7,H7,I7,n7⟩:=q7;exact again I7 n7
  |cont=>obtain⟨σ7,H7,I7,n7⟩:=q7;exact again I7 n7
  |brk=>obtain⟨σ7,H7,I7,q7⟩:=q7;exact⟨σ7,H7,I7.unpinned,q7⟩
  |ret v=>obtain⟨x7,σ7,H7,I7,r7,q7⟩:=q7;exact⟨x7,σ7,H7,I7.unpinned,r7,q7⟩
end
end _L
namespace _L
open PySem PySem.Spec PyProof.Rows
variable {us:Aa Ac}{f:Ac->Ac->Ky Ac}{g:Al->Al->Al}
abbrev R2:=V->V->Hp->VK->Prop
def OpR (X:Cx)(f:Ac->Ac->Ky Ac)(r:R2):Prop:=
 ∀ (pins:Aa (Af × Co)) (s:Ag) (σ : St) (H:Hp) (x y:V) (v u:Ac) (Q:VK),Inv X pins σ H s->qL x v->qL y u->r x y H Q ->
  Ao (As X.prog X.w) X.A (f v u) (EP X pins σ Q) X.xe s
def UnR (X:Cx)(f:Ac->Ky Ac)(r:V->Hp->VK->Prop):Prop:=
 ∀ (pins:Aa (Af × Co)) (s:Ag) (σ : St) (H:Hp) (x:V) (v:Ac) (Q:VK),Inv X pins σ H s->qL x v->r x H Q ->
  Ao (As X.prog X.w) X.A (f v) (EP X pins σ Q) X.xe s
def jK (X:Cx)(f:Ac)(r:Aa V->Hp->VK->Prop):Prop:=
 ∀ (pins:Aa (Af × Co)) (s:Ag) (σ : St) (H:Hp) (xs:Aa V) (us:Aa Ac) (Q:VK),Inv X pins σ H s->qK xs us->r xs H Q ->
  Ao (As X.prog X.w) X.A (call f us) (EP X pins σ Q) X.xe s
def HW (X:Cx)(r:V->Hp->(Aq->Hp->Prop)->Prop):Prop:=
 ∀ (pins:Aa (Af × Co)) (s:Ag) (σ : St) (H:Hp) (x:V) (v:Ac) (Q:Aq->Hp->Prop),Inv X pins σ H s->qL x v->r x H Q ->
  Ao (As X.prog X.w) X.A (truthy v) (TP X pins σ Q) X.xe s
def tOp (r:R2)(ta tb:TE):TE:=λσ H Q=>ta σ H λx H1=>tb σ H1 λy H2=>r x y H2 Q
def rI (C:Al->Al->Prop)(g:Al->Al->V):R2:=λx y H Q=>∃ i j,x=.int i/\y=.int j/\C i j/\Q (g i j) H
def rI0 (g:Al->Al->V):R2:=λx y H Q=>∃ i j,x=.int i/\y=.int j/\Q (g i j) H
def rU (g:Al->V):V->Hp->VK->Prop:=λx H Q=>∃ i,x=.int i/\Q (g i) H
section
variable {X:Cx}{a b c:Bw}{ta tb tc:TE}{pos:Fl}
theorem CC (ha:PE X a ta)(hb:PE X b tb){pins:Aa (Af × Co)}{s:Ag}{σ : St}{H:Hp}{R:V->V->Hp->Prop}(I:Inv X pins σ H s)
  (h:ta σ H λx H1=>tb σ H1 λy H2=>R x y H2) {Q:Ac->Ag->Prop} {f:Ac->Ac->Ky Ac}
  (hf:∀ v u s2 x y H2,Inv X pins σ H2 s2->qL x v->qL y u->R x y H2->Ao (As X.prog X.w) X.A (f v u) Q X.xe s2) :
  Ao (As X.prog X.w) X.A (eval a X.env) (λv s₁=>Ao (As X.prog X.w) X.A (eval b X.env) (λu s₂=>Ao (As X.prog X.w) X.A (f v u) Q X.xe s₂) X.xe s₁) X.xe s:=by
 refine thn (ha pins s σ H _ I h) λv s1 ⟨x,H1,I1,r1,q1⟩=>?_;refine thn (hb pins s1 σ H1 _ I1 q1) λu s2 ⟨y,H2,I2,r2,q2⟩=>?_;exact hf v u s2 x y H2 I2 r1 r2 q2
theorem opI {f:Ac->Ac->Ky Ac}{C:Al->Al->Prop}
  (rule:∀ (i j:Al) (t u:Qt) (s:Ag) (Q:Ac->Ag->Prop) (E:Ac->Ag->Prop),C i j->Q (.int (g i j) s.toks) { s with toks:=s.toks+1 } -> Ao (As X.prog X.w) X.A (f (.int i t) (.int j u)) Q E s) :
  OpR X f (rI C λi j=>.int (g i j)):=by
 intro pins s σ H x y v u Q I rx ry h;obtain⟨i,j,rfl,rfl,hc,q⟩:=h;obtain⟨t,rfl⟩:=rx;obtain⟨t',rfl⟩:=ry;exact rule i j t t' s _ _ hc ⟨.int (g i j),H,I.tok _,⟨_,rfl⟩,q⟩
theorem LJ {f:Ac->Ac->Ky Ac}
  (rule:∀ (i j:Al) (t u:Qt) (s:Ag) (Q:Ac->Ag->Prop) (E:Ac->Ag->Prop),Q (.int (g i j) s.toks) { s with toks:=s.toks+1 } -> Ao (As X.prog X.w) X.A (f (.int i t) (.int j u)) Q E s) :
  OpR X f (rI0 λi j=>.int (g i j)):=by
 intro pins s σ H x y v u Q I rx ry h;obtain⟨i,j,rfl,rfl,q⟩:=h;obtain⟨t,rfl⟩:=rx;obtain⟨t',rfl⟩:=ry;exact rule i j t t' s _ _ ⟨.int (g i j),H,I.tok _,⟨_,rfl⟩,q⟩
theorem o7 {g:Al->Al->Aq}
  (rule:∀ (i j:Al) (t u:Qt) (s:Ag) (Q:Ac->Ag->Prop) (E:Ac->Ag->Prop),Q (.bool (g i j)) s->Ao (As X.prog X.w) X.A (f (.int i t) (.int j u)) Q E s) :
  OpR X f (rI0 λi j=>.bl (g i j)):=by
 intro pins s σ H x y v u Q I rx ry h;obtain⟨i,j,rfl,rfl,q⟩:=h;obtain⟨t,rfl⟩:=rx;obtain⟨t',rfl⟩:=ry;exact rule i j t t' s _ _ ⟨.bl (g i j),H,I,rfl,q⟩
def HS (i j:Al):Prop:=0<j/\j<1073741824
def HU (i j:Al):Prop:=0<=j/\j<=1000000/\i.natAbs<2 ^ 64
def W8 (i j:Al):Prop:=(-(2 ^ 64)<i/\i<2 ^ 64)\/(-(2 ^ 64)<j/\j<2 ^ 64)
theorem W8.ok {i j:Al}(h:W8 i j):IntMulOk i j:=by
 rcases h with⟨h1,h2⟩|⟨h1,h2⟩
 .exact .of_left (intBits_le_64 h1 h2)
 .exact .of_right (intBits_le_64 h1 h2)
theorem LK:OpR X (Fa .Add) (rI0 λi j=>.int (i+j)):=LJ λ_ _ _ _ _ _ _ q=>add_int q
theorem LQ:OpR X (Fa .Sub) (rI0 λi j=>.int (i-j)):=LJ λ_ _ _ _ _ _ _ q=>sub_int q
theorem LO:OpR X (Fa .Mult) (rI W8 λi j=>.int (i*j)):=opI λ_ _ _ _ _ _ _ hc q=>mul_int q hc.ok
theorem BA:OpR X (Fa .FloorDiv) (rI HS λi j=>.int (i/j)):=opI λi j _ _ _ _ _ hc q=>by
 have h1:(0:Al)<j:=hc.1;have h2:j<1073741824:=hc.2;exact floordiv_int li (by rw[Int.fdiv_eq_ediv_of_nonneg i li];exact q) (.inl (PyProof.noPylong_small li))
theorem LN:OpR X (Fa .Mod) (rI (λ_ j=>0<j) λi j=>.int (i % j)):=opI λi j _ _ _ _ _ hc q=>by
 have h1:(0:Al)<j:=hc;exact mod_int' li (by rw[Int.fmod_eq_emod_of_nonneg i li];exact q)
theorem LP:OpR X (Fa .Pow) (rI HU λi j=>.int (i ^ j.toNat)):=opI λ_ _ _ _ _ _ _ hc q=>pow_int_small hc.1 hc.2.1 hc.2.2 q
theorem unI {f:Ac->Ky Ac}{g:Al->Al}
  (rule:∀ (i:Al) (t:Qt) (s:Ag) (Q:Ac->Ag->Prop) (E:Ac->Ag->Prop),Q (.int (g i) s.toks) { s with toks:=s.toks+1 } -> Ao (As X.prog X.w) X.A (f (.int i t)) Q E s) :
  UnR X f (rU λi=>.int (g i)):=by
 intro pins s σ H x v Q I rx h;obtain⟨i,rfl,q⟩:=h;obtain⟨t,rfl⟩:=rx;exact rule i t s _ _ ⟨.int (g i),H,I.tok _,⟨_,rfl⟩,q⟩
theorem SN:UnR X (Yl .USub) (rU λi=>.int (-i)):=unI λ_ _ _ _ _ q=>neg_int q
end
section
variable {X:Cx}{a b c:Bw}{ta tb tc:TE}{pos:Fl}
theorem N0 {pins:Aa (Af × Co)}{σ:St}{H:Hp}{s:Ag}{Q:VK}{k k':Aq}(I:Inv X pins σ H s)(q:Q (.bl k) H)(e:k=k'):EP X pins σ Q (.bool k') s:=by
 subst e;exact⟨.bl k,H,I,rfl,q⟩
theorem EF:OpR X (Cy .Lt) (rI0 λi j=>.bl (decide (i<j))):=o7 λ_ _ _ _ _ _ _ q=>lt_int q
theorem EE:OpR X (Cy .LtE) (rI0 λi j=>.bl (decide (i<=j))):=o7 λ_ _ _ _ _ _ _ q=>le_int q
theorem ED:OpR X (Cy .Gt) (rI0 λi j=>.bl (decide (j<i))):=o7 λ_ _ _ _ _ _ _ q=>gt_int q
theorem EC:OpR X (Cy .GtE) (rI0 λi j=>.bl (decide (j<=i))):=o7 λ_ _ _ _ _ _ _ q=>ge_int q
theorem LL:OpR X (Cy .Is) (λx y H Q=>y=.non/\Q (.bl (decide (x=.non))) H):=by
 intro pins s σ H x y v u Q I rx ry h;obtain⟨rfl,q⟩:=h;cases ry;refine is_none_gen (N0 I q ?_);cases x <;> first
  |(cases rx;rfl)
  |(obtain⟨t,rfl⟩:=rx;rfl)
theorem OpR.or {r r':R2}(h:OpR X f r)(h':OpR X f r'):OpR X f (λx y H Q=>r x y H Q\/r' x y H Q):=by
 intro pins s σ H x y v u Q I rx ry q;rcases q with q|q
 .exact h pins s σ H x y v u Q I rx ry q
 .exact h' pins s σ H x y v u Q I rx ry q
theorem kH (b:Bw){op:Vn}(h:op≠.In:=by decide)(h2:op≠.NotIn:=by decide):Ly op b=false:=by
 have e1:(op == CmpOp.In)=false:=by cases op <;> first|rfl|exact absurd rfl h
 have e2:(op == CmpOp.NotIn)=false:=by cases op <;> first|rfl|exact absurd rfl h2
 cases b <;> simp[Ly,e1,e2]
def i8 (K:Aj)(x:V)(H:Hp)(k:Aq):Prop:=
 match x with
 |.non=>k=false
 |.bl b=>k=b
 |.int i=>k=(i != 0)
 |.str y=>y.length<=sizeLine/\k=((y.length:Al) != 0)
 |.byt y=>y.size<=sizeLine/\k=((y.size:Al) != 0)
 |.ref p=>(∃ xs,SqL K H p xs/\k=!xs.isEmpty)\/(∃ xs,SqT K H p xs/\k=!xs.isEmpty)\/∃ kvs,H p=Ab (.dK kvs)/\k=!kvs.isEmpty
 |_=>Fh
theorem iQ {κ:Type}{kvs:Aa (κ × V)}{vs:Aa (κ × Ac)}(r:KV kvs vs):(!vs.isEmpty)=!kvs.isEmpty:=by
 cases r <;> rfl
theorem fU {xs:Aa V}{its:Aa Ac}(r:qK xs its):(!its.toArray.isEmpty)=!xs.isEmpty:=by
 cases r <;> simp
theorem pH:(sizeLine:Ai)<2 ^ 63:=by rw[Ej];decide
theorem pK:HW X (λx H Q=>∃ k,i8 X.K x H k/\Q k H):=by
 intro pins s σ H x v Q I rx h;obtain⟨k,e,q⟩:=h;have hl:=pH;have hs:sizeLine=16777216:=Ej;cases x with
 |non =>
  cases rx;have e':k=false:=e;subst e';exact truthy_none ⟨H,I,q⟩
 |bl b =>
  cases rx;have e':k=b:=e;subst e';exact Xo ⟨H,I,q⟩
 |int i =>
  obtain⟨t,rfl⟩:=rx;have e':k=(i != 0):=e;subst e';exact PySem.P.truthy_int ⟨H,I,q⟩
 |str y =>
  obtain⟨t,rfl⟩:=rx;obtain⟨hy,e'⟩:y.length<=sizeLine/\k=((y.length:Al) != 0):=e;subst e';exact PySem.P.truthy_str li ⟨H,I.tok _,q⟩
 |byt y =>
  obtain⟨t,rfl⟩:=rx;obtain⟨hy,e'⟩:y.size<=sizeLine/\k=((y.size:Al) != 0):=e;subst e';exact PySem.W.truthy_bytes li ⟨H,I.tok _,q⟩
 |ref p =>
  cases rx;have e':(∃ xs,SqL X.K H p xs/\k=!xs.isEmpty)\/(∃ xs,SqT X.K H p xs/\k=!xs.isEmpty)\/∃ kvs,H p=Ab (.dK kvs)/\k=!kvs.isEmpty:=e;rcases e' with⟨xs,hx,e'⟩|⟨xs,hx,e'⟩|⟨kvs,hx,e'⟩
  .subst e'
   obtain⟨its,r,pl,hz⟩:=I.list hx;have hlen:=r.length;exact wpAny_truthy_list pl.isList (by simp only[Bf];lia) ⟨H,I.tok _,by rw[fU r];exact q⟩
  .subst e'
   obtain⟨its,r,pl,hz⟩:=I.tuple hx;have hlen:=r.length;exact truthy_tuple pl (by simp only[Bf];lia) ⟨H,I.tok _,by rw[fU r];exact q⟩
  .subst e'
   obtain⟨hz,hS,vs,r,m⟩:kvs.length<=sizeLine/\(p == Ka)=false/\∃ vs,KV kvs vs/\s.heap.DictOf (zN X.prog X.w) p vs:=I.hok p _ hx;have hlen:kvs.length=vs.length:=Paired.length r;exact wpAny_truthy_dict hS m li ⟨H,I.tok _,by rw[iQ r];exact q⟩
 |_=>exact(show Fh from e).elim
theorem o8:OpR X (Fa .Add) (λx y H Q=>∃ i j,x=.str i/\y=.str j/\i.length+j.length<=sizeLine/\Q (.str (i++j)) H):=by
 intro pins s σ H x y v u Q I rx ry h;obtain⟨i,j,rfl,rfl,hz,q⟩:=h;obtain⟨t,rfl⟩:=rx;obtain⟨t',rfl⟩:=ry;exact add_str (λt' tk=>⟨.str (i++j),H,I.tok _,⟨_,rfl⟩,q⟩) hz
theorem uJ {x:V}(r:qK [x] us):∃ u,us=[u]/\qL x u:=by
 cases r with
 |cons r1 r2=>cases r2;exact⟨_,rfl,r1⟩
theorem mI {x y:V}(r:qK [x,y] us):∃ u w',us=[u,w']/\qL x u/\qL y w':=by
 cases r with
 |cons r1 r2 =>
  cases r2 with
  |cons r3 r4=>cases r4;exact⟨_,_,rfl,r1,r3⟩
theorem nV:jK X (.type "int") (λxs H Q=>(∃ i,xs=[.int i]/\Q (.int i) H)\/∃ k,xs=[.bl k]/\Q (.int (if k then 1 else 0)) H):=by
 intro pins s σ H xs us Q I r h;rcases h with⟨i,rfl,q⟩|⟨k,rfl,q⟩
 .obtain⟨u,rfl,t,rfl⟩:=uJ r
  exact call_int_int ⟨.int i,H,I,⟨_,rfl⟩,q⟩
 .obtain⟨u,rfl,r1⟩:=uJ r
  cases r1;exact call_int_bool ⟨.int (if k then 1 else 0),H,I.tok _,⟨_,rfl⟩,q⟩
def FZ (K:Aj)(x:V)(H:Hp)(n:Ai):Prop:=
 match x with
 |.str y=>y.length<=sizeLine/\n=y.length
 |.byt y=>y.size<=sizeLine/\n=y.size
 |.ref p=>(∃ xs,SqL K H p xs/\n=xs.length)\/∃ xs,SqT K H p xs/\n=xs.length
 |_=>Fh
theorem WE:jK X (.builtin "len") (λxs H Q=>∃ x n,xs=[x]/\FZ X.K x H n/\Q (.int n) H):=by
 intro pins s σ H xs us Q I r h;obtain⟨x,n,rfl,e,q⟩:=h;obtain⟨u,rfl,rx⟩:=uJ r;have hl:=pH;have hs:sizeLine=16777216:=Ej;cases x with
 |str y =>
  obtain⟨t,rfl⟩:=rx;obtain⟨hy,e'⟩:y.length<=sizeLine/\n=y.length:=e;subst e';exact len_str li ⟨.int _,H,I.tok _,⟨_,rfl⟩,q⟩
 |byt y =>
  obtain⟨t,rfl⟩:=rx;obtain⟨hy,e'⟩:y.size<=sizeLine/\n=y.size:=e;subst e';exact PySem.W.len_bytes li ⟨.int _,H,I.tok _,⟨_,rfl⟩,q⟩
 |ref p =>
  cases rx;have e':(∃ xs,SqL X.K H p xs/\n=xs.length)\/∃ xs,SqT X.K H p xs/\n=xs.length:=e;rcases e' with⟨xs,hx,e'⟩|⟨xs,hx,e'⟩
  .subst e'
   obtain⟨its,r',pl,hz⟩:=I.list hx;have hlen:=r'.length;exact Calls.call_len_list pl.isList (by simp only[Bf];lia) ⟨.int xs.length,H,I.tok _,⟨_,by simp only[Bf];rw[hlen]⟩,q⟩
  .subst e'
   obtain⟨its,r',pl,hz⟩:=I.tuple hx;have hlen:=r'.length;exact len_tuple pl (by simp only[Bf];lia) ⟨.int xs.length,H,I.tok _,⟨_,by simp only[Bf];rw[hlen]⟩,q⟩
 |_=>exact(show Fh from e).elim
end
end _L
namespace _L
open PySem PySem.Spec PyProof.Rows
variable {mA:Ap->Ak Ac}
structure ObjM (h:Bq)(x dx C:Af)(mA:Ap->Ak Ac):Prop where
 obj:h.get? x=Ab (Th C dx)
 ns:h.Ns1 dx mA
 ne:dx≠x
set_option tactic.hygienic true in
theorem ZD {h:Bq}{dx:Af}(n:h.Ns1 dx mA):∃ od,h.get? dx=Ab od/\∀ name,Uu name od=Ab (mA name):=by
 obtain⟨o,es,ep,ho,hd,hk,_,hm⟩:=n;refine⟨o,ho,λname=>?_⟩;have e:=hm name;unfold nsFind findBy at e;rw[<- Array.find?_toList] at e;unfold Uu;rw[hd];dsimp only
 split
 .rename_i y q
  rw[q] at e;exact congrArg Ab e
 .rename_i q
  rw[q] at e;have a:es.toList.any (·.refKey)=false:=by
   rw[List.any_eq_false];intro y hy;obtain⟨z,t,hkey⟩:=hk y (OL.mp hy);simp[DictEntry.refKey,hkey]
  have a':¬ es.toList.any (·.refKey)=true:=by rw[a];exact Gy
  rw[Bm a'];exact congrArg Ab e
theorem ObjM.look {h:Bq}{x dx C:Af}(I:ObjM h x dx C mA):∃ od,PySem.W.InstAt h x (Th C dx) C (Ab od)/\∀ name,Uu name od=Ab (mA name):=
 let ⟨od,ho,hl⟩:=ZD I.ns
 ⟨od,⟨I.obj,rfl,rfl,ho⟩,hl⟩
section
variable {P:Bd}{w:Bz}{H H':Hp}{h h':Bq}{a C dx:Af}{fs fs':Aa (Ap × V)}
theorem GQ (hok:HOk P w H h)(e:H a=Ab (.ins C dx fs)):∃ mA,ObjM h a dx C mA/\(∀ f,kO (fs.lookup f) (mA f))/\Aa9 mA (fs.map (·.1))/\fs.length<=1000/\H dx=Ab (.own a):=by
 obtain⟨d,z,ne,ob,mA,n,r,q⟩:=(show z9 P w H h a (.ins C dx fs) from hok a _ e)
 exact⟨mA,⟨ob,n,ne⟩,r,q,z,d⟩
end
structure Cls (K:Aj)(C:Af):Prop where
 pg:Ym K C Lz=true
 hd:PySem.W.hasDictIn K C=true
 po:PySem.W.plainOver K C=true
 sa:Nm K (.ref C) "__setattr__" = Ab (Ab (.builtin "object.__setattr__"))
theorem Cls.get {K:Aj}{C:Af}(c:Cls K C)(f:Ap):Ym K C f=true:=c.pg
section
variable {X:Cx}{pins:Aa (Af × Co)}{σ : St}{H:Hp}{s:Ag}{A:Bt}{E:Ac->Ag->Prop}{Q:Ac->Ag->Prop}{c:Ac}{b:Aq}
inductive TyOf (K:Aj)(H:Hp):V->Ac->Prop where
 |non:TyOf K H .non (.type "NoneType")
 |bl (x:Aq):TyOf K H (.bl x) (.type "bool")
 |int (i:Al):TyOf K H (.int i) (.type "int")
 |str (x:Ap):TyOf K H (.str x) (.type "str")
 |flt (x:UInt64):TyOf K H (.flt x) (.type "float")
 |lst {a:Af} {xs:Aa V} (e:H a=Ab (.lst xs)):TyOf K H (.ref a) (.type "list")
 |frz {a:Af} {o:Co} {xs:Aa V} (e:H a=Ab (.frz o (.lst xs))):TyOf K H (.ref a) (.type "list")
 |tup {a:Af} {xs:Aa V} (e:H a=Ab (.tup xs)):TyOf K H (.ref a) (.type "tuple")
 |dK {a:Af} {kvs:Aa (Key × V)} (e:H a=Ab (.dK kvs)):TyOf K H (.ref a) (.type "dict")
 |dT {a:Af} {kvs:Aa (Aa Key × V)} (e:H a=Ab (.dT kvs)):TyOf K H (.ref a) (.type "dict")
 |ins {a C dx:Af} {fs:Aa (Ap × V)} (e:H a=Ab (.ins C dx fs)) (cl:Cls K C) (ha:Nm K (.ref C) "__class__" = Ab (Ab (.builtin "object.__class__")))
   (hn:Xp K (.builtin "object.__class__") "__get__" = Ab (Ab (.builtin "getset_descriptor.__get__"))) (htk:Zi K (.builtin "object.__class__")=Ab true)
   (hm:Vo K C (.type "object")=Ab true):TyOf K H (.ref a) (.ref C)
theorem Z2 {x:V}{u t:Ac}(I:Inv X pins σ H s)(rx:qL x u)(ty:TyOf X.K H x t)(e:Li X.K t c=Ab b)(h:∀ tk,Q (.bool b) { s with toks:=tk }) :
  Ao (As X.prog X.w) A (call (.builtin "isinstance") [u,c]) Q E s:=by
 cases ty with
 |non=>cases (show u=Dm from rx);exact Ek Xq I.kIn He e (λz=>nomatch z) h
 |bl y=>cases (show u=Fp y from rx);exact Ek Xr I.kIn He e (λz=>nomatch z) h
 |int i=>obtain⟨t,q⟩:=(show ∃ t,u=Jm i t from rx);cases q;exact Ek Yn I.kIn He e (λz=>nomatch z) h
 |str y=>obtain⟨t,q⟩:=(show ∃ t,u=TW y t from rx);cases q;exact Ek Yo I.kIn He e (λz=>nomatch z) h
 |flt y=>obtain⟨t,q⟩:=(show ∃ t,u=Value.float y t from rx);cases q;exact Ek PySem.W.kitx_float I.kIn He e (λz=>nomatch z) h
 |@lst a xs ea =>
  cases (show u=Ce a from rx)
  obtain⟨_,_,n,_,h1⟩:=(show z9 X.prog X.w H s.heap a (.lst xs) from I.hok a _ ea)
  exact Ek Jn I.kIn ⟨_,h1,rfl⟩ e (λz=>nomatch z) h
 |@frz a ob xs ea =>
  cases (show u=Ce a from rx)
  obtain⟨_,_,_,n,_,h1⟩:=(show z9 X.prog X.w H s.heap a (.frz ob (.lst xs)) from I.hok a _ ea)
  exact Ek Jn I.kIn ⟨_,h1,rfl⟩ e (λz=>nomatch z) h
 |@tup a xs ea =>
  cases (show u=Ce a from rx)
  obtain⟨_,_,_,p⟩:=(show z9 X.prog X.w H s.heap a (.tup xs) from I.hok a _ ea)
  obtain⟨o,h1,h2,_⟩:=p;exact Ek My I.kIn ⟨o,h1,h2⟩ e (λz=>nomatch z) h
 |@dK a kvs ea =>
  cases (show u=Ce a from rx)
  obtain⟨_,_,vs,_,p⟩:=(show z9 X.prog X.w H s.heap a (.dK kvs) from I.hok a _ ea)
  obtain⟨o,es,ep,h1,h2,_⟩:=p;exact Ek Nq I.kIn ⟨o,h1,h2.1⟩ e (λz=>nomatch z) h
 |@dT a kvs ea =>
  cases (show u=Ce a from rx)
  obtain⟨_,_,xs,_,o,es,ep,h1,h2,_⟩:=(show z9 X.prog X.w H s.heap a (.dT kvs) from I.hok a _ ea)
  exact Ek Nq I.kIn ⟨o,h1,h2.1⟩ e (λz=>nomatch z) h
 |@ins a C dx fs ea cl ha hn htk hm =>
  cases (show u=Ce a from rx)
  obtain⟨mA,O,_⟩:=GQ I.hok ea;obtain⟨od,J,_⟩:=O.look;exact Ek (PySem.W.kitx_own (cl.get _) cl.hd ha hn htk hm) I.kIn J e (λz=>nomatch z) h
end
end _L
namespace _L
open PySem PySem.Spec PyProof.Rows
variable {ps:Aa Ap}{K:Aj}{mg:Ap->Ak Ac}{kindOf:Ap->Ak Ia}{A:Bt}{scope:Eu}
structure Room (k:Ai)(A:Bt):Prop where
 hd:A.handled=none
 dp:A.depth+3*k+5<Pq
 un:A.units+16*k+200<Fi
 gd:A.guards=Ab []
theorem Room.deeper {k:Ai}(r:Room (k+1) A)(env:Ja):Room k (A.deeper env):=
 ⟨r.hd,by have:=r.dp;show A.depth+1+3*k+5<_;lia,by have:=r.un;show A.units+3+16*k+200<_;lia,r.gd⟩
theorem Room.depth {k:Ai}(r:Room k A):A.depth<Pq:=by have:=r.dp;lia
theorem Room.units {k:Ai}(r:Room k A):A.units+64<Fi:=by have:=r.un;lia
def AF:TA:=λ_ H Q=>Q [] H
section
variable {X:Cx}{e:Bw}{es:Aa Bw}{te:TE}{t:TA}{pos:Fl}
theorem LR:PA X [] AF:=λ_ _ _ _ H Q I h=>Ig ⟨[],H,I,.nil,h⟩
def AI (t:TA):TE:=λσ H Q=>t σ H λxs H1=>xs.length<=sizeLine/\∀ p,H1 p=none->Q (.ref p) (upd H1 p (.tup xs))
def AE (t:TA):TE:=λσ H Q=>t σ H λxs H1=>xs.length<=sizeLine/\∀ p,H1 p=none->Q (.ref p) (upd H1 p (.lst xs))
theorem LY  (h:PA X es t):PE X (.Tuple es x1 pos) (AI t):=by
 intro pins s σ H Q I hq;refine wpAny_Tuple_spliced (thn (h pos pins s σ H _ I hq) λus s1 ⟨xs,H1,I1,r,z,q⟩=>⟨by rw[<- r.length];exact z,?_⟩)
 have hf:H1 s1.heap.objs.size=none:=I1.hok.fresh (Au _);refine⟨.ref s1.heap.objs.size,upd H1 s1.heap.objs.size (.tup xs),I1.laid (t':=s1.toks) (λb u e=>Ah _ e) (Au _) ?_,rfl,q _ hf⟩;exact⟨z,us,r,⟨_,Ba _ rfl,rfl,_,rfl⟩⟩
theorem ZY (h:PA X es t):PE X (.List es pos) (AE t):=by
 intro pins s σ H Q I hq;refine wpAny_List_spliced (thn (h pos pins s σ H _ I hq) λus s1 ⟨xs,H1,I1,r,z,q⟩=>⟨by rw[<- r.length];exact z,?_⟩)
 have hf:H1 s1.heap.objs.size=none:=I1.hok.fresh (Au _);refine⟨.ref s1.heap.objs.size,upd H1 s1.heap.objs.size (.lst xs),I1.laid (t':=s1.toks) (λb u e=>Ah _ e) (Au _) ?_,rfl,q _ hf⟩;exact⟨z,us,0,r,Ba _ rfl⟩
end
abbrev Sp:=Aa V->Hp->VK->XK->Prop
abbrev CXT:=Aa Ja->Hp->Ag->XK->Ac->Ag->Prop
structure Env0 (P:Bd)(w:Bz)(K:Aj)(mg:Ap->Ak Ac)(base:Bq)(A:Bt)(outer:Aa Ja)(s:Ag)(H:Hp):Prop where
 frames:A.frames=Ab outer
 mod:Mod K mg base
 bs:∀ b o,base.get? b=Ab o->s.heap.get? b=Ab o/\H b=none
 bsz:base.objs.size<=s.heap.objs.size
 funs:s.heap.FunFrames base outer
 frf:∀ b∈frs outer,H b=none
 hok:HOk P w H s.heap
 bare:Oe s.gens
def CE (outer:Aa Ja)(P:Bd)(w:Bz)(H:Hp)(s:Ag)(Q:VK)(u:Ac)(s':Ag):Prop:=
 ∃ v H',s'.os=s.os/\Oe s'.gens/\Un (frs outer) [] H H' s.heap s'.heap/\HOk P w H' s'.heap/\qL v u/\Q v H'
def CR (CX:CXT)(outer:Aa Ja)(P:Bd)(w:Bz)(H:Hp)(s:Ag)(Q:VK)(E:XK)(r:Wj)(s':Ag):Prop:=
 match r with
 |.ok (.ret u)=>CE outer P w H s Q u s'
 |.ok _=>Fh
 |.error e=>CX outer H s E e s'
structure FnOk (P:Bd)(w:Bz)(K:Aj)(mg:Ap->Ak Ac)(base:Bq)(CX:CXT)(k:Ai)(f:Af)(fd:Fw)(ps:Aa Ap)(sp:Sp):Prop where
 len:∀ vs H Q E,sp vs H Q E->vs.length=ps.length
 run:∀ (A:Bt) (outer:Aa Ja) (s:Ag) (H:Hp) (args:Args) (us:Aa Ac) (vs:Aa V) (Q:VK) (E:XK),Room k A->Env0 P w K mg base A outer s H->Oh s fd args (ps.zip us)->qK vs us->sp vs H Q E ->
  Hu (As P w) A (.call (.ref f) args) (CR CX outer P w H s Q E) s
section
variable {X:Cx}{pins:Aa (Af × Co)}{σ : St}{H:Hp}{s s':Ag}
theorem Inv.env0 (I:Inv X pins σ H s):Env0 X.prog X.w X.K X.mg X.base X.A X.stack s H:=
 ⟨I.ok.frames,I.ok.mod,I.bs,DL I.ok.bsz I.sz,I.stack,I.stkFree,I.hok,I.bare⟩
theorem Inv.after {Q:VK}{u:Ac}(I:Inv X pins σ H s)(h:CE X.stack X.prog X.w H s Q u s'):EP X pins σ Q u s':=by
 obtain⟨v,H',os,bare,un,hok,r,q⟩:=h;obtain⟨hh,g,d,t,os'⟩:=s';obtain rfl:os'=s.os:=os;exact⟨v,H',I.call (h':=hh) (g':=g) (d':=d) (t':=t) (ch:=[]) un hok bare (λb z=>absurd z (by simp)),r,q⟩
end
def vS (K:Aj)(fd:Fw)(ps:Aa Ap)(ds:Aa Ac):Prop:=
 ∀ (s:Ag) (us:Aa Ac),K.In s.heap->(us++ds).length=ps.length->Oh s fd ⟨us,[]⟩ (ps.zip (us++ds))
theorem vS.all {fd:Fw}(h:∀ us:Aa Ac,us.length=ps.length->Tj fd ⟨us,[]⟩=pure (ps.zip us)):vS K fd ps []:=λs us _ hl=>by
 rw[Fx] at hl ⊢;exact .of_eq (h us hl)
structure FnScope (N P:Aa Ap)(sc:Eu):Prop where
 kind:sc.kind=.function
 co:sc.isCoroutine=false
 gen:sc.isGenerator=false
 nd:N.Nodup
 pre:N.take P.length=P
 par:∀ x∈P,sc.names.lookup x=Ab .local \/ sc.names.lookup x=Ab .cell
 nofree:∀ y∈sc.names,y.2≠.free
theorem nR {x:Ap}:∀ {binds:Aa (Ap × Ac)} {m:Ap->Ak Ac},(∀ v,(x,v) ∉ binds)->Vp kindOf binds m x=m x
 |[],_,_=>rfl
 |(n,v)::r,m,h=>by
  unfold Vp;rw[nR λw hw=>h w (Cd _ hw)]
  split
  .have:x≠n:=by rintro rfl;exact h v Dj
   simp[this]
  .rfl
theorem nP {x:Ap}:∀ {binds:Aa (Ap × Ac)} {m:Ap->Ak Ac},(∀ v,(x,v) ∉ binds)->Vq kindOf binds m x=m x
 |[],_,_=>rfl
 |(n,v)::r,m,h=>by
  unfold Vq;rw[nP λw hw=>h w (Cd _ hw)]
  split
  .rfl
  .have:x≠n:=by rintro rfl;exact h v Dj
   simp[this]
theorem nQ {x:Ap}{v:Ac}:∀ {P:Aa Ap} {vs:Aa Ac} {i:Ai} {m:Ap->Ak Ac},P.Nodup->P[i]? = Ab x->vs[i]? = Ab v->kindOf x=Ab .local ->
  Vp kindOf (P.zip vs) m x=Ab v
 |[],_,_,_,_,h,_,_=>by simp at h
 |_::_,[],_,_,_,_,h,_=>by simp at h
 |p::P,w::vs,0,m,nd,h1,h2,hk=>by
  simp at h1 h2;subst h1;subst h2;show Vp kindOf ((p,w)::P.zip vs) m p=_;unfold Vp;rw[nR λv hv=>(OS.mp nd).1 (Ml hv).1,Bl hk];simp
 |p::P,w::vs,i+1,m,nd,h1,h2,hk=>by
  show Vp kindOf ((p,w)::P.zip vs) m x=_;unfold Vp;exact nQ (i:=i) (OS.mp nd).2 (by simpa using h1) (by simpa using h2) hk
theorem nO {x:Ap}{v:Ac}:∀ {P:Aa Ap} {vs:Aa Ac} {i:Ai} {m:Ap->Ak Ac},P.Nodup->P[i]? = Ab x->vs[i]? = Ab v->kindOf x≠Ab .local ->
  Vq kindOf (P.zip vs) m x=Ab v
 |[],_,_,_,_,h,_,_=>by simp at h
 |_::_,[],_,_,_,_,h,_=>by simp at h
 |p::P,w::vs,0,m,nd,h1,h2,hk=>by
  simp at h1 h2;subst h1;subst h2;show Vq kindOf ((p,w)::P.zip vs) m p=_;unfold Vq;rw[nP λv hv=>(OS.mp nd).1 (Ml hv).1,Bm hk];simp
 |p::P,w::vs,i+1,m,nd,h1,h2,hk=>by
  show Vq kindOf ((p,w)::P.zip vs) m x=_;unfold Vq;exact nO (i:=i) (OS.mp nd).2 (by simpa using h1) (by simpa using h2) hk
noncomputable def xU (N:Aa Ap)(vs:Aa V):St:=vs.map Ab++Dg (N.length-vs.length) none
noncomputable def mT (CX:CXT)(P:Bd)(w:Bz)(K:Aj)(mg:Ap->Ak Ac)(base:Bq)(N:Aa Ap)(qual:Ap)(scope:Eu)(f:Af)(cd:Ac)(A:Bt)(outer:Aa Ja)(s:Ag)(H:Hp)(E:XK):Cx where
 prog:=P
 w:=w
 K:=K
 mg:=mg
 base:=base
 A:=A.deeper (Gn qual scope s.heap.objs.size f cd)
 N:=N
 s₀:=s
 H₀:=H
 env:=Gn qual scope s.heap.objs.size f cd
 outer:=outer
 stack:=Gn qual scope s.heap.objs.size f cd::outer
 ex:=[]
 calm:=true
 fn:=λ_=>true
 pn:=[]
 xe:=λe s'=>Ao (As P w) (A.deeper (Gn qual scope s.heap.objs.size f cd)) (leaving (Gn qual scope s.heap.objs.size f cd) e) (λ_ s''=>CX outer H s E e s'') (λe' s''=>CX outer H s E e' s'') s'
theorem dX {sc:Eu}{n:Ai}{x:Ap}(h:sc.names.lookup x=Ab .cell):∃ c,(Hv n sc.names []).lookup x=Ab c:=by
 have q:=Ko sc.names n [] (.inl h);exact Jx.mp q
theorem l7 {CX:CXT}{P:Bd}{w:Bz}{base:Bq}{N:Aa Ap}{qual:Ap}{f:Af}{cd:Ac}{outer:Aa Ja}{s s1:Ag}{H:Hp}{E:XK}{us:Aa Ac}{vs:Aa V}
  (S:FnScope N ps scope) (hd:A.handled=none) (e0:Env0 P w K mg base A outer s H) (hl:vs.length=ps.length) (r:qK vs us)
  (x:InCallC s s.heap.objs.size (Vp (Gn qual scope s.heap.objs.size f cd).kindOf (ps.zip us) λ_=>none) (Hv (s.heap.objs.size+1) scope.names []) (Vq (Gn qual scope s.heap.objs.size f cd).kindOf (ps.zip us) λ_=>none) s1) :
  Inv (mT CX P w K mg base N qual scope f cd A outer s H E) [] (xU N vs) H s1:=by
 have hpl:ps.length<=N.length:=by have:=congrArg Ol S.pre;rw[El] at this;lia
 obtain⟨h1,tk,rfl,hk⟩:=x.done;have noA:∀ b:Af,b ∉ (mT CX P w K mg base N qual scope f cd A outer s H E).ex:=λb z=>absurd (show b∈([]:Aa Af) from z) (by simp)
 refine⟨⟨e0.mod,S.kind,rfl,rfl,Au _,λy z c h1 h2=>?_,λy hy=>?_,λy c _ h=>?_,λ_=>hd,OM e0.frames,.inr ⟨rfl,rfl⟩,λb z=>absurd z (noA b),e0.bs,e0.bsz,λb _ _=>noA b,λb z=>absurd z (noA b),e0.funs,e0.frf⟩,
  rfl,e0.bare,Un.kept hk,⟨_,x.toInCall.ns,λi y v h1 h2 h3=>?_⟩,λy c h=>⟨_,x.cell y c h⟩,e0.hok.fresh (Au _),λy c h=>?_,λp hp=>absurd (show p∈([]:Aa (Af × Co)) from hp) (by simp),e0.hok.kept hk,?_⟩
 .exact name_of_addr x.apart (Fq h1) (Fq h2)
 .have hy:scope.names.lookup y=Ab .cell\/scope.names.lookup y=Ab .free:=hy
  rcases hy with hy|hy
  .exact dX hy
  .exact absurd rfl (S.nofree _ (Fq hy))
 .exact Fd (x.above y c (Fq h))
 .have hi:i<vs.length:=by
   unfold xU at h2;by_cases hi:i<vs.length
   .exact hi
   .rw[Cs (by simpa using hi)] at h2
    rw[Nc] at h2
    split at h2 <;> cases h2
  have ha:vs[i]? = Ab v:=by
   unfold xU at h2;rw[Bi (by simpa using hi),Dp] at h2
   cases e:vs[i]? with
   |none=>rw[e] at h2;cases h2
   |some a=>rw[e] at h2;cases h2;rfl
  obtain⟨u,hu,rv⟩:=r.get ha;have hp:ps[i]? = Ab y:=by
   rw[<- S.pre,Mv li];exact h1
  have ndP:ps.Nodup:=by rw[<- S.pre];exact S.nd.sublist (Qw _ _)
  refine⟨u,rv,?_⟩;rcases S.par y (Bp hp) with k|k
  .exact .inl ⟨k,nQ ndP hp hu k⟩
  .obtain⟨c,e⟩:=dX (n:=s.heap.objs.size+1) k
   refine .inr ⟨.inl k,c,e,?_⟩;have q:=x.cell y c e;rw[nO ndP hp hu (by show scope.names.lookup y≠_;rw[k];decide)] at q
   exact q
 .exact e0.hok.fresh (Fd (x.above y c (Fq h)))
 .unfold xU
  show _=N.length;rw[Cj,Av,List.length_replicate]
  lia
theorem RM {CX:CXT}{P:Bd}{w:Bz}{base:Bq}{k:Ai}{f:Af}{name qual:Ap}{params:OT}{body:Aa Fj}{dV kV doc pm cdv ct oc:Ac}{an od:Ak Af}
  {osl:Ax (Ak Ac)} {N ps:Aa Ap} {sp:Sp} (lk:K.lookup f=Ab ⟨oc,od,.func (Gs name qual params body scope dV kV doc pm an cdv ct),osl⟩) (hcd:Lj K cdv qual=true) (S:FnScope N ps scope)
  (len:∀ vs H Q E,sp vs H Q E->vs.length=ps.length)
  (hbody:∀ (A:Bt) (outer:Aa Ja) (s:Ag) (H:Hp) (vs:Aa V) (Q:VK) (E:XK),Room k (A.deeper (Gn qual scope s.heap.objs.size f cdv))->sp vs H Q E ->
   ∃ t,PSs (mT CX P w K mg base N qual scope f cdv A outer s H E) body t/\t { nx:=λ_ H'=>Q .non H',rt:=Q } (xU N vs) H) :
  FnOk P w K mg base CX (k+1) f (Gs name qual params body scope dV kV doc pm an cdv ct) ps sp:=by
 refine⟨len,λA outer s H args us vs Q E hr e0 hb r hsp=>?_⟩;have hl:=len _ _ _ _ hsp;have KX:K.In s.heap:=e0.mod.kin.keeps λb o e=>(e0.bs b o e).1;have lim:s.heap.NoLimit:=e0.mod.nolimit.keeps λb o e=>(e0.bs b o e).1;have hkind:∀ y∈ps.zip us,scope.names.lookup y.1=Ab .local \/ (scope.names.lookup y.1=Ab .cell/\((Hv (s.heap.objs.size+1) scope.names []).lookup y.1).isSome=true):=λ⟨n,v⟩ hy=>by
  rcases S.par n (Ml hy).1 with q|q
  .exact .inl q
  .exact .inr ⟨q,Ko _ _ _ (.inl q)⟩
 refine Ue hr.depth (KX _ _ lk) rfl S.co S.gen rfl (Wn KX hcd) (hb _ _ _ _ ?_);refine Qi S.kind hkind λenv he s1 x=>?_;subst he;refine⟨lim.keeps x.toInCall.keep,codeAny_func ?_⟩;obtain⟨t,ht,hq⟩:=hbody A outer s H vs Q E (hr.deeper _) hsp;have I:Inv (mT CX P w K mg base N qual scope f cdv A outer s H E) [] (xU N vs) H s1:=l7 S hr.hd e0 hl r x;refine Hm (ht [] s1 (xU N vs) H _ I hq) (λfl s' hs=>?_) λe s' hs=>hs;have fin:∀ {σ' : St} {H':Hp} {v:V} {u:Ac},Inv (mT CX P w K mg base N qual scope f cdv A outer s H E) [] σ' H' s'->qL v u->Q v H'->CE outer P w H s Q u s':=
  λ{σ' H' v u} J rv q=>⟨v,H',J.os,J.bare,J.base,J.hok,rv,q⟩
 cases fl with
 |ret u =>
  obtain⟨v,σ',H',J,rv,q⟩:=hs;exact fin J rv q
 |next =>
  obtain⟨σ',H',J,q⟩:=hs;exact fin (v:=V.non) (u:=Dm) J rfl q
 |brk =>
  obtain⟨_,_,_,q⟩:=hs;exact An q
 |cont =>
  obtain⟨_,_,_,q⟩:=hs;exact An q
end _L
namespace _H
open PySem PyProof.Rows
variable {Q:Ac->Ag->Prop}{lo hi:Ak Al}{items:Ax Ac}
noncomputable def lexLt:Aa Al->Aa Al->Aq
 |[],[]=>false
 |[],_::_=>true
 |_::_,[]=>false
 |x::xs,y::ys=>if x=y then lexLt xs ys else decide (x<y)
theorem lexLt_cons (x y:Al)(xs ys:Aa Al):lexLt (x::xs) (y::ys)=if x=y then lexLt xs ys else decide (x<y):=rfl
theorem lP:lexLt [] []=false:=rfl
theorem tO (y:Al)(ys:Aa Al):lexLt [] (y::ys)=true:=rfl
theorem tN (x:Al)(xs:Aa Al):lexLt (x::xs) [] = false:=rfl
theorem Y9 (A:Bt)(s:Ag)(a:Al)(t:Qt)(c:Al)(u:Qt):∃ e,SeqAt.EqAt A s (.int a t) (.int c u) e/\(e=true↔a=c):=
 ⟨(a == c),SeqAt.EqAt.int_int a t c u,by simp⟩
theorem VZ (A:Bt)(s:Ag)(a:Al)(t:Qt)(c:Al)(u:Qt)(prog:Bd)(w:Bz)(E:Ac->Ag->Prop)(Q:Ac->Ag->Prop)(h:Q (.bool (decide (a<c))) s) :
  Ao (As prog w) A (richCompare .Lt (.int a t) (.int c u)) Q E s:=
 (Vr h:Ao (As prog w) A (Cy .Lt (.int a t) (.int c u)) Q E s)
section
open PySem.SeqAt
open PySem.AutoSeq1 (wpAny_loadPart')
open PySem.MeetsSeq PySem.MeetsSeq2 PySem.MeetsSeq3
theorem lR (l b:Af)(items items2:Ax Ac)(n n2:Ai)(dd dd2:Ak Af)(sl sl2:Ax (Ak Ac))(ns ms:Aa Al)(hi:Jo items.toList ns)(hj:Jo items2.toList ms) :
  Meets (Hn.«tuple.__lt__» ⟨[.ref l,.ref b],[]⟩)
   (λ_ R s=>s.heap.get? l=Ab { cls:=.type "tuple",dict:=dd,data:=.seq items n,slots:=sl } /\ s.heap.get? b=Ab { cls:=.type "tuple",dict:=dd2,data:=.seq items2 n2,slots:=sl2 } /\
    R (.ok (.ret (.bool (lexLt ns ms)))) s):=
 .of_wp λprog w A R s h=>by
  obtain⟨hp,g,d,tk,os⟩:=s;obtain⟨hl,hb,h⟩:=h;have f2:=AutoSeq1.sub_tuple_tuple;have z1:items.size=ns.length:=by rw[<- hi.length];simp
  have z2:items2.size=ms.length:=by rw[<- hj.length];simp
  wp_walk using wpAny_loadPart' hl,wpAny_loadPart' hb,Om _ (λrest b s'=>b.1=none/\s'=⟨hp,g,d,tk,os⟩/\∃ (vs ws:Aa Ac) (ns' ms':Aa Al),rest=vs.zip ws /\
   Jo vs ns'/\Jo ws ms'/\ns'.length+items2.size=ms'.length+items.size/\R (.ok (.ret (.bool (lexLt ns' ms')))) ⟨hp,g,d,tk,os⟩) _
  case turn =>
   rintro⟨y,x⟩ rest b s' ⟨hb',rfl,vs,ws,ns',ms',hz,hvi,hwi,hlen,hR⟩;cases hvi with
   |nil=>rw[List.zip_nil_left] at hz;cases hz
   |cons a t hvi' =>
    cases hwi with
    |nil=>rw[List.zip_nil_right] at hz;cases hz
    |cons c u hwi' =>
     rw[Qc] at hz;injection hz with hyx hrest
     injection hyx with hy hx
     subst hy hx;rw[lexLt_cons] at hR;simp only[Bj] at hlen;obtain⟨e,he,hiff⟩:=Y9 A.in1 ⟨hp,g,d,tk,os⟩ a t c u;refine Ad (he prog w _ _ ?_);cases e with
     |true =>
      rw[Bl (hiff.mp rfl)] at hR
      wp_walk
      exact⟨rfl,rfl,_,_,_,_,hrest,hvi',hwi',by lia,hR⟩
     |false =>
      rw[Bm (λq=>absurd (hiff.mpr q) Gy)] at hR;have hri:=VZ A.in1 ⟨hp,g,d,tk,os⟩ a t c u prog w
      wp_walk using hri
      exact⟨_,rfl,by simpa using hR⟩
  case fin =>
   rintro⟨b1,b2⟩ s' ⟨hb',rfl,vs,ws,ns',ms',hz,hvi,hwi,hlen,hR⟩;simp only at hb';subst hb';have hv:lexLt ns' ms'=decide (items.size<items2.size):=by
    cases hvi with
    |nil =>
     cases hwi with
     |nil =>
      simp only[Ec] at hlen;rw[lP];exact(Dd li).symm
     |cons c u hw =>
      simp only[Ec,Bj] at hlen;rw[tO];exact(Dk li).symm
    |cons a t hv =>
     cases hwi with
     |nil =>
      simp only[Ec,Bj] at hlen;rw[tN];exact(Dd li).symm
     |cons c u hw =>
      rw[Qc] at hz;cases hz
   rw[hv] at hR
   wp_walk
   exact⟨_,rfl,by simpa [Yp] using hR⟩
  case h =>
   exact⟨rfl,rfl,items.toList,items2.toList,ns,ms,rfl,hi,hj,by lia,h⟩
end
section
variable {prog:Bd}{w:Bz}{A:Bt}{E:Ac->Ag->Prop}{s:Ag}
theorem lt_tupInts {l b:Af}{items2:Ax Ac}{ns ms:Aa Al}(hl:Sm s.heap l items)(hb:Sm s.heap b items2)(hi:Jo items.toList ns)(hj:Jo items2.toList ms)
  (hu:A.units<Fi) (h:Q (.bool (lexLt ns ms)) s):Ao (As prog w) A (Cy .Lt (.ref l) (.ref b)) Q E s:=by
 obtain⟨⟨cls,dd,data,sl⟩,ho,hc,n,hd⟩:=id hl;obtain⟨⟨cls2,dd2,data2,sl2⟩,ho2,hc2,n2,hd2⟩:=id hb;simp only at hc hd hc2 hd2;subst hc hd hc2 hd2;exact richCompare_meets_room (op:=.Lt) ⟨_,ho,rfl⟩ ⟨_,ho2,rfl⟩ PySem.F.slot_tuple_lt PySem.F.entry_tuple_lt (PySem.F.args_tuple_lt_2 _ _) (lR l b items items2 n n2 dd dd2 sl sl2 ns ms hi hj)
  ⟨ho,ho2,show Fp (lexLt ns ms)≠Value.notImplemented/\Q (.bool (lexLt ns ms)) s from⟨(λx=>nomatch x),h⟩⟩ hu
theorem cat_tup {t b:Af}{vs ws:Aa Ac}(ht:Sm s.heap t vs.toArray)(hb:Sm s.heap b ws.toArray)(hv:vs≠[])
  (h1:ws=[]->Q (.ref t) s) (h2:ws≠[]->Q (.ref s.heap.objs.size) { s with heap:=s.heap.push { cls:=.type "tuple",data:=.seq (vs++ws).toArray } })
  (hsz:vs.length+ws.length<=sizeLine):Ao (As prog w) A (Fa .Add (.ref t) (.ref b)) Q E s:=by
 obtain⟨⟨cls,dd,data,sl⟩,ho,hc,n,hd⟩:=id ht;obtain⟨⟨cls2,dd2,data2,sl2⟩,ho2,hc2,n2,hd2⟩:=id hb;simp only at hc hd hc2 hd2;subst hc hd hc2 hd2;have e:vs.toArray++ws.toArray=(vs++ws).toArray:=by simp
 by_cases hw:ws=[]
 .exact WF ⟨_,ho,rfl⟩ ⟨_,ho2,rfl⟩ Sb Vs Ny Nd (Mw _ _)
   (tuple_addW1 t b vs.toArray ws.toArray n n2 dd dd2 sl sl2 (by simpa using hv) (by simp[hw])) ⟨ho,ho2,h1 hw⟩
 .refine WF ⟨_,ho,rfl⟩ ⟨_,ho2,rfl⟩ Sb Vs Ny Nd (Mw _ _)
   (tuple_addW2 t b vs.toArray ws.toArray n n2 dd dd2 sl sl2 (by simpa using hv) (by simpa using hw) (by rw[Bf,Bf];exact hsz)) ⟨ho,ho2,?_⟩
  rw[e];exact h2 hw
noncomputable def sIx (n d:Ai):Ak Al->Ai
 |none=>d
 |some v=>if v<0 then (v+(n:Al)).toNat else min v.toNat n
theorem sIx_none (n d:Ai):sIx n d none=d:=rfl
theorem sIx_nat (n d k:Ai):sIx n d (Ab (k:Al))=min k n:=by
 show (if (k:Al)<0 then ((k:Al)+(n:Al)).toNat else min (k:Al).toNat n)=min k n
 rw[Bm li,Ez]
theorem SD (n d:Ai)(hd:d<=n)(o:Ak Al):sIx n d o<=n:=by
 cases o with
 |none=>exact hd
 |some v =>
  show (if v<0 then (v+(n:Al)).toNat else min v.toNat n)<=n
  by_cases hv:v<0
  .rw[Bl hv];lia
  .rw[Bm hv];exact Nat.min_le_right _ _
theorem eZ (v:Al)(n d:Ai):(if v<0 then max (v+(n:Al)) 0 else min v (n:Al))=((sIx n d (Ab v):Ai):Al):=by
 show (if v<0 then max (v+(n:Al)) 0 else min v (n:Al))=(((if v<0 then (v+(n:Al)).toNat else min v.toNat n):Ai):Al)
 by_cases hv:v<0
 .simp only[Bl hv];lia
 .simp only[Bm hv];lia
theorem iA (lo hi:Ak Al)(n:Ai):Ma lo hi 1 (n:Al)=(((sIx n 0 lo:Ai):Al),((sIx n n hi:Ai):Al)):=by
 have h1:¬ ((1:Al)<0):=by lia
 unfold Ma;simp only[h1,Ef];refine Prod.ext ?_ ?_
 .cases lo with
  |none=>rfl
  |some v=>exact eZ v n 0
 .cases hi with
  |none=>rfl
  |some v=>exact eZ v n n
theorem o9 (i j:Ai):Jp (i:Al) (j:Al) 1=j-i:=by
 unfold Jp;have h1:(1:Al)>0:=by lia
 simp only[h1,Dw,Int.ediv_one]
 split <;> lia
theorem mH {v:Ac}{o:Ak Al}{Q:Ak Al->Ag->Prop}(p:Qj v o)(h:Q o s):Ao (As prog w) A (Zx v) Q E s:=by
 cases p with
 |none=>exact slicePart_none h
 |int i t=>exact slicePart_int h
theorem jF {sl:Af}{vl vu:Ac}{n:Ai}{Q:Al × Al × Ai->Ag->Prop}(hs:s.heap.IsSliceOf sl vl vu .none)(pl:Qj vl lo)(pu:Qj vu hi)
  (h:Q (((sIx n 0 lo:Ai):Al),1,sIx n n hi-sIx n 0 lo) s):Ao (As prog w) A (Qk (.ref sl) (pure (n:Al))) Q E s:=by
 obtain⟨os,hos,hcs,hds⟩:=id hs;unfold Qk Builtin.Slice.sliceFields;refine Ad (Ad (Eg hos hds (x:=vl) rfl (Ad (Eg hos hds (x:=vu) rfl (Ad (Eg hos hds (x:=.none) rfl (Am ?_)))))));refine Ad (slicePart_none ?_);show Ao _ _ (if ((1:Al) == 0)=true then _ else _) _ _ s
 rw[Bm (by decide)]
 refine Ad (mH pl (Ad (mH pu (Ad (Am ?_)))));show Ao _ _ (match Ma lo hi 1 (n:Al) with|(lo,hi)=>pure (lo,(1:Al),Jp lo hi 1)) _ _ s
 rw[iA lo hi n];show Ao _ _ (pure (((sIx n 0 lo:Ai):Al),(1:Al),Jp ((sIx n 0 lo:Ai):Al) ((sIx n n hi:Ai):Al) 1)) _ _ s;rw[o9];exact Am h
theorem VI (xs:Ax Ac)(i k:Ai):((De k).filterMap λ(m:Ai)=>xs[((i:Al)+(m:Al)*1).toNat]?).toArray=((xs.toList.drop i).take k).toArray:=by
 have e:(λ(m:Ai)=>xs[((i:Al)+(m:Al)*1).toNat]?)=λm=>xs[i+m]?:=by
  funext m
  have:((i:Al)+(m:Al)*1).toNat=i+m:=by lia
  rw[this]
 rw[e];have:=pick_run xs i k;rw[List.filterMap_map] at this;have e2:((λx=>xs[x]?)∘λx=>i+x)=λm=>xs[i+m]?:=rfl;rw[e2] at this;rw[this]
theorem getItem_tuple_cut {t sl:Af}{vl vu:Ac}(ht:Sm s.heap t items)(hs:s.heap.IsSliceOf sl vl vu .none)(pl:Qj vl lo)(pu:Qj vu hi)
  (hw:¬ (sIx items.size 0 lo=0/\sIx items.size items.size hi=items.size))
  (h:Q (.ref s.heap.objs.size) { s with heap:=s.heap.push { cls:=.type "tuple",data:=.seq ((items.toList.drop (sIx items.size 0 lo)).take (sIx items.size items.size hi-sIx items.size 0 lo)).toArray } })
  (hsz:items.size<=sizeLine):Ao (As prog w) A (Qx (.ref t) (.ref sl)) Q E s:=by
 have htake:sizeOk (.seq ((items.toList.drop (sIx items.size 0 lo)).take (sIx items.size items.size hi-sIx items.size 0 lo)).toArray):=by
  show ((items.toList.drop (sIx items.size 0 lo)).take (sIx items.size items.size hi-sIx items.size 0 lo)).toArray.size<=sizeLine;rw[Bf,El,Hw,Bg]
  lia
 have hj:sIx items.size items.size hi<=items.size:=SD _ _ (Au _) hi;obtain⟨os,hos,hcs,hds⟩:=id hs;have hTs:s.TypeIs (.ref sl) "slice":=⟨os,hos,hcs⟩;unfold Qx
 try with_reducible refine Ee ?_
 first|refine Ad (Am ?_)|skip
 refine Ad (Xs ht.typeIs (by decide) ?_)
 refine Ad (Eh (name:=Il "__getitem__") ht.typeIs Ft
  (Em Ft ht.typeIs Vt ?_ (Wp _ _)))
 show Ao _ _ (Ql (.ref t) >>= _) _ _ s;refine Ad (tupleItemsOf_ ht ?_);refine Ad (Ng hTs ?_);rw[Bl (by decide)]
 refine Ad (jF hs pl pu ?_);have hno:¬ ((((sIx items.size 0 lo:Ai):Al) == 0&&(1:Al) == 1&&(sIx items.size items.size hi-sIx items.size 0 lo) == items.size)=true):=by
  intro q;rw[Az,Az] at q;have q1:((sIx items.size 0 lo:Ai):Al)=0:=eq_of_beq q.1.1;have q2:sIx items.size items.size hi-sIx items.size 0 lo=items.size:=eq_of_beq q.2;exact hw ⟨by lia,by lia⟩
 show Ao _ _ (if (((sIx items.size 0 lo:Ai):Al) == 0&&(1:Al) == 1&&(sIx items.size items.size hi-sIx items.size 0 lo) == items.size)=true then _ else _) _ _ s
 rw[Bm hno,VI]
 first
  |exact Ad (m:=Jy _) (Eo (Am ⟨_,rfl,Am h⟩) htake)
  |exact Ad (m:=Jy _) (Eo (Ad (Am (Am ⟨_,rfl,Am h⟩))) htake)
  |exact Ad (Ad (m:=Jy _) (Eo (Am (Am ⟨_,rfl,Am h⟩)) htake))
  |exact Ad (Ad (m:=Jy _) (Eo (Am ⟨_,rfl,Am h⟩) htake))
end
end _H
namespace _L
open PySem PySem.Spec PyProof.Rows
abbrev TO:=St->Hp->(Ak Al->Hp->Prop)->Prop
def PO (X:Cx)(e:Ak Bw)(t:TO):Prop:=
 ∀ (pins:Aa (Af × Co)) (s:Ag) (σ : St) (H:Hp) (Q:Ak Al->Hp->Prop),Inv X pins σ H s->t σ H Q ->
  Ao (As X.prog X.w) X.A (evalPart e X.env) (λu s'=>∃ o H',Inv X pins σ H' s'/\Qj u o/\Q o H') X.xe s
def FF:TO:=λ_ H Q=>Q none H
def HB (t:TE):TO:=λσ H Q=>t σ H λx H1=>∃ i,x=.int i/\Q (Ab i) H1
theorem uD {ns:Aa Al}:∀ {us:Aa Ac},qK (ns.map V.int) us->Jo us ns:=by
 induction ns with
 |nil=>intro us r;rw[WP] at r;cases r;exact .nil
 |cons n ns ih =>
  intro us r;rw[Dv] at r;cases r with
  |cons r1 r2 =>
   obtain⟨t,e⟩:=r1;subst e;exact .cons n t (ih r2)
section
variable {X:Cx}{e:Bw}{te:TE}{lo hi:Ak Bw}{tl th:TO}{pos p2:Fl}
theorem BI:PO X none FF:=by
 intro pins s σ H Q I h;rw[evalPart_none];exact Am ⟨none,H,I,.none,h⟩
theorem BJ (h:PE X e te):PO X (Ab e) (HB te):=by
 intro pins s σ H Q I hw;rw[evalPart_some];refine thn (h pins s σ H _ I hw) λu s1 ⟨x,H1,I1,r1,q1⟩=>?_;obtain⟨i,rfl,q⟩:=q1;obtain⟨t,rfl⟩:=r1;exact⟨Ab i,H1,I1,.int i t,q⟩
def SlR (X:Cx)(r:V->Ak Al->Ak Al->Hp->VK->Prop):Prop:=
 ∀ (pins:Aa (Af × Co)) (s:Ag) (σ : St) (H:Hp) (x:V) (v vl vu:Ac) (lo hi:Ak Al) (sl:Af) (Q:VK),Inv X pins σ H s->qL x v->s.heap.IsSliceOf sl vl vu .none->Qj vl lo->Qj vu hi->r x lo hi H Q ->
  ∃ T id,typeLookup (.type T) "__getitem__" = pure (Ab (.builtin id))/\s.TypeIs v T/\Ao (As X.prog X.w) X.A (Qx v (.ref sl)) (EP X pins σ Q) X.xe s
theorem SlR.or {r r':V->Ak Al->Ak Al->Hp->VK->Prop}(h:SlR X r)(h':SlR X r'):SlR X (λx lo hi H Q=>r x lo hi H Q\/r' x lo hi H Q):=by
 intro pins s σ H x v vl vu lo hi sl Q I rx hs pl pu q;rcases q with q|q
 .exact h pins s σ H x v vl vu lo hi sl Q I rx hs pl pu q
 .exact h' pins s σ H x v vl vu lo hi sl Q I rx hs pl pu q
def tSl (r:V->Ak Al->Ak Al->Hp->VK->Prop)(te:TE)(tl th:TO):TE:=λσ H Q=>te σ H λx H1=>tl σ H1 λl H2=>th σ H2 λu H3=>r x l u H3 Q
theorem VG {r:V->Ak Al->Ak Al->Hp->VK->Prop}(hr:SlR X r)(he:PE X e te)(hl:PO X lo tl)(hu:PO X hi th):PE X (.Subscript e (.Slice lo hi none p2) pos) (tSl r te tl th):=by
 intro pins s σ H Q I h;refine Subscript_ (thn (he pins s σ H _ I h) λv s1 ⟨x,H1,I1,r1,q1⟩=>?_);refine wpAny_Slice (thn (hl pins s1 σ H1 _ I1 q1) λvl s2 ⟨l,H2,I2,pl,q2⟩=>thn (hu pins s2 σ H2 _ I2 q2) λvu s3 ⟨u,H3,I3,pu,q3⟩=>?_);rw[evalPart_none];refine Am ?_;have I4:Inv X pins σ H3 { s3 with heap:=s3.heap.push { cls:=.type "slice",data:=.fields #[vl,vu,.none] } }:=I3.kept (t':=s3.toks) λb ob q=>Ah _ q
 obtain⟨T,id,hT,ht,hg⟩:=hr pins { s3 with heap:=s3.heap.push { cls:=.type "slice",data:=.fields #[vl,vu,.none] } } σ H3 x v vl vu l u s3.heap.objs.size Q I4 r1 (AaG ..) pl pu q3
 show Ao (As X.prog X.w) X.A (Vu e (.Slice lo hi none p2) v (.ref s3.heap.objs.size)) (EP X pins σ Q) X.xe { s3 with heap:=s3.heap.push { cls:=.type "slice",data:=.fields #[vl,vu,.none] } }
 exact tail_any (ops:=[.ref s3.heap.objs.size,v]) ht hT hg (by with_unfolding_all rfl)
noncomputable def pA (xs:Aa V)(lo hi:Ak Al):Aa V:=(xs.drop (_H.sIx xs.length 0 lo)).take (_H.sIx xs.length xs.length hi-_H.sIx xs.length 0 lo)
theorem bH (xs:Aa V)(lo hi:Ak Al):(pA xs lo hi).length<=xs.length:=by
 unfold pA;rw[El,Hw]
 lia
def AB (K:Aj):V->Ak Al->Ak Al->Hp->VK->Prop:=λx lo hi H Q=>∃ a xs,x=.ref a/\SqT K H a xs /\
 ¬ (_H.sIx xs.length 0 lo=0/\_H.sIx xs.length xs.length hi=xs.length)/\∀ p,H p=none->Q (.ref p) (upd H p (.tup (pA xs lo hi)))
theorem SG:SlR X (AB X.K):=by
 intro pins s σ H x v vl vu lo hi sl Q I rx hs pl pu h;obtain⟨a,xs,rfl,hx,hw,q⟩:=h;cases rx;obtain⟨its,r,ht,hz⟩:=I.tuple hx;have hlen:its.toArray.size=xs.length:=by rw[Bf];exact r.length.symm
 refine⟨"tuple",_,Ft.lookup,ht.typeIs,?_⟩;refine _H.getItem_tuple_cut ht hs pl pu (by rw[hlen];exact hw) ?_ (by rw[hlen];exact hz)
 rw[hlen];refine⟨.ref s.heap.objs.size,_,I.laid (t':=s.toks) (o:=.tup (pA xs lo hi)) (λb ob q=>Ah _ q) (Au _) ?_,rfl,q _ (I.hok.fresh (Au _))⟩;exact⟨DL (bH xs lo hi) hz,_,(r.drop (_H.sIx xs.length 0 lo)).take (_H.sIx xs.length xs.length hi-_H.sIx xs.length 0 lo),Uc _ _⟩
end
end _L
namespace _L
open PySem PySem.Spec PyProof.Rows
variable {pins:Aa (Af × Co)}{s:Ag}{H:Hp}{σ:St}
noncomputable def ixN (n:Ai)(i:Al):Ak Ai:=if 0<=i then (if i<n then Ab i.toNat else none) else if -(n:Al)<=i then Ab (i+n).toNat else none
noncomputable def atI {α:Type}(xs:Aa α)(i:Al):Ak α:=(ixN xs.length i).bind λj=>xs[j]?
theorem cI {n:Ai}{i:Al}{j:Ai}(h:ixN n i=Ab j):seqIndex? i n=Ab j/\j<n /\ -(n:Al)<=i/\i<n:=by
 unfold ixN at h;by_cases h0:0<=i
 .rw[Bl h0] at h
  by_cases h1:i<n
  .rw[Bl h1] at h
   have e:i.toNat=j:=Ct h;exact⟨by rw[Yq h0 h1,e],by lia,by lia,h1⟩
  .rw[Bm h1] at h;cases h
 .rw[Bm h0] at h
  by_cases h1 : -(n:Al)<=i
  .rw[Bl h1] at h
   have e:(i+n).toNat=j:=Ct h;exact⟨by rw[seqIndex_neg li h1,e],by lia,h1,by lia⟩
  .rw[Bm h1] at h;cases h
theorem eW {α:Type}{xs:Aa α}{i:Al}{v:α}(h:atI xs i=Ab v):∃ j,seqIndex? i xs.length=Ab j/\xs[j]? = Ab v/\j<xs.length /\ -(xs.length:Al)<=i/\i<xs.length:=by
 unfold atI at h;cases e:ixN xs.length i with
 |none=>rw[e] at h;cases h
 |some j =>
  rw[e] at h;obtain⟨h1,h2,h3,h4⟩:=cI e;exact⟨j,h1,h,h2,h3,h4⟩
def mO (b:Bw):Prop:=∀ o i,subscripted b false o i=operate [o,i] (Qx o i)
def IxR (X:Cx)(r:R2):Prop:=
 ∀ (value slice:Bw) (pins:Aa (Af × Co)) (s:Ag) (σ : St) (H:Hp) (x y:V) (v u:Ac) (Q:VK),Inv X pins σ H s->qL x v->qL y u->r x y H Q ->
  subscripted slice false v u=operate [v,u] (Qx v u)->Ao (As X.prog X.w) X.A (Vu value slice v u) (EP X pins σ Q) X.xe s
def MtR (X:Cx)(id:Dx)(r:V->Aa V->Hp->VK->Prop):Prop:=
 ∀ (pins:Aa (Af × Co)) (s:Ag) (σ : St) (H:Hp) (x:V) (xs:Aa V) (v:Ac) (us:Aa Ac) (Q:VK),Inv X pins σ H s->qL x v->qK xs us->r x xs H Q ->
  Ao (As X.prog X.w) X.A (call (.builtin id) (v::us)) (EP X pins σ Q) X.xe s
section
variable {X:Cx}{a b:Bw}{ta tb:TE}{pos:Fl}
theorem IxR.or {r r':R2}(h:IxR X r)(h':IxR X r'):IxR X (λx y H Q=>r x y H Q\/r' x y H Q):=by
 intro value slice pins s σ H x y v u Q I rx ry q hs;rcases q with q|q
 .exact h value slice pins s σ H x y v u Q I rx ry q hs
 .exact h' value slice pins s σ H x y v u Q I rx ry q hs
theorem MtR.or {id:Dx}{r r':V->Aa V->Hp->VK->Prop}(h:MtR X id r)(h':MtR X id r'):MtR X id (λx xs H Q=>r x xs H Q\/r' x xs H Q):=by
 intro pins s σ H x xs v us Q I rx rs q;rcases q with q|q
 .exact h pins s σ H x xs v us Q I rx rs q
 .exact h' pins s σ H x xs v us Q I rx rs q
theorem EH {r:R2}(hr:IxR X r)(ha:PE X a ta)(hb:PE X b tb)(hs:mO b):PE X (.Subscript a b pos) (tOp r ta tb):=by
 intro pins s σ H Q I h;exact Subscript_ (CC ha hb I h λv u s2 x y H2 I2 rx ry q=>hr a b pins s2 σ H2 x y v u Q I2 rx ry q (hs _ _))
def A7 (K:Aj):R2:=λx y H Q=>∃ p xs i v,x=.ref p/\y=.int i/\SqL K H p xs/\atI xs i=Ab v/\Q v H
def A8 (K:Aj):R2:=λx y H Q=>∃ p xs i v,x=.ref p/\y=.int i/\SqT K H p xs/\atI xs i=Ab v/\Q v H
theorem cJ:IxR X (A7 X.K):=by
 intro value slice pins s σ H x y v u Q I rx ry h hs;obtain⟨p,xs,i,z,rfl,rfl,hq,he,q⟩:=h;cases rx;obtain⟨t,rfl⟩:=ry;obtain⟨its,r,pl,hz⟩:=I.list hq;obtain⟨j,h1,h2,h3,h4,h5⟩:=eW he;obtain⟨w,ew,rw'⟩:=r.get h2;have hl:=r.length;have hn:=pH;have fin:EP X pins σ Q w s:=⟨z,H,I,rw',q⟩;by_cases h0:0<=i
 .have hj:i.toNat=j:=by
   rw[Yq h0 h5] at h1;exact Ct h1
  exact item_listR pl.isList h0 li (by rw[hj];simpa using ew) fin hs
 .have hj:(i+(its.toArray.size:Al)).toNat=j:=by
   rw[seqIndex_neg li h4] at h1;rw[Bf,<- hl];exact Ct h1
  exact Tk (x:=w) pl.isList.typeIs Xt.lookup
   (wpAny_getItem_list_neg (Q:=λr s'=>r=w/\EP X pins σ Q r s') pl.isList li (by rw[Bf] <;> lia) li (by rw[hj];simpa using ew) ⟨rfl,fin⟩) hs
theorem NC:IxR X (A8 X.K):=by
 intro value slice pins s σ H x y v u Q I rx ry h hs;obtain⟨p,xs,i,z,rfl,rfl,hq,he,q⟩:=h;cases rx;obtain⟨t,rfl⟩:=ry;obtain⟨its,r,pl,hz⟩:=I.tuple hq;obtain⟨j,h1,h2,h3,h4,h5⟩:=eW he;obtain⟨w,ew,rw'⟩:=r.get h2;have hl:=r.length;have hn:=pH;have fin:EP X pins σ Q w s:=⟨z,H,I,rw',q⟩;exact Tk (x:=w) pl.typeIs slot_tuple_getitem.lookup
  (getItem_tuple (j:=j) (Q:=λr s'=>r=w/\EP X pins σ Q r s') pl li li (by rw[Bf,<- hl];exact h1) (by simpa using ew) ⟨rfl,fin⟩) hs
theorem o3 (its:Aa Ac)(n j:Ai)(u:Ac):Fb (·.setIfInBounds j u) { cls:=.type "list",data:=.seq its.toArray n } = { cls:=.type "list",data:=.seq (its.set j u).toArray n }:=by
 simp[Fb]
theorem Inv.lst {p:Af}{xs:Aa V}(I:Inv X pins σ H s)(h:H p=Ab (.lst xs)) :
  ∃ (its:Aa Ac) (n:Ai),qK xs its/\s.heap.get? p=Ab { cls:=.type "list",data:=.seq its.toArray n } /\ xs.length<=sizeLine:=by
 obtain⟨z,its,n,r,e⟩:=I.hok p _ h;exact⟨its,n,r,e,z⟩
theorem Inv.lstUpd {p:Af}{xs ys:Aa V}{its its':Aa Ac}{n n':Ai}{f:Co->Co}(I:Inv X pins σ H s)(h:H p=Ab (.lst xs))
  (ho:s.heap.get? p=Ab { cls:=.type "list",data:=.seq its.toArray n }) (hf:f { cls:=.type "list",data:=.seq its.toArray n } = { cls:=.type "list",data:=.seq its'.toArray n' }) (r:qK ys its') (hz:ys.length<=sizeLine) (t:Ai) :
  Inv X pins σ (upd H p (.lst ys)) { s with heap:=s.heap.update p f,toks:=t }:=by
 have e:(s.heap.update p f).get? p=Ab { cls:=.type "list",data:=.seq its'.toArray n' }:=by
  rw[Gd f ho (by rw[hf] <;> rfl),hf]
 refine I.write (x:=p) (e:=p) (by rw[h];trivial) (.inl rfl) (λb u hb q=>(Di _ _ (Gb hb)).trans q) ⟨_,e⟩ ?_
 exact⟨hz,its',n',r,e⟩
def ES:V->V->V->Hp->(Hp->Prop)->Prop:=λo i v H Q=>∃ p xs k j,o=.ref p/\i=.int k/\H p=Ab (.lst xs)/\ixN xs.length k=Ab j/\Q (upd H p (.lst (xs.set j v)))
theorem U6:dJ X ES:=by
 intro pins s σ H o i v ov iv u Q I ro ri rv h;obtain⟨p,xs,k,j,rfl,rfl,hp,hj,q⟩:=h;cases ro;obtain⟨t,rfl⟩:=ri;obtain⟨its,n,r,ho,hz⟩:=I.lst hp;obtain⟨h1,h2,h3,h4⟩:=cI hj;have hl:=r.length;have hn:=pH;have I':Inv X pins σ (upd H p (.lst (xs.set j v))) { s with heap:=s.heap.update p (Fb (·.setIfInBounds j u)) }:=
  I.lstUpd hp ho (o3 its n j u) (r.set rv j) (by rw[Zj];exact hz) s.toks
 by_cases h0:0<=k
 .have hk:k.toNat=j:=by
   rw[Yq h0 h4] at h1;exact Ct h1
  exact PySem.W.ki_setAt ho h0 li (by rw[Bf,<- hl];exact h4) (by rw[hk];exact⟨_,I',q⟩)
 .have hk:(k+(its.toArray.size:Al)).toNat=j:=by
   rw[seqIndex_neg li h3] at h1;rw[Bf,<- hl];exact Ct h1
  exact PySem.W.ki_setBack ho li (by rw[Bf,<- hl];exact h3) li (by rw[hk];exact⟨_,I',q⟩)
theorem rQ (lo hi:Ak Al)(n:Ai):(Mm lo hi none n).1=((_H.sIx n 0 lo:Ai):Al)/\(Mm lo hi none n).2.1=((_H.sIx n n hi:Ai):Al)/\(Mm lo hi none n).2.2=1:=by
 refine⟨?_,?_,rfl⟩
 .cases lo with
  |none=>simp[Mm,_H.sIx]
  |some i =>
   simp only[Mm,_H.sIx,Yr,show (1:Al)>0 by decide,Dw]
   by_cases h:i<0
   .simp only[h,Dw] <;> lia
   .simp only[h,Ef] <;> lia
 .cases hi with
  |none=>simp[Mm,_H.sIx]
  |some i =>
   simp only[Mm,_H.sIx,Yr,show (1:Al)>0 by decide,Dw]
   by_cases h:i<0
   .simp only[h,Dw] <;> lia
   .simp only[h,Ef] <;> lia
theorem lQ (its:Aa Ac)(lo hi:Ak Al):slicePick its.toArray lo hi none=((its.drop (_H.sIx its.length 0 lo)).take (_H.sIx its.length its.length hi-_H.sIx its.length 0 lo)).toArray:=by
 obtain⟨h1,h2,h3⟩:=rQ lo hi its.toArray.size;unfold slicePick;rw[h1,h2,h3];simp only[sliceRange_one,pick_run,Bf] <;> rfl
def AA (K:Aj):V->Ak Al->Ak Al->Hp->VK->Prop:=λx lo hi H Q=>∃ a xs,x=.ref a/\SqL K H a xs/\∀ p,H p=none->Q (.ref p) (upd H p (.lst (pA xs lo hi)))
theorem aL:SlR X (AA X.K):=by
 intro pins s σ H x v vl vu lo hi sl Q I rx hs pl pu h;obtain⟨a,xs,rfl,hx,q⟩:=h;cases rx;obtain⟨its,r,ht,hz⟩:=I.list hx;have hlen:=r.length;refine⟨"list",_,Xt.lookup,ht.isList.typeIs,?_⟩;refine wpAny_getItem_list_slice ht.isList hs pl pu .none (by simp) ?_ (by rw[Bf] <;> lia)
 rw[lQ,<- hlen];refine⟨.ref s.heap.objs.size,_,I.laid (t':=s.toks) (o:=.lst (pA xs lo hi)) (λb ob q=>Ah _ q) (Au _) ?_,rfl,q _ (I.hok.fresh (Au _))⟩;exact⟨DL (bH xs lo hi) hz,_,0,(r.drop (_H.sIx xs.length 0 lo)).take (_H.sIx xs.length xs.length hi-_H.sIx xs.length 0 lo),Ba _ rfl⟩
theorem jK.or {f:Ac}{r r':Aa V->Hp->VK->Prop}(h:jK X f r)(h':jK X f r'):jK X f (λxs H Q=>r xs H Q\/r' xs H Q):=by
 intro pins s σ H xs us Q I rs q;rcases q with q|q
 .exact h pins s σ H xs us Q I rs q
 .exact h' pins s σ H xs us Q I rs q
theorem p8:jK X (.type "list") (λxs H Q=>∃ p ys,xs=[.ref p]/\(SqL X.K H p ys\/SqT X.K H p ys)/\∀ l,H l=none->Q (.ref l) (upd H l (.lst ys))):=by
 intro pins s σ H xs us Q I r h;obtain⟨p,ys,rfl,hq,q⟩:=h;obtain⟨u,rfl,rx⟩:=uJ r;cases rx;have fin:∀ (its:Aa Ac),qK ys its->ys.length<=sizeLine->∀ (h':Bq) (c':Ai),(∀ b o',s.heap.get? b=Ab o'->h'.get? b=Ab o') ->
   h'.get? s.heap.objs.size=Ab { cls:=.type "list",dict:=none,data:=.seq its.toArray c',slots:=#[] } -> EP X pins σ Q (.ref s.heap.objs.size) { s with heap:=h' }:=λits r' hz h' c' kp e =>
  ⟨.ref s.heap.objs.size,_,I.laid (t':=s.toks) kp (Au _) (show z9 X.prog X.w _ h' _ (.lst ys) from⟨hz,its,c',r',e⟩),rfl,q _ (I.hok.fresh (Au _))⟩
 rcases hq with hq|hq
 .obtain⟨its,r',pl,hz⟩:=I.list hq
  have hlen:=r'.length;obtain⟨o,ho,hc,n,hd⟩:=pl.isList;exact call_list_seq p (.inl rfl) ho hc hd (λh' c' kp e=>fin its r' hz h' c' kp e) (by simp only[Bf] <;> lia)
 .obtain⟨its,r',pl,hz⟩:=I.tuple hq
  have hlen:=r'.length;obtain⟨o,ho,hc,n,hd⟩:=pl;exact call_list_seq p (.inr rfl) ho hc hd (λh' c' kp e=>fin its r' hz h' c' kp e) (by simp only[Bf] <;> lia)
theorem gW:jK X (.type "tuple") (λxs H Q=>∃ p ys,xs=[.ref p]/\((SqL X.K H p ys/\∀ l,H l=none->Q (.ref l) (upd H l (.tup ys)))\/(SqT X.K H p ys/\Q (.ref p) H))):=by
 intro pins s σ H xs us Q I r h;obtain⟨p,ys,rfl,h⟩:=h;obtain⟨u,rfl,rx⟩:=uJ r;cases rx;rcases h with⟨hq,q⟩|⟨hq,q⟩
 .obtain⟨its,r',pl,hz⟩:=I.list hq
  have hlen:=r'.length;refine call_tuple_list pl.isList (λh' kp=>?_) (by simp only[Bf] <;> lia)
  have I1:Inv X pins σ H { s with heap:=h' }:=I.kept (t':=s.toks) kp
  have I2:Inv X pins σ (upd H h'.objs.size (.tup ys)) { s with heap:=h'.push { cls:=.type "tuple",data:=.seq its.toArray } }:=
   I1.laid (t':=s.toks) (λb o e=>Ah _ e) (Au _) (show z9 X.prog X.w _ _ _ (.tup ys) from⟨hz,its,r',Uc _ _⟩)
  exact⟨.ref h'.objs.size,_,I2,rfl,q _ (I1.hok.fresh (Au _))⟩
 .obtain⟨its,r',pl,hz⟩:=I.tuple hq
  exact call_tuple_same pl ⟨.ref p,H,I,rfl,q⟩
def tyV (K:Aj)(T:Dx)(x:V)(H:Hp):Prop:=match x with
 |.str _=>T = "str"
 |.int _=>T = "int"
 |.ref p=>(T = "list" /\ ∃ xs,SqL K H p xs)\/(T = "tuple" /\ ∃ o,K.lookup p=Ab o/\o.cls=.type "tuple" /\ o.dict=none) \/
   (T = "dict" /\ ((∃ kvs,H p=Ab (.dK kvs))\/∃ kvs,H p=Ab (.dT kvs)))\/(T = "set" /\ ∃ S n,H p=Ab (.set S n))
 |_=>Fh
theorem XY {T:Dx}{x:V}{v:Ac}(I:Inv X pins σ H s)(r:qL x v)(ty:tyV X.K T x H) :
  s.TypeIs v T/\∀ a,v=.ref a->∃ ob,s.heap.get? a=Ab ob/\ob.dict=none:=by
 cases x with
 |str z =>
  obtain⟨t,rfl⟩:=r;cases (show T = "str" from ty)
  exact⟨typeIs_str s z t,λ_ e=>nomatch e⟩
 |int i =>
  obtain⟨t,rfl⟩:=r;cases (show T = "int" from ty)
  exact⟨Zy s i t,λ_ e=>nomatch e⟩
 |ref p =>
  cases r;rcases ty with⟨rfl,xs,hq⟩|⟨rfl,o,hk,hc,hd⟩|⟨rfl,hk⟩|⟨rfl,S,n,hk⟩
  .obtain⟨its,_,pl,_⟩:=I.list hq
   refine⟨pl.isList.typeIs,λa e=>?_⟩;cases e;obtain⟨o,n,e,c,hd,_⟩:=pl;exact⟨o,e,hd⟩
  .refine⟨⟨o,I.kIn p o hk,hc⟩,λa e=>?_⟩
   cases e;exact⟨o,I.kIn _ o hk,hd⟩
  .have z:∃ o,s.heap.get? p=Ab o/\o.ExactDict:=by
    rcases hk with⟨kvs,hk⟩|⟨kvs,hk⟩
    .obtain⟨_,_,_,_,o,_,_,e,ex,_⟩:=I.hok p _ hk
     exact⟨o,e,ex⟩
    .obtain⟨_,_,_,_,o,_,_,e,ex,_⟩:=I.hok p _ hk
     exact⟨o,e,ex⟩
   obtain⟨o,e,ex⟩:=z;refine⟨⟨o,e,ex.1⟩,λa e2=>?_⟩;cases e2;exact⟨o,e,ex.2.1⟩
  .obtain⟨o,_,_,_,e,ex,_⟩:=I.hok p _ hk
   refine⟨⟨o,e,ex.1⟩,λa e2=>?_⟩;cases e2;exact⟨o,e,ex.2.1⟩
 |_=>exact An ty
variable {o e:Bw}{es:Aa Bw}{to:TE}{t:TA}{name:Ap}{apos cpos:Fl}{T id:Dx}{r:V->Aa V->Hp->VK->Prop}
/- xs.append(e),list.index on a module's tuple .. are MtR facts of 06m -/
end
end _L
namespace _L
open PySem PySem.Spec PyProof.Rows
variable {us:Aa Ac}
def MtM (X:Cx)(id:Dx)(r:V->Aa V->Hp->VK->Prop):Prop:=
 ∀ (pins:Aa (Af × Co)) (s:Ag) (σ : St) (H:Hp) (x:V) (xs:Aa V) (v:Ac) (us:Aa Ac) (Q:VK),Inv X pins σ H s->qL x v->qK xs us->r x xs H Q ->
  Ao (As X.prog X.w) X.A (call (.builtin id) (v::us)) (EP X pins σ Q) X.xe s
theorem qK.one {x:V}(h:qK [x] us):∃ u,us=[u]/\qL x u:=uJ h
theorem qK.two {x y:V}(h:qK [x,y] us):∃ u v,us=[u,v]/\qL x u/\qL y v:=mI h
theorem qK.rep {xs:Aa V}(h:qK xs us):∀ k:Ai,qK (Dg k xs).flatten (Dg k us).flatten
 |0=>.nil
 |k+1=>by
  rw[Go,Go,Ih,Ih];exact qK.append h (qK.rep h k)
theorem l5 (its:Aa Ac):∀ (k:Ai) (acc:Aa Ac),
  Zz (λx1 x2=>x1++x2) acc.toArray (Dg k its.toArray)=(acc++(Dg k its).flatten).toArray
 |0,acc=>by simp
 |k+1,acc=>by
  have e:acc.toArray++its.toArray=(acc++its).toArray:=by simp
  have e2:(acc++its)++(Dg k its).flatten=acc++(Dg (k+1) its).flatten:=by
   rw[Go,Ih,Cp]
  rw[<- e2,<- l5 its k (acc++its),<- e,Go,Kq]
section
variable {X:Cx}{pins:Aa (Af × Co)}{σ : St}{H:Hp}{s:Ag}{l b:Af}{xs ys zs:Aa V}
theorem Inv.lset {its its':Aa Ac}{n:Ai}{f:Ax Ac->Ax Ac}{t':Ai}(I:Inv X pins σ H s)(hH:H l=Ab (.lst xs))
  (e:s.heap.get? l=Ab { cls:=.type "list",data:=.seq its.toArray n }) (hf:f its.toArray=its'.toArray) (hv:qK ys its') (hz:ys.length<=sizeLine) :
  Inv X pins σ (upd H l (.lst ys)) { s with heap:=s.heap.update l (Fb f),toks:=t' }:=by
 have q:=Ys e f;rw[hf] at q;refine I.write (x:=l) (e:=l) (by rw[hH];exact trivial) (.inl rfl) (λb' u hb hu=>(Di s.heap (Fb f) (Gb hb)).trans hu) ⟨_,q⟩ ?_
 exact⟨hz,its',_,hv,q⟩
theorem Inv.lstM (I:Inv X pins σ H s)(hH:H l=Ab (.lst xs)):xs.length<=sizeLine/\∃ (its:Aa Ac) (n:Ai),qK xs its/\xs.length=its.length/\s.heap.get? l=Ab { cls:=.type "list",data:=.seq its.toArray n }:=by
 obtain⟨z,its,n,r,e⟩:=I.hok l _ hH;exact⟨z,its,n,r,r.length,e⟩
theorem VA {n:Ai}(h:n<=sizeLine):Mx n=false:=by
 unfold Mx;exact Dd li
end
section
variable {X:Cx}
def F1:V->Aa V->Hp->VK->Prop:=λx vs H Q=>∃ l xs y,x=.ref l/\vs=[y]/\H l=Ab (.lst xs)/\xs.length<sizeLine/\Q .non (upd H l (.lst (xs++[y])))
theorem ZM:MtM X "list.append" F1:=by
 intro pins s σ H x vs v us Q I rx rv h;obtain⟨l,xs,y,rfl,rfl,hH,hz,q⟩:=h;cases rx;obtain⟨u,rfl,ru⟩:=rv.one;obtain⟨z,its,n,r,hl,e⟩:=I.lstM hH;refine Pg Wq ⟨_,e,rfl⟩ Vv (Ve _ _) (Xu l its.toArray n u (by rw[Bf];lia)) ⟨e,?_⟩
 refine⟨.non,_,I.lset (its':=its++[u]) hH e (by simp) (r.append (.cons ru .nil)) ?_,rfl,q⟩
 rw[Cj,On]
 lia
theorem PF {α:Type}(xs:Aa α)(k:Ai):(Dg k xs).flatten.length=k*xs.length:=by
 induction k with
 |zero=>simp
 |succ k ih=>rw[Go,Ih,Cj,ih,Nat.succ_mul,Sn]
end
end _L
namespace _L
open PySem PySem.Spec PyProof.Rows
variable {xs:Aa (Aa Key × Af × Ac)}{kvs:Aa (Aa Key × V)}{H':Hp}
section
variable {κ : Type}[DecidableEq κ]
noncomputable def yQ (kvs:Aa (κ × V))(k:κ):Ak V:=(kvs.find? λkv=>decide (kv.1=k)).map (·.2)
noncomputable def yN (kvs:Aa (κ × V))(k:κ)(v:V):Aa (κ × V):=
 if (kvs.any λkv=>decide (kv.1=k))=true then kvs.map (λkv=>if kv.1=k then (kv.1,v) else kv) else kvs++[(k,v)]
theorem fH {p:κ × V}{r:Aa (κ × V)}{k:κ}(e:p.1=k):yQ (p::r) k=Ab p.2:=by simp[yQ,Fy,e]
theorem fG {p:κ × V}{r:Aa (κ × V)}{k:κ}(e:¬ p.1=k):yQ (p::r) k=yQ r k:=by simp[yQ,Fy,e]
theorem rX (k:κ):∀ kvs:Aa (κ × V),(kvs.any λkv=>decide (kv.1=k))=(yQ kvs k).isSome
 |[]=>rfl
 |p::r=>by
  rw[Jq];by_cases e:p.1=k
  .simp only[fH e,Dk e,Bool.true_or,Wr]
  .rw[fG e,Dd e,Bool.false_or];exact rX k r
theorem jZ (kvs:Aa (κ × V))(k:κ)(v:V):(yN kvs k v).length<=kvs.length+1:=by
 unfold yN
 split
 .rw[Av];lia
 .rw[Cj,Bj,Ec];lia
theorem kO.isSome_eq {o:Ak V}{u:Ak Ac}(r:kO o u):o.isSome=u.isSome:=by
 cases o with
 |none=>cases u with
  |none=>rfl
  |some _=>exact(show Fh from r).elim
 |some _=>cases u with
  |none=>exact(show Fh from r).elim
  |some _=>rfl
theorem kO.getD {o:Ak V}{u:Ak Ac}{d:V}{d':Ac}(r:kO o u)(rd:qL d d'):qL (o.getD d) (u.getD d'):=by
 cases o with
 |none=>cases u with
  |none=>exact rd
  |some _=>exact(show Fh from r).elim
 |some _=>cases u with
  |none=>exact(show Fh from r).elim
  |some _=>exact r
theorem KV.val {kvs:Aa (κ × V)}{vs:Aa (κ × Ac)}(r:KV kvs vs)(k:κ):kO (yQ kvs k) (Vw vs k):=by
 unfold KV at r
 induction r with
 |nil=>exact He
 |@cons p q ps qs h t ih =>
  obtain⟨h1,h2⟩:=h;by_cases e:p.1=k
  .have e':q.1=k:=h1.symm.trans e
   have b:Vw (q::qs) k=Ab q.2:=by simp[Vw,Fy,e']
   rw[fH e,b];exact h2
  .have e':¬ q.1=k:=λz=>e (h1.trans z)
   have b:Vw (q::qs) k=Vw qs k:=by simp[Vw,Fy,e']
   rw[fG e,b];exact ih
theorem KV.any {kvs:Aa (κ × V)}{vs:Aa (κ × Ac)}(r:KV kvs vs)(k:κ):(kvs.any λkv=>decide (kv.1=k))=vs.any λkv=>decide (kv.1=k):=by
 unfold KV at r
 induction r with
 |nil=>rfl
 |cons h t ih=>rw[Jq,Jq,ih,h.1]
theorem KV.repl {kvs:Aa (κ × V)}{vs:Aa (κ × Ac)}(r:KV kvs vs)(k:κ){y:V}{u:Ac}(ry:qL y u) :
  KV (kvs.map λkv=>if kv.1=k then (kv.1,y) else kv) (vs.map λkv=>if kv.1=k then (kv.1,u) else kv):=by
 unfold KV at r ⊢
 induction r with
 |nil=>exact .nil
 |@cons p q ps qs h t ih =>
  rw[Dv,Dv];refine .cons ?_ ih;obtain⟨h1,h2⟩:=h;by_cases e:p.1=k
  .rw[Bl e,Bl (h1.symm.trans e)];exact⟨h1,ry⟩
  .rw[Bm e,Bm (λz=>e (h1.trans z))];exact⟨h1,h2⟩
theorem KV.put {kvs:Aa (κ × V)}{vs:Aa (κ × Ac)}(r:KV kvs vs)(k:κ){y:V}{u:Ac}(ry:qL y u):KV (yN kvs k y) (stored vs k u):=by
 unfold yN stored;rw[r.any k];by_cases e:(vs.any λkv=>decide (kv.1=k))=true
 .rw[Bl e,Bl e];exact r.repl k ry
 .rw[Bm e,Bm e];exact Paired.snoc r ⟨rfl,ry⟩
theorem KV.length {kvs:Aa (κ × V)}{vs:Aa (κ × Ac)}(r:KV kvs vs):kvs.length=vs.length:=Paired.length r
end
theorem fX {P:Bd}{w:Bz}{k:Key}{u:Ac}(r:qL (kV k) u):(zN P w).is k u=true:=by
 cases k with
 |inl i=>obtain⟨t,e⟩:=(show ∃ t,u=Jm i t from r);subst e;exact eG P w i t
 |inr x=>obtain⟨t,e⟩:=(show ∃ t,u=TW x t from r);subst e;exact eI P w x t
theorem l9 {P:Bd}{w:Bz}:∀ {ks:Aa Key} {us:Aa Ac},qK (ks.map kV) us->ItemsAre (zN P w) ks us
 |[],_,r=>by rw[WP] at r;cases r;exact .nil
 |k::ks,_,r=>by
  rw[Dv] at r;cases r with
  |cons h t=>exact .cons (fX h) (l9 t)
abbrev KT (H:Hp):Aa (Aa Key × V)->Aa (Aa Key × Af × Ac)->Prop:=Paired λp q=>p.1=q.1/\H q.2.1=Ab (.tup (p.1.map kV))/\qL p.2 q.2.2
theorem KT.val {H:Hp}(r:KT H kvs xs)(k:Aa Key):kO (yQ kvs k) ((Xv xs k).map (·.2)):=by
 induction r with
 |nil=>exact He
 |@cons p q ps qs h t ih =>
  obtain⟨h1,_,h2⟩:=h;by_cases e:p.1=k
  .have e':q.1=k:=h1.symm.trans e
   have b:Xv (q::qs) k=Ab q.2:=by simp[Xv,Fy,e']
   rw[fH e,b];exact h2
  .have e':¬ q.1=k:=λz=>e (h1.trans z)
   have b:Xv (q::qs) k=Xv qs k:=by simp[Xv,Fy,e']
   rw[fG e,b];exact ih
theorem KT.repl {H:Hp}(r:KT H kvs xs)(k:Aa Key){y:V}{u:Ac}(ry:qL y u) :
  KT H (kvs.map λkv=>if kv.1=k then (kv.1,y) else kv) (xs.map (putAt k u)):=by
 induction r with
 |nil=>exact .nil
 |@cons p q ps qs h t ih =>
  rw[Dv,Dv];refine .cons ?_ ih;obtain⟨h1,h2,h3⟩:=h;unfold putAt;by_cases e:p.1=k
  .rw[Bl e,Bl (h1.symm.trans e)];exact⟨h1,h2,ry⟩
  .rw[Bm e,Bm (λz=>e (h1.trans z))];exact⟨h1,h2,h3⟩
theorem KT.put {H:Hp}(r:KT H kvs xs)(k:Aa Key){b:Af}{y:V}{u:Ac}(hb:H b=Ab (.tup (k.map kV)))(ry:qL y u) :
  KT H (yN kvs k y) (storedH xs k b u):=by
 have e:(kvs.any λkv=>decide (kv.1=k))=(Xv xs k).isSome:=by
  rw[rX,(r.val k).isSome_eq,Option.isSome_map]
 unfold yN storedH;rw[e];by_cases q:(Xv xs k).isSome=true
 .rw[Bl q,Bl q];exact r.repl k ry
 .rw[Bm q,Bm q];exact Paired.snoc r ⟨rfl,hb,ry⟩
theorem KT.keeps {H:Hp}(r:KT H kvs xs)(ht:∀ b ys,H b=Ab (.tup ys)->H' b=Ab (.tup ys)):KT H' kvs xs:=
 Paired.mapP r λ_ _ z=>⟨z.1,ht _ _ z.2.1,z.2.2⟩
section
variable {P:Bd}{w:Bz}{H:Hp}{h:Bq}{a:Af}
theorem JO {u:HO}(ok:HOk P w H h)(e:Rd H a u):z9 P w H h a u:=e.ok ok
theorem RF {kvs:Aa (Key × V)}(ok:HOk P w H h)(e:Rd H a (.dK kvs)):kvs.length<=sizeLine/\(a == Ka)=false/\∃ vs,KV kvs vs/\h.DictOf (zN P w) a vs:=
 show z9 P w H h a (.dK kvs) from JO ok e
theorem iL {kvs:Aa (Key × V)}(ok:HOk P w H h)(e:H a=Ab (.dK kvs)):kvs.length<=sizeLine/\(a == Ka)=false/\∃ vs,KV kvs vs/\h.DictOf (zN P w) a vs:=RF ok (.inl e)
theorem Z7 {ks:Aa Key}(ok:HOk P w H h)(e:H a=Ab (.tup (ks.map kV))):(Ub (zN P w)).is h ks a:=by
 obtain⟨_,its,r,o,h1,h2,n,h3⟩:=(show z9 P w H h a (.tup (ks.map kV)) from ok a _ e)
 exact⟨o,its.toArray,n,h1,h2,h3,by simpa using l9 r⟩
theorem RI (ok:HOk P w H h)(e:Rd H a (.dT kvs)):kvs.length<=sizeLine/\(a == Ka)=false /\
  ∃ xs,KT H kvs xs/\h.DictOfH (Ub (zN P w)) a xs:=by
 obtain⟨z,y,xs,r,o,es,ep,h1,h2,h3,h4,h5⟩:=(show z9 P w H h a (.dT kvs) from JO ok e)
 refine⟨z,y,xs,r,o,es,ep,h1,h2,h3,h4,λx hx=>?_,h5⟩;have all:∀ {l:Aa (Aa Key × V)} {m:Aa (Aa Key × Af × Ac)},KT H l m->∀ x∈m,(Ub (zN P w)).is h x.1 x.2.1:=by
  intro l m q
  induction q with
  |nil=>intro x hx;exact nomatch hx
  |@cons p q ps qs hq t ih =>
   intro x hx;rcases Aw.mp hx with e|hx
   .subst e
    exact Z7 ok (by rw[<- hq.1];exact hq.2.1)
   .exact ih x hx
 exact all r x hx
theorem RH (ok:HOk P w H h)(e:H a=Ab (.dT kvs)):kvs.length<=sizeLine/\(a == Ka)=false /\
  ∃ xs,KT H kvs xs/\h.DictOfH (Ub (zN P w)) a xs:=RI ok (.inl e)
end
def aZ (H:Hp)(a:Af)(y:V)(r:Ak V):Prop:=
 (∃ kvs k,Rd H a (.dK kvs)/\y=kV k/\r=yQ kvs k)\/∃ kvs k b,Rd H a (.dT kvs)/\y=.ref b/\H b=Ab (.tup (k.map kV))/\r=yQ kvs k
def mL (H:Hp)(a:Af)(y v:V)(H':Hp):Prop:=
 (∃ kvs k,H a=Ab (.dK kvs)/\y=kV k/\kvs.length<sizeLine/\H'=upd H a (.dK (yN kvs k v))) \/
 ∃ kvs k b,H a=Ab (.dT kvs)/\y=.ref b/\H b=Ab (.tup (k.map kV))/\kvs.length<sizeLine/\H'=upd H a (.dT (yN kvs k v))
theorem aZ.k {H:Hp}{a:Af}{kvs:Aa (Key × V)}{k:Key}(e:H a=Ab (.dK kvs)):aZ H a (kV k) (yQ kvs k):=.inl ⟨kvs,k,.inl e,rfl,rfl⟩
theorem aZ.t {H:Hp}{a b:Af}{k:Aa Key}(e:H a=Ab (.dT kvs))(eb:H b=Ab (.tup (k.map kV))):aZ H a (.ref b) (yQ kvs k):=.inr ⟨kvs,k,b,.inl e,rfl,eb,rfl⟩
theorem mL.k {H:Hp}{a:Af}{kvs:Aa (Key × V)}{k:Key}{v:V}(e:H a=Ab (.dK kvs))(hl:kvs.length<sizeLine):mL H a (kV k) v (upd H a (.dK (yN kvs k v))):=.inl ⟨kvs,k,e,rfl,hl,rfl⟩
theorem mL.t {H:Hp}{a b:Af}{k:Aa Key}{v:V}(e:H a=Ab (.dT kvs))(eb:H b=Ab (.tup (k.map kV)))(hl:kvs.length<sizeLine) :
  mL H a (.ref b) v (upd H a (.dT (yN kvs k v))):=.inr ⟨kvs,k,b,e,rfl,eb,hl,rfl⟩
section
variable {X:Cx}{pins:Aa (Af × Co)}{σ : St}{H:Hp}{s:Ag}{a:Af}{y v:V}{u r:Ac}{o:Ak V}{A:Bt}{E:Ac->Ag->Prop}
theorem Inv.big (I:Inv X pins σ H s):Ka<s.heap.objs.size:=by
 have h:Cg<s.heap.objs.size:=(I.mod.glob.keeps I.bk).lt;exact Im (by decide) h
theorem mU {h':Bq}{t':Ai}{ob:HO}(I:Inv X pins σ H s)(mu:Mut (H a))(hs:Fe a s.heap h')(he:∃ q,h'.get? a=Ab q)(new:z9 X.prog X.w (upd H a ob) h' a ob) :
  Inv X pins σ (upd H a ob) { s with heap:=h',toks:=t' }:=
 I.write (x:=a) (e:=a) mu (.inl rfl) (λb q hb z=>(hs.2 b hb).trans z) he new
theorem Q9 {P:Bd}{w:Bz}{h':Bq}{kvs:Aa (Key × V)}{vs:Aa (Key × Ac)}(z:kvs.length<=sizeLine)(hd:(a == Ka)=false)(rel:KV kvs vs)(dd:h'.DictOf (zN P w) a vs) :
  z9 P w H' h' a (.dK kvs):=⟨z,hd,vs,rel,dd⟩
theorem Q6 {Q:Qv->Ag->Prop}(hu:A.units+1<Fi)(I:Inv X pins σ H s)(g:mL H a y v H')(ry:qL y u)(rv:qL v r)(h:∀ s',Inv X pins σ H' s'->Q () s') :
  Ao (As X.prog X.w) A (setItem (.ref a) u r) Q E s:=by
 rcases g with⟨kvs,k,e,ey,l,eH⟩|⟨kvs,k,b,e,ey,eb,l,eH⟩
 .subst ey eH
  obtain⟨z,hd,vs,rel,dd⟩:=iL I.hok e;have hz:vs.length<=sizeLine:=by rw[<- rel.length];exact z
  have hl:(yN kvs k v).length<=sizeLine:=by have:=jZ kvs k v;lia
  refine wpAny_setItem_pairs (hsz:=hz) (fX ry) dd λh' dd' hs=>h _ ?_;have he:∃ q,h'.get? a=Ab q:=let ⟨q,_,_,hq,_⟩:=dd';⟨q,hq⟩
  exact mU I (by rw[e];exact He) hs he (Q9 hl hd (rel.put k rv) dd')
 .subst ey eH
  cases (show u=Ce b from ry)
  obtain⟨z,hd,xs,rel,dd⟩:=RH I.hok e;have hz:xs.length<=sizeLine:=by rw[<- Paired.length rel];exact z
  have hl:(yN kvs k v).length<=sizeLine:=by have:=jZ kvs k v;lia
  refine wpAny_setItem_heap (hsz:=hz) (tupleKind_room_in1 hu) (Z7 I.hok eb) dd λh' dd' hs=>h _ ?_;obtain⟨q,es,ep,hq,h2,h3,h4,_,h5⟩:=dd';refine mU I (by rw[e];exact He) hs ⟨q,hq⟩ ⟨hl,hd,_,(rel.put k eb rv).keeps λc ys ec=>?_,q,es,ep,hq,h2,h3,h4,h5⟩
  rw[qI (RZ ec e (λz=>nomatch z))];exact ec
end
theorem WZ {P:Bd}{w:Bz}{H:Hp}(h:Bq)(hb:Ka<h.objs.size):z9 P w H (h.push { cls:=.type "dict",data:=.dict #[] }) h.objs.size (.dK []):=
 ⟨Io _,Iq.mpr (Gb (Ci hb)),[],.nil,Heap.DictOf.new h⟩
def SI:TE:=λ_ H Q=>∀ p,H p=none->Q (.ref p) (upd H p (.dK []))
section
variable {X:Cx}{pos:Fl}
theorem rD:PE X (.Dict [] [] pos) SI:=λpins s σ H Q I h =>
 wpAny_Dict_empty ⟨.ref s.heap.objs.size,_,I.laid (a:=s.heap.objs.size) (o:=.dK []) (t':=s.toks) (λ_ _ q=>Ah _ q) (Au _) (WZ s.heap I.big),rfl,h _ (I.hok.fresh (Au _))⟩
end
end _L
namespace _A
open PySem PySem.W PySem.Calls PyProof.Rows
theorem fT {P:Params}{h:Bq}:∀ (ns:Aa Al) (vs:Aa Ac),WellAll P h vs (ns.map WData.int)->Jo vs ns:=by
 intro ns
 induction ns with
 |nil =>
  intro vs w;rw[WP] at w;cases w;exact .nil
 |cons n ns ih =>
  intro vs w;rw[Dv] at w;cases w with
  |cons a b =>
   cases a;exact .cons _ _ (ih _ b)
theorem XU {l:OpenLaw}{n:Ai}(hn:l.most=Ab n){P:Params}{h:Bq}{args:Aa WData}{vals:Aa Ac}
  (hpre:l.row.toRowW.claim.pre args=true) (hwl:WellAll P h vals args) :
  ∃ a vs ns,vals=[Ce a]/\args=[WData.list (ns.map WData.int)]/\h.get? a=Ab { cls:=.type "list",data:=.seq vs.toArray } /\ Jo vs ns/\ns.length<=n:=by
 have hsh:WShape.hasAll [] args [.list .int]=true:=(pre_splitW hpre).1;have hc:l.pre.holds [] { args:=args } = true:=(pre_splitW hpre).2;obtain⟨d,r,rfl,h1,h2⟩:=hasAllW_cons hsh;obtain rfl:=hasAllW_nil h2;obtain⟨xs,rfl,h3⟩:=hasW_list h1;obtain⟨ns,rfl⟩:=items_int h3;have hlen:ns.length<=n:=by
  unfold OpenLaw.pre at hc;have h4:(WTm.not (.lt (.lit (.int (n:Al))) (.len (.arg 0)))).holds [] { args:=[.list (ns.map .int)] } = true:=by
   have h4:=(holds_andW hc).1;rw[hn] at h4;exact h4
  have h5:=condW_of h4 (w_not (w_lt w_lit (w_len_list (w_arg rfl))));rw[Av] at h5;refine Sc λq=>?_;have q':(n:Al)<((ns.length:Ai):Al):=by lia
  first
   |(rw[Dk q'] at h5;exact absurd h5 (by decide))
   |(simp at h5;lia)
 cases hwl with
 |cons w1 w2 =>
  cases w2;cases w1 with
  |list ho hall=>exact⟨_,_,ns,rfl,rfl,ho,fT ns _ hall,hlen⟩
theorem X0 (l:OpenLaw)(args:Aa WData):l.row.toRowW.claim.post args (.bool true) args=true:=
 postW_of (r:=l.row.toRowW) (X:=(true == true))
  (show WShape.has [] (.bool true) .bool=true by first|rfl|decide|simp[WShape.has,WShape.arms,WShape.armsAll])
  (show (WTm.eq .res (.lit (.bool true))).value [] { args:=args,res:=Ab (.bool true),after:=args } = Ab (.bool (true == true)) from w_eq_bool (w_res rfl) w_lit) rfl
theorem attach_call {l:OpenLaw}{n:Ai}{q:Bd}{loose:Aa Ap}{XP:(Ap->Ak Ac)->Bq->Prop}{YP:Bz->Bq->Prop}{d:DefRec}
  (hn:l.most=Ab n) (hdf:d.params.defaults=[])
  (call:∀ (w:Bz) (s₀ s₁:Ag) (mg mb:Ap->Ak Ac) (fa:Af) (o:Co) (pm cd doc:Ac) (a:Af) (vs:Aa Ac) (ns:Aa Al),
   Ground q loose [] XP w s₀ mg mb s₁.heap->YP w s₁.heap ->
   s₁.heap.get? fa=Ab o->o.data=.func (docDef d.name d.params d.body d.scope pm cd doc)->s₁.heap.CodeRec cd d.name->mg d.name=Ab (.ref fa) ->
   s₁.heap.get? a=Ab { cls:=.type "list",data:=.seq vs.toArray } -> Jo vs ns->ns.length<=n->s₁.gens=#[] ->
   Hu (As l.prog w) Qy (.call (.ref fa) ⟨[.ref a],[]⟩) (λr s'=>r=.ok (.ret (.bool true))/\OldK s₁.heap s'.heap/\s'.os=s₁.os/\Oe s'.gens) s₁) :
  WalkO q loose XP YP l.row.toRowW d [] (λf vs=>ZB f vs):=by
 intro w s₀ s₁ mg mb G Y fa o pm cd doc dV kV ho hd hcd hD hmg hg args vals as hpre hlay hrd hwl hlo;obtain rfl:dV=.none:=Dflts.none hD hdf;obtain rfl:kV=.none:=Dflts.noKw hD;obtain⟨a,vs,ns,rfl,rfl,hobj,hints,hlen⟩:=XU hn hpre hwl;refine enter_call (Ji (call w s₀ s₁ mg mb fa o pm cd doc a vs ns G Y ho (fd_plain hd) hcd hmg hobj hints hlen hg) λr s' hq=>?_);obtain⟨rfl,h2,h3,h4⟩:=hq;exact⟨.inl ⟨.bool true,.bool true,[],rfl,λ_=>rfl,.bool true,X0 l _,λ_=>⟨Nr,λ_ hm=>(nomatch hm)⟩⟩,h2,h3,h4⟩
end _A
namespace _L
open PySem PySem.Spec PyProof.Rows
theorem W2 {vs:Aa Ac}{ns:Aa Al}(h:Jo vs ns):qK (ns.map V.int) vs:=by
 induction h with
 |nil=>exact .nil
 |cons n t h ih=>exact .cons ⟨t,rfl⟩ ih
def SqX (K:Aj)(H:Hp)(a:Af)(xs:Aa V):Prop:=
 Rd H a (.lst xs)\/∃ (its:Aa Ac) (n:Ai),K.lookup a=Ab { cls:=.type "list",data:=.seq its.toArray n } /\ xs.length<=sizeLine/\qK xs its
theorem SqX.l {K:Aj}{H:Hp}{a:Af}{xs:Aa V}(h:SqX K H a xs):SqL K H a xs:=by
 rcases h with h|⟨its,n,e,l,v⟩
 .exact .inl h
 .exact .inr ⟨_,its.toArray,n,e,rfl,rfl,rfl,by rw[Bf,<- v.length];exact l,by simpa using v⟩
end _L
namespace _L
open PySem PySem.Spec PyProof.Rows
variable {ps:Aa Ap}{f:Af}{x qual:Ap}{H:Hp}
noncomputable def y8 (s:Fj):OT:=match s with
 |.FunctionDef _ a _ _ _ _ _ _ _ _=>a
 |_=>{ posonlyargs:=[],args:=[],vararg:=none,kwonlyargs:=[],kw_defaults:=[],kwarg:=none,defaults:=[] }
noncomputable def zK (s:Fj):Aa Fj:=match s with
 |.FunctionDef _ _ b _ _ _ _ _ _ _=>b
 |_=>[]
noncomputable def qH (s:Fj):Eu:=match s with
 |.FunctionDef _ _ _ _ _ _ sc _ _ _=>sc
 |_=>{ kind:=.function,names:=[],isGenerator:=false,isCoroutine:=false }
abbrev CX0:CXT:=λ_ _ _ _ _ _=>Fh
structure Fun (K:Aj)(x qual:Ap)(st:Fj)(f:Af)(fd:Fw):Prop where
 ex:∃ (oc:Ac) (od:Ak Af) (kV doc pm:Ac) (an:Ak Af) (cdv ct:Ac) (osl:Ax (Ak Ac)),
  fd=Gs x qual (y8 st) (zK st) (qH st) .none kV doc pm an cdv ct/\K.lookup f=Ab ⟨oc,od,.func fd,osl⟩/\Lj K cdv qual=true
 kp:Fn K (.ref f)=true
section
variable {P:Bd}{w:Bz}{K:Aj}{mg:Ap->Ak Ac}{base:Bq}
theorem Fun.ok {st:Fj}{fd:Fw}{N:Aa Ap}{k:Ai}{sp:Sp}(F:Fun K x qual st f fd)(S:FnScope N ps (qH st))(len:∀ vs H Q E,sp vs H Q E->vs.length=ps.length)
  (hbody:∀ (cdv:Ac) (A:Bt) (outer:Aa Ja) (s:Ag) (H:Hp) (vs:Aa V) (Q:VK) (E:XK),Room k (A.deeper (Gn qual (qH st) s.heap.objs.size f cdv))->sp vs H Q E ->
   ∃ t,PSs (mT CX0 P w K mg base N qual (qH st) f cdv A outer s H E).nox (zK st) t/\t { nx:=λ_ H'=>Q .non H',rt:=Q } (xU N vs) H):FnOk P w K mg base CX0 (k+1) f fd ps sp:=by
 obtain⟨oc,od,kV,doc,pm,an,cdv,ct,osl,rfl,lk,hcd⟩:=F.ex;refine RM lk hcd S len λA outer s H vs Q E hr hsp=>?_;obtain⟨t,h,q⟩:=hbody cdv A outer s H vs Q E hr hsp;exact⟨t,h.nox,q⟩
theorem Fun.binds {st:Fj}{fd:Fw}(F:Fun K x qual st f fd)
  (h:∀ (kV doc pm:Ac) (an:Ak Af) (cdv ct:Ac) (us:Aa Ac),us.length=ps.length->Tj (Gs x qual (y8 st) (zK st) (qH st) .none kV doc pm an cdv ct) ⟨us,[]⟩=pure (ps.zip us)):vS K fd ps []:=by
 obtain⟨oc,od,kV,doc,pm,an,cdv,ct,osl,rfl,lk,hcd⟩:=F.ex;exact .all (h kV doc pm an cdv ct)
theorem N3 {st:Fj}{oc:Ac}{od an:Ak Af}{osl:Ax (Ak Ac)}{kV doc pm cdv ct:Ac}(l:K.lookup f=Ab ⟨oc,od,.func (Gs x qual (y8 st) (zK st) (qH st) .none kV doc pm an cdv ct),osl⟩)
  (c:Lj K cdv qual=true) (k:Fn K (.ref f)=true):Fun K x qual st f (Gs x qual (y8 st) (zK st) (qH st) .none kV doc pm an cdv ct):=⟨⟨oc,od,kV,doc,pm,an,cdv,ct,osl,rfl,l,c⟩,k⟩
end
def qG (H H':Hp):Prop:=∀ b o,H b=Ab o->H' b=Ab o
theorem qG.refl (H:Hp):qG H H:=λ_ _ h=>h
theorem qG.trans {H1 H2:Hp}(a:qG H H1)(b:qG H1 H2):qG H H2:=λc o h=>b c o (a c o h)
theorem qG.free {H':Hp}(e:qG H H'){l:Af}(h:H' l=AaF):H l=AaF:=by
 cases q:H l with
 |none=>rfl
 |some o =>
  rw[e l o q] at h;cases h
theorem qG.seq {K:Aj}{H':Hp}{a:Af}{xs:Aa V}(e:qG H H')(h:SqL K H a xs):SqL K H' a xs:=by
 rcases h with (h|⟨o,h⟩)|h
 .exact .inl (.inl (e _ _ h))
 .exact .inl (.inr ⟨o,e _ _ h⟩)
 .exact .inr h
end _L
end
section
namespace _D
open PySem PySem.Spec PyProof.Rows _L
inductive D where
 |non|bl (b:Aq)|int (i:Al)|str (x:Ap)|ty (n:Dx)|obj (a:Af)|tup (xs:Aa D)|lst (xs:Aa D)|dct0|loc (i:Ai)|exn (c:Ac)|fd (ks:Aa Key) (ds:Aa D)|clo (a:Af) (vs:Aa V) (ds:Aa D)
noncomputable def sL (a:Af)(c:Ac):HO:=.ext λh=>∃ ob,h.get? a=Ab ob/\ob.cls=c
inductive MO where
 |dead|lst (xs:Aa D)|dct (kvs:Aa (Key × D))|ins (C:Af) (fs:Aa (Ap × D))
abbrev Sto:=Aa MO
inductive Res (β : Type) where
 |ok (d:β) (S:Sto)|ex (c:Ac) (x:D) (S:Sto)|bad
@[inline] def Res.bind {β γ:Type}(r:Res β)(f:β->Sto->Res γ) : Res γ:=
 match r with
 |.ok d S=>f d S
 |.ex c x S=>.ex c x S
 |.bad=>.bad
theorem Res.bind_ok {β γ:Type}(d:β)(S:Sto)(f:β->Sto->Res γ) : (Res.ok d S).bind f=f d S:=rfl
section
variable (K:Aj)(P:Hp)(α : Aa Af)
mutual
def Rep:D->V->Prop
 |.non,v=>v=.non
 |.bl b,v=>v=.bl b
 |.int i,v=>v=.int i
 |.str x,v=>v=.str x
 |.ty n,v=>v=.ty n
 |.obj a,v=>v=.ref a/\Fn K (.ref a)=true
 |.tup ds,v=>∃ a vs,v=.ref a/\SqT K P a vs/\qE ds vs
 |.lst ds,v=>∃ a vs,v=.ref a/\SqX K P a vs/\qE ds vs
 |.dct0,v=>∃ a,v=.ref a/\P a=Ab (.dK [])
 |.loc i,v=>∃ a,v=.ref a/\α[i]? = Ab a
 |.exn c,v=>∃ a,v=.ref a/\P a=Ab (sL a c)
 |.fd ks ds,v=>∃ a o vs,v=.ref a/\P a=Ab (.frz o (.dK (ks.zip vs)))/\ks.length=vs.length/\qE ds vs
 |.clo a vs ds,v=>v=.ref a/\qE ds vs
def qE:Aa D->Aa V->Prop
 |[],vs=>vs=[]
 |d::ds,vs=>∃ w ws,vs=w::ws/\Rep d w/\qE ds ws
end
end
section
variable {K:Aj}{P P':Hp}{α α':Aa Af}
theorem yO (e:qG P P'){a:Af}{xs:Aa V}(h:SqT K P a xs):SqT K P' a xs:=by
 rcases h with (h|⟨o,h⟩)|h
 .exact .inl (.inl (e _ _ h))
 .exact .inl (.inr ⟨o,e _ _ h⟩)
 .exact .inr h
theorem aD (e:qG P P'){a:Af}{u:HO}(h:Rd P a u):Rd P' a u:=by
 rcases h with h|⟨o,h⟩
 .exact .inl (e _ _ h)
 .exact .inr ⟨o,e _ _ h⟩
theorem xE (e:qG P P'){a:Af}{xs:Aa V}(h:SqX K P a xs):SqX K P' a xs:=by
 rcases h with h|h
 .exact .inl (aD e h)
 .exact .inr h
theorem b7 {i:Ai}{a:Af}(h:α<+:α')(e:α[i]? = Ab a):α'[i]? = Ab a:=by
 obtain⟨r,rfl⟩:=h;rw[Bi (Bo.mp e).1];exact e
mutual
theorem Rep.mono (e:qG P P')(h:α<+:α'):∀ (d:D) (v:V),Rep K P α d v->Rep K P' α' d v
 |.non,_,r=>by simpa only [Rep] using r
 |.bl _,_,r=>by simpa only [Rep] using r
 |.int _,_,r=>by simpa only [Rep] using r
 |.str _,_,r=>by simpa only [Rep] using r
 |.ty _,_,r=>by simpa only [Rep] using r
 |.obj _,_,r=>by simpa only [Rep] using r
 |.tup ds,v,r=>by
  simp only[Rep] at r ⊢;obtain⟨a,vs,rfl,q,t⟩:=r;exact⟨a,vs,rfl,yO e q,qE.mono e h ds vs t⟩
 |.lst ds,v,r=>by
  simp only[Rep] at r ⊢;obtain⟨a,vs,rfl,q,t⟩:=r;exact⟨a,vs,rfl,xE e q,qE.mono e h ds vs t⟩
 |.dct0,v,r=>by
  simp only[Rep] at r ⊢;obtain⟨a,rfl,q⟩:=r;exact⟨a,rfl,e _ _ q⟩
 |.loc i,v,r=>by
  simp only[Rep] at r ⊢;obtain⟨a,rfl,q⟩:=r;exact⟨a,rfl,b7 h q⟩
 |.exn c,v,r=>by
  simp only[Rep] at r ⊢;obtain⟨a,rfl,q⟩:=r;exact⟨a,rfl,e _ _ q⟩
 |.fd ks ds,v,r=>by
  simp only[Rep] at r ⊢;obtain⟨a,o,vs,rfl,q,hl,t⟩:=r;exact⟨a,o,vs,rfl,e _ _ q,hl,qE.mono e h ds vs t⟩
 |.clo a vs ds,v,r=>by
  simp only[Rep] at r ⊢;exact⟨r.1,qE.mono e h ds vs r.2⟩
theorem qE.mono (e:qG P P')(h:α<+:α'):∀ (ds:Aa D) (vs:Aa V),qE K P α ds vs->qE K P' α' ds vs
 |[],vs,r=>by simpa only [qE] using r
 |d::ds,vs,r=>by
  simp only[qE] at r ⊢;obtain⟨w,ws,rfl,r1,r2⟩:=r;exact⟨w,ws,rfl,Rep.mono e h d w r1,qE.mono e h ds ws r2⟩
end
theorem qE.nil:qE K P α [] []:=by simp only[qE]
theorem qE.cons {d:D}{v:V}{ds:Aa D}{vs:Aa V}(r:Rep K P α d v)(t:qE K P α ds vs):qE K P α (d::ds) (v::vs):=by
 simp only[qE];exact⟨v,vs,rfl,r,t⟩
theorem qE.nil_inv {vs:Aa V}(r:qE K P α [] vs):vs=[]:=by simpa only [qE] using r
theorem qE.cons_inv {d:D}{ds:Aa D}{vs:Aa V}(r:qE K P α (d::ds) vs):∃ w ws,vs=w::ws/\Rep K P α d w/\qE K P α ds ws:=by simpa only [qE] using r
theorem qE.length:∀ {ds:Aa D} {vs:Aa V},qE K P α ds vs->ds.length=vs.length
 |[],vs,r=>by rw[r.nil_inv];rfl
 |d::ds,vs,r=>by
  obtain⟨w,ws,rfl,_,t⟩:=r.cons_inv;rw[Bj,Bj,t.length]
theorem qE.append:∀ {ds es:Aa D} {vs ws:Aa V},qE K P α ds vs->qE K P α es ws->qE K P α (ds++es) (vs++ws)
 |[],es,vs,ws,r,t=>by rw[r.nil_inv];exact t
 |d::ds,es,vs,ws,r,t=>by
  obtain⟨w,us,rfl,r1,r2⟩:=r.cons_inv;exact .cons r1 (r2.append t)
theorem qE.get:∀ {ds:Aa D} {vs:Aa V} {i:Ai} {d:D},qE K P α ds vs->ds[i]? = Ab d->∃ v,vs[i]? = Ab v/\Rep K P α d v
 |[],_,_,_,_,e=>by simp at e
 |d::ds,vs,i,d',r,e=>by
  obtain⟨w,ws,rfl,r1,r2⟩:=r.cons_inv;cases i with
  |zero=>simp at e;subst e;exact⟨w,rfl,r1⟩
  |succ i =>
   obtain⟨v,h1,h2⟩:=r2.get (i:=i) (d:=d') (by simpa using e)
   exact⟨v,by simpa using h1,h2⟩
theorem qE.drop:∀ {ds:Aa D} {vs:Aa V} (n:Ai),qE K P α ds vs->qE K P α (ds.drop n) (vs.drop n)
 |ds,vs,0,r=>by simpa using r
 |[],vs,n+1,r=>by rw[r.nil_inv];exact .nil
 |d::ds,vs,n+1,r=>by
  obtain⟨w,ws,rfl,_,r2⟩:=r.cons_inv;simpa using r2.drop n
theorem qE.take:∀ {ds:Aa D} {vs:Aa V} (n:Ai),qE K P α ds vs->qE K P α (ds.take n) (vs.take n)
 |ds,vs,0,r=>by simpa using qE.nil
 |[],vs,n+1,r=>by rw[r.nil_inv];exact .nil
 |d::ds,vs,n+1,r=>by
  obtain⟨w,ws,rfl,r1,r2⟩:=r.cons_inv;simpa using qE.cons r1 (r2.take n)
theorem qE.set {d:D}{v:V}(q:Rep K P α d v):∀ {ds:Aa D} {vs:Aa V} (n:Ai),qE K P α ds vs->qE K P α (ds.set n d) (vs.set n v)
 |[],vs,n,r=>by rw[r.nil_inv];exact .nil
 |e::ds,vs,0,r=>by
  obtain⟨w,ws,rfl,r1,r2⟩:=r.cons_inv;exact .cons q r2
 |e::ds,vs,n+1,r=>by
  obtain⟨w,ws,rfl,r1,r2⟩:=r.cons_inv;exact .cons r1 (r2.set q n)
end
abbrev qF:=Aa (Ak D)
def qZ (K:Aj)(P:Hp)(α : Aa Af)(σ : _L.St)(env:qF):Prop:=env.length=σ.length/\∀ (i:Ai) (d:D),env[i]? = Ab (Ab d)->∃ v,σ[i]? = Ab (Ab v)/\Rep K P α d v
def KVs (K:Aj)(P:Hp)(α : Aa Af){κ : Type}:Aa (κ × D)->Aa (κ × V)->Prop:=Paired λ(p:κ × D) (q:κ × V)=>p.1=q.1/\Rep K P α p.2 q.2
def MOk (K:Aj)(H P:Hp)(α : Aa Af)(a:Af):MO->Prop
 |.dead=>Od
 |.lst ds=>∃ vs,H a=Ab (.lst vs)/\qE K P α ds vs
 |.dct kvs=>∃ vs,H a=Ab (.dK vs)/\KVs K P α kvs vs
 |.ins C fs=>∃ dx vs,H a=Ab (.ins C dx vs)/\KVs K P α fs vs
inductive TbAt (x:Ap)(H P:Hp)(α : Aa Af)(T:Af):Prop
 |mk (ps:Ax Ac) (e:H T=Ab (.tbl ps)) (pn:P T=none) (an:T ∉ α) (ok:Mb ps.toList) (cd:∀ pos cv,OU pos ps.toList=Ab cv->∃ c oc vs t,cv=.ref c/\H c=Ab (.frz oc (.frz oc (.own 0)))/\oc.data=.fields vs/\vs[1]? = Ab (.str (x ++ ".<locals>." ++ "<lambda>") t)):TbAt x H P α T
def i7 (K:Aj)(H P:Hp)(α : Aa Af):Prop:=∀ x∈w9,∀ c T,Du K x=Ab (c,T)->TbAt x H P α T
def NA (u:HO):Prop:=(∃ ps,u=.tbl ps)\/∃ o,u=.frz o (.frz o (.own 0))
theorem i7.keep {K:Aj}{H H' P P':Hp}{α α':Aa Af}(r:i7 K H P α)(e:∀ b u,H b=Ab u->NA u->H' b=Ab u)(hp:∀ b u,H b=Ab u->NA u->P b=none->b ∉ α->P' b=none/\b ∉ α'):i7 K H' P' α':=λx hx c T h =>
 let ⟨ps,e1,pn,an,ok,cd⟩:=r x hx c T h
 let z:=hp _ _ e1 (.inl ⟨_,rfl⟩) pn an
 ⟨ps,e _ _ e1 (.inl ⟨_,rfl⟩),z.1,z.2,ok,λpos cv q=>let ⟨c,oc,vs,t,a,b,d⟩:=cd pos cv q;⟨c,oc,vs,t,a,e _ _ b (.inr ⟨_,rfl⟩),d⟩⟩
structure Rel (K:Aj)(H P:Hp)(α : Aa Af)(S:Sto):Prop where
 tb:i7 K H P α
 sub:qG P H
 len:α.length=S.length
 nd:α.Nodup
 sep:∀ (i:Ai) (a:Af) (o:MO),α[i]? = Ab a->S[i]? = Ab o->o≠.dead->P a=none
 at':∀ (i:Ai) (a:Af) (o:MO),α[i]? = Ab a->S[i]? = Ab o->MOk K H P α a o
 own:∀ (i:Ai) (a:Af),α[i]? = Ab a->H a≠none
section
variable {K:Aj}{H P P':Hp}{α α':Aa Af}{S:Sto}
theorem qZ.mono {σ : _L.St}{env:qF}(e:qG P P')(h:α<+:α')(r:qZ K P α σ env):qZ K P' α' σ env:=
 ⟨r.1,λi d q=>let ⟨v,h1,h2⟩:=r.2 i d q;⟨v,h1,Rep.mono e h d v h2⟩⟩
theorem KVs.mono {κ : Type}(e:qG P P')(h:α<+:α'){kvs:Aa (κ × D)}{vs:Aa (κ × V)}(r:KVs K P α kvs vs):KVs K P' α' kvs vs:=by
 refine Paired.mapP r λp q z=>⟨z.1,Rep.mono e h _ _ z.2⟩
theorem MOk.mono {a:Af}(e:qG P P')(h:α<+:α'):∀ {o:MO},MOk K H P α a o->MOk K H P' α' a o
 |.dead,_=>trivial
 |.lst _,⟨vs,q,r⟩=>⟨vs,q,qE.mono e h _ _ r⟩
 |.dct _,⟨vs,q,r⟩=>⟨vs,q,r.mono e h⟩
 |.ins _ _,⟨dx,vs,q,r⟩=>⟨dx,vs,q,r.mono e h⟩
theorem Rel.grow {H':Hp}(r:Rel K H P α S)(e:qG H H'):Rel K H' P α S where
 tb:=r.tb.keep (λb u q _=>e _ _ q) λ_ _ _ _ p n=>⟨p,n⟩
 sub:=r.sub.trans e
 len:=r.len
 nd:=r.nd
 sep:=r.sep
 at':=λi a o q1 q2=>by
  have m:=r.at' i a o q1 q2;cases o with
  |dead=>trivial
  |lst ds=>obtain⟨vs,q,t⟩:=m;exact⟨vs,e _ _ q,t⟩
  |dct kvs=>obtain⟨vs,q,t⟩:=m;exact⟨vs,e _ _ q,t⟩
  |ins C fs=>obtain⟨dx,vs,q,t⟩:=m;exact⟨dx,vs,e _ _ q,t⟩
 own:=λi a q=>by
  have m:=r.own i a q;cases z:H a with
  |none=>exact absurd z m
  |some o=>rw[e _ _ z];intro w;cases w
theorem gN {H:Hp}{a:Af}{o:HO}(h:H a=none):qG H (upd H a o):=λb u e=>by rw[qI (qT e h)];exact e
theorem Rel.pure {a:Af}{o:HO}(r:Rel K H P α S)(h:H a=none):Rel K (upd H a o) (upd P a o) α S/\qG P (upd P a o):=by
 have hP:P a=none:=by
  cases z:P a with
  |none=>rfl
  |some u=>rw[r.sub _ _ z] at h;cases h
 have sP:qG P (upd P a o):=gN hP;have r1:=r.grow (gN (o:=o) h);refine⟨⟨r.tb.keep (λb u q _=>(qI (qT q h)).trans q) λb u q _ p n=>⟨(qI (qT q h)).trans p,n⟩,λb u e=>?_,r.len,r.nd,λi b u q1 q2 q3=>?_,λi b u q1 q2=>(r1.at' i b u q1 q2).mono sP (Bn _),r1.own⟩,sP⟩
 .by_cases hb:b=a
  .subst hb;rw[qU] at e ⊢;exact e
  .rw[qI hb] at e ⊢;exact r.sub _ _ e
 .have hb:b≠a:=by rintro rfl;exact r.own i b q1 h
  rw[qI hb];exact r.sep i b u q1 q2 q3
theorem Rel.new {a:Af}{o:HO}{m:MO}(r:Rel K H P α S)(h:H a=none)(hm:MOk K (upd H a o) P (α ++ [a]) a m):Rel K (upd H a o) P (α ++ [a]) (S++[m]):=by
 have hP:P a=none:=by
  cases z:P a with
  |none=>rfl
  |some u=>rw[r.sub _ _ z] at h;cases h
 have r1:=r.grow (gN (o:=o) h);have hp:α<+:α++[a]:=Jc _ _;have split:∀ (i:Ai) (b:Af),(α++[a])[i]? = Ab b->(i<α.length/\α[i]? = Ab b)\/(i=α.length/\b=a):=λi b q=>by
  by_cases hi:i<α.length
  .rw[Bi hi] at q;exact .inl ⟨hi,q⟩
  .rw[Cs om] at q
   cases hk:i-α.length with
   |zero=>rw[hk] at q;simp at q;exact .inr ⟨by omega,q.symm⟩
   |succ k=>rw[hk] at q;simp at q
 refine⟨r.tb.keep (λb u q _=>(qI (qT q h)).trans q) λb u q _ p n=>⟨p,λz=>(Cq.mp z).elim n λw=>qT q h (by simpa using w)⟩,r1.sub,by simp[r.len],?_,λi b u q1 q2 q3=>?_,λi b u q1 q2=>?_,λi b q=>?_⟩
 .rw[Jr]
  refine⟨r.nd,by simp,λb hb c hc e=>?_⟩
  simp at hc;subst hc;subst e;obtain⟨i,hi,e⟩:=Cu.mp hb;exact r.own i b (by rw[Ar hi,e]) h
 .rcases split i b q1 with⟨hi,z⟩|⟨hi,rfl⟩
  .rw[Bi (by rw[<- r.len];exact hi)] at q2
   exact r.sep i b u z q2 q3
  .exact hP
 .rcases split i b q1 with⟨hi,z⟩|⟨hi,rfl⟩
  .rw[Bi (by rw[<- r.len];exact hi)] at q2
   exact(r1.at' i b u z q2).mono (qG.refl _) hp
  .rw[hi,r.len,Cs (Au _)] at q2
   simp at q2;subst q2;exact hm
 .rcases split i b q with⟨_,z⟩|⟨_,rfl⟩
  .exact r1.own i b z
  .rw[qU];intro z;cases z
theorem lC {N:Aa Af}(hN:N.Nodup){i j:Ai}{x:Af}(a:N[i]? = Ab x)(b:N[j]? = Ab x):i=j:=by
 obtain⟨h1,e1⟩:=Bo.mp a;obtain⟨h2,e2⟩:=Bo.mp b;exact(Of hN).mp (e1.trans e2.symm)
theorem Rel.put {a:Af}{i:Ai}{o:HO}{m m':MO}(r:Rel K H P α S)(ha:α[i]? = Ab a)(hs:S[i]? = Ab m)(hd:m≠.dead)(hm:MOk K (upd H a o) P α a m'):Rel K (upd H a o) P α (S.set i m'):=by
 have hP:=r.sep i a m ha hs hd;have hi:i<S.length:=(Bo.mp hs).1;refine⟨r.tb.keep (λb u q hu=>?_) λ_ _ _ _ p n=>⟨p,n⟩,λb u e=>?_,by simp[r.len],r.nd,λj b u q1 q2 q3=>?_,λj b u q1 q2=>?_,λj b q=>?_⟩
 .refine(qI ?_).trans q
  rintro rfl;have z:=r.at' i _ m ha hs;cases m with
  |dead=>exact hd rfl
  |lst ds=>obtain⟨vs,z,_⟩:=z;rw[q] at z;rcases hu with⟨_,rfl⟩|⟨_,rfl⟩ <;> cases z
  |dct kvs=>obtain⟨vs,z,_⟩:=z;rw[q] at z;rcases hu with⟨_,rfl⟩|⟨_,rfl⟩ <;> cases z
  |ins C fs=>obtain⟨dx,vs,z,_⟩:=z;rw[q] at z;rcases hu with⟨_,rfl⟩|⟨_,rfl⟩ <;> cases z
 .have hb:b≠a:=by rintro rfl;rw[hP] at e;cases e
  rw[qI hb];exact r.sub _ _ e
 .by_cases hj:j=i
  .subst hj;rw[ha] at q1;cases q1;exact hP
  .rw[Ch (Gb hj)] at q2;exact r.sep j b u q1 q2 q3
 .by_cases hj:j=i
  .subst hj;rw[ha] at q1;cases q1
   rw[Ed hi] at q2;cases q2;exact hm
  .rw[Ch (Gb hj)] at q2
   have hb:b≠a:=by rintro rfl;exact hj (lC r.nd q1 ha)
   have z:=r.at' j b u q1 q2;cases u with
   |dead=>trivial
   |lst ds=>obtain⟨vs,q,t⟩:=z;exact⟨vs,by rw[qI hb];exact q,t⟩
   |dct kvs=>obtain⟨vs,q,t⟩:=z;exact⟨vs,by rw[qI hb];exact q,t⟩
   |ins C fs=>obtain⟨dx,vs,q,t⟩:=z;exact⟨dx,vs,by rw[qI hb];exact q,t⟩
 .by_cases hb:b=a
  .subst hb;rw[qU];intro z;cases z
  .rw[qI hb];exact r.own j b q
end
theorem nn {β : Type}{a:β}{p:Prop}(h:(none:Ak β) = Ab a):p:=by cases h
theorem j7 {β : Type}{c:Prop}[Jk c]{a b:β}(h:(if c then Ab a else none)=Ab b):c/\a=b:=by
 by_cases z:c
 .rw[Bl z] at h;exact⟨z,Ct h⟩
 .rw[Bm z] at h;exact nn h
end _D
end
namespace _D
open PySem PySem.Spec PyProof.Rows _L
variable {more:Aa (Af × Co)}{us args cs:Aa Ac}{body:Aa Fj}{vs:Aa V}{u vv:Ac}{p C:Af}{od:Ak Af}{sl:Ax (Ak Ac)}{np:Fl}{R:It->Hp->Prop}{M:Kz}{sp:Sp}{S S1:Sto}{Q:VK}
abbrev DE:=qF->Sto->Res D
abbrev DT:=qF->Sto->Res Aq
abbrev DA:=qF->Sto->Res (Aa D)
inductive Out where
 |nx (env:qF) (S:Sto)|rt (d:D) (S:Sto)|bk (env:qF) (S:Sto)|ct (env:qF) (S:Sto)|ex (c:Ac) (x:D) (env:qF) (S:Sto)|bad
abbrev DS:=qF->Sto->Out
def Old (X:Cx)(pins:Aa (Af × Co))(H:Hp)(b:Af):Prop:=
 (∃ o,X.s₀.heap.get? b=Ab o)\/H b≠none\/(∃ p∈X.pn++pins,p.1=b)\/∃ x,X.env.cells.lookup x=Ab b
def Cv (X:Cx)(pins:Aa (Af × Co))(H:Hp)(B h:Bq):Prop:=∀ b o,h.get? b=Ab o->Old X pins H b->b ∉ frs X.stack->B.get? b=Ab o
inductive FlyX (X:Cx)(pins:Aa (Af × Co))(H:Hp)(c:Ac)(e:Af)(h:Bq):Prop where
 |new (g:Bq) (args:Aa Ac):Uv g h e c args->g.FunFrames X.base X.stack->(∀ b o,h.get? b=Ab o->Old X pins H b->g.get? b=Ab o)->FlyX X pins H c e h
 |fly (B:Bq) (a0:Ac):Pc B X.stack e c a0 h->Cv X pins H B h->FlyX X pins H c e h
inductive XOk (X:Cx)(P:Hp)(α : Aa Af)(c:Ac)(x:D)(S:Sto)(u:Ac)(s:Ag):Prop
 |mk (e:Af) (pins:Aa (Af × Co)) (σ : _L.St) (H:Hp) (P':Hp) (α' : Aa Af) (e1:u=.ref e) (I:Inv X pins σ H s) (r:Rel X.K H P' α' S) (q1:qG P P') (q2:α<+:α') (q3:X.ex=[]/\X.stack=X.env::X.outer/\X.env.frame=Ab X.env.locals) (q4:FlyX X pins H c e s.heap):XOk X P α c x S u s
theorem XOk.base {X:Cx}{P P1:Hp}{α α1:Aa Af}{c:Ac}{x:D}{s:Ag}(e:qG P P1)(h:α<+:α1)(k:XOk X P1 α1 c x S u s):XOk X P α c x S u s:=by
 obtain⟨a,pins,σ,H,P',α',e1,I,r,q1,q2,q3,q4⟩:=k;exact⟨a,pins,σ,H,P',α',e1,I,r,e.trans q1,h.trans q2,q3,q4⟩
section
variable (X:Cx)
def qJ {β:Type}(P:Hp)(α : Aa Af)(r:Res β)(Ok:β->Sto->Prop):Prop:=
 match r with
 |.ok d S'=>Ok d S'
 |.ex c x S'=>∀ u s',XOk X P α c x S' u s'->X.xe u s'
 |.bad=>Fh
def OkV (P:Hp)(α : Aa Af)(Q:VK)(d:D)(S':Sto):Prop:=∀ v H' P' α',Rel X.K H' P' α' S'->qG P P'->α<+:α'->Rep X.K P' α' d v->Q v H'
def OkT (P:Hp)(α : Aa Af)(Q:Aq->Hp->Prop)(b:Aq)(S':Sto):Prop:=∀ H' P' α',Rel X.K H' P' α' S'->qG P P'->α<+:α'->Q b H'
def OkA (P:Hp)(α : Aa Af)(Q:Aa V->Hp->Prop)(ds:Aa D)(S':Sto):Prop:=∀ vs H' P' α',Rel X.K H' P' α' S'->qG P P'->α<+:α'->qE X.K P' α' ds vs->Q vs H'
abbrev qV (P:Hp)(α : Aa Af)(r:Res D)(Q:VK):Prop:=qJ X P α r (OkV X P α Q)
abbrev wO (P:Hp)(α : Aa Af)(r:Res Aq)(Q:Aq->Hp->Prop):Prop:=qJ X P α r (OkT X P α Q)
abbrev p7 (P:Hp)(α : Aa Af)(r:Res (Aa D))(Q:Aa V->Hp->Prop):Prop:=qJ X P α r (OkA X P α Q)
def zA (P:Hp)(α : Aa Af)(r:Out)(D:Ends):Prop:=
 match r with
 |.nx env' S'=>∀ σ' H' P' α',Rel X.K H' P' α' S'->qZ X.K P' α' σ' env'->qG P P'->α<+:α'->D.nx σ' H'
 |.bk env' S'=>∀ σ' H' P' α',Rel X.K H' P' α' S'->qZ X.K P' α' σ' env'->qG P P'->α<+:α'->D.bk σ' H'
 |.ct env' S'=>∀ σ' H' P' α',Rel X.K H' P' α' S'->qZ X.K P' α' σ' env'->qG P P'->α<+:α'->D.ct σ' H'
 |.rt d S'=>∀ v H' P' α',Rel X.K H' P' α' S'->qG P P'->α<+:α'->Rep X.K P' α' d v->D.rt v H'
 |.ex c x _ S'=>∀ u s',XOk X P α c x S' u s'->X.xe u s'
 |.bad=>Fh
inductive tD (f:DE)(σ : _L.St)(H:Hp)(Q:VK):Prop
 |mk (P:Hp) (α : Aa Af) (env:qF) (S:Sto) (r:Rel X.K H P α S) (re:qZ X.K P α σ env) (af:qV X P α (f env S) Q):tD f σ H Q
inductive tDT (f:DT)(σ : _L.St)(H:Hp)(Q:Aq->Hp->Prop):Prop
 |mk (P:Hp) (α : Aa Af) (env:qF) (S:Sto) (r:Rel X.K H P α S) (re:qZ X.K P α σ env) (af:wO X P α (f env S) Q):tDT f σ H Q
inductive tDA (f:DA)(σ : _L.St)(H:Hp)(Q:Aa V->Hp->Prop):Prop
 |mk (P:Hp) (α : Aa Af) (env:qF) (S:Sto) (r:Rel X.K H P α S) (re:qZ X.K P α σ env) (af:p7 X P α (f env S) Q):tDA f σ H Q
inductive tDS (f:DS)(D:Ends)(σ : _L.St)(H:Hp):Prop
 |mk (P:Hp) (α : Aa Af) (env:qF) (S:Sto) (r:Rel X.K H P α S) (re:qZ X.K P α σ env) (af:zA X P α (f env S) D):tDS f D σ H
end
section
variable {X:Cx}{P P1:Hp}{α α1:Aa Af}
theorem qV.base {r:Res D}(e:qG P P1)(h:α<+:α1)(k:qV X P α r Q):qV X P1 α1 r Q:=by
 cases r with
 |ok d S=>exact λv H' P' α' r q1 q2 q3=>k v H' P' α' r (e.trans q1) (h.trans q2) q3
 |ex c x S=>exact λu s' q=>k u s' (q.base e h)
 |bad=>exact k
theorem wO.base {r:Res Aq}{Q:Aq->Hp->Prop}(e:qG P P1)(h:α<+:α1)(k:wO X P α r Q):wO X P1 α1 r Q:=by
 cases r with
 |ok d S=>exact λH' P' α' r q1 q2=>k H' P' α' r (e.trans q1) (h.trans q2)
 |ex c x S=>exact λu s' q=>k u s' (q.base e h)
 |bad=>exact k
theorem p7.base {r:Res (Aa D)}{Q:Aa V->Hp->Prop}(e:qG P P1)(h:α<+:α1)(k:p7 X P α r Q):p7 X P1 α1 r Q:=by
 cases r with
 |ok d S=>exact λv H' P' α' r q1 q2 q3=>k v H' P' α' r (e.trans q1) (h.trans q2) q3
 |ex c x S=>exact λu s' q=>k u s' (q.base e h)
 |bad=>exact k
theorem zA.base {r:Out}{D:Ends}(e:qG P P1)(h:α<+:α1)(k:zA X P α r D):zA X P1 α1 r D:=by
 cases r with
 |nx env S=>exact λv H' P' α' r q0 q1 q2=>k v H' P' α' r q0 (e.trans q1) (h.trans q2)
 |bk env S=>exact λv H' P' α' r q0 q1 q2=>k v H' P' α' r q0 (e.trans q1) (h.trans q2)
 |ct env S=>exact λv H' P' α' r q0 q1 q2=>k v H' P' α' r q0 (e.trans q1) (h.trans q2)
 |rt d S=>exact λv H' P' α' r q1 q2 q3=>k v H' P' α' r (e.trans q1) (h.trans q2) q3
 |ex c x env S=>exact λu s' q=>k u s' (q.base e h)
 |bad=>exact k
theorem xr {v:V}{H:Hp}{d:D}(k:OkV X P α Q d S)(r:Rel X.K H P α S)(q:Rep X.K P α d v):Q v H:=k v H P α r (qG.refl _) (Bn _) q
end
section
variable {X:Cx}{a b e:Bw}{pos:Fl}
theorem peW {t t':TE}(h:PE X e t)(w:∀ σ H Q,t' σ H Q->t σ H Q):PE X e t':=λpins s σ H Q I q=>h pins s σ H Q I (w σ H Q q)
theorem psW {st:Fj}{t t':TS}(h:PS X st t)(w:∀ D σ H,t' D σ H->t D σ H):PS X st t':=λpins s σ H D I q=>h pins s σ H D I (w D σ H q)
theorem D6 {st:Aa Fj}{t t':TS}(h:PSs X st t)(w:∀ D σ H,t' D σ H->t D σ H):PSs X st t':=λpins s σ H D I q=>h pins s σ H D I (w D σ H q)
theorem paW {es:Aa Bw}{t t':TA}(h:PA X es t)(w:∀ σ H Q,t' σ H Q->t σ H Q):PA X es t':=λpos pins s σ H Q I q=>h pos pins s σ H Q I (w σ H Q q)
structure Got (X:Cx)(pins:Aa (Af × Co))(σ : _L.St)(env:qF)(P:Hp)(α : Aa Af)(u:Ac)(s1:Ag)(v:V)(H1 P1:Hp)(α1:Aa Af)(d:D)(S1:Sto):Prop where
 inv:Inv X pins σ H1 s1
 val:qL v u
 rel:Rel X.K H1 P1 α1 S1
 env:qZ X.K P1 α1 σ env
 rep:Rep X.K P1 α1 d v
 same:qG P P1
 pre:α<+:α1
inductive GotG (X:Cx)(pins:Aa (Af × Co))(σ : _L.St)(env:qF)(P:Hp)(α : Aa Af)(u:Ac)(s1:Ag){γ : Type}(g:D->Sto->Res γ)(Ok:γ->Sto->Prop):Prop
 |mk (v:V) (H1 P1:Hp) (α1:Aa Af) (d:D) (S1:Sto) (G:Got X pins σ env P α u s1 v H1 P1 α1 d S1) (q:qJ X P α (g d S1) Ok):GotG X pins σ env P α u s1 g Ok
inductive GotAG (X:Cx)(pins:Aa (Af × Co))(σ : _L.St)(env:qF)(P:Hp)(α : Aa Af)(us:Aa Ac)(s1:Ag){γ : Type}(g:Aa D->Sto->Res γ)(Ok:γ->Sto->Prop):Prop
 |mk (vs:Aa V) (H1 P1:Hp) (α1:Aa Af) (ds:Aa D) (S1:Sto) (I:Inv X pins σ H1 s1) (rv:qK vs us) (r:Rel X.K H1 P1 α1 S1) (re:qZ X.K P1 α1 σ env) (rp:qE X.K P1 α1 ds vs) (e1:qG P P1) (e2:α<+:α1) (q:qJ X P α (g ds S1) Ok):GotAG X pins σ env P α us s1 g Ok
inductive GotT (X:Cx)(pins:Aa (Af × Co))(σ : _L.St)(env:qF)(P:Hp)(α : Aa Af)(b:Aq)(s1:Ag){γ : Type}(g:Aq->Sto->Res γ)(Ok:γ->Sto->Prop):Prop
 |mk (H1 P1:Hp) (α1:Aa Af) (S1:Sto) (I:Inv X pins σ H1 s1) (r:Rel X.K H1 P1 α1 S1) (re:qZ X.K P1 α1 σ env) (e1:qG P P1) (e2:α<+:α1) (q:qJ X P α (g b S1) Ok):GotT X pins σ env P α b s1 g Ok
theorem zR {γ:Type}{f:DE}{g:D->Sto->Res γ}{Ok:γ->Sto->Prop}{pins:Aa (Af × Co)}{s:Ag}{σ:_L.St}{H P:Hp}{α:Aa Af}{env:qF}(he:PE X e (tD X f))(I:Inv X pins σ H s)(r:Rel X.K H P α S)
  (re:qZ X.K P α σ env) (af:qJ X P α ((f env S).bind g) Ok) :
  Ao (As X.prog X.w) X.A (eval e X.env) (λu s1=>GotG X pins σ env P α u s1 g Ok) X.xe s:=by
 refine thn (he pins s σ H (λv H1=>∃ P1 α1 d S1,Rel X.K H1 P1 α1 S1/\qZ X.K P1 α1 σ env/\Rep X.K P1 α1 d v/\qG P P1/\α<+:α1/\qJ X P α (g d S1) Ok) I ⟨P,α,env,S,r,re,?_⟩) λu s1 ⟨v,H1,I1,rv,P1,α1,d,S1,q1,q2,q3,q4,q5,q6⟩=>⟨v,H1,P1,α1,d,S1,⟨I1,rv,q1,q2,q3,q4,q5⟩,q6⟩;cases q:f env S with
 |bad=>rw[q] at af;exact af
 |ex c x S'=>rw[q] at af;exact af
 |ok d S' =>
  rw[q] at af;exact λv H' P' α' r' e1 e2 rp=>⟨P',α',d,S',r',re.mono e1 e2,rp,e1,e2,af⟩
theorem wD {γ:Type}{es:Aa Bw}{f:DA}{g:Aa D->Sto->Res γ}{Ok:γ->Sto->Prop}{pins:Aa (Af × Co)}{s:Ag}{σ:_L.St}{H P:Hp}{α:Aa Af}{env:qF}(he:PA X es (tDA X f))(I:Inv X pins σ H s)(r:Rel X.K H P α S)
  (re:qZ X.K P α σ env) (af:qJ X P α ((f env S).bind g) Ok) (pos:Fl) :
  Ao (As X.prog X.w) X.A (spliced (Gc pos (Be es X.env))) (λus s1=>GotAG X pins σ env P α us s1 g Ok) X.xe s:=by
 refine thn (he pos pins s σ H (λvs H1=>∃ P1 α1 ds S1,Rel X.K H1 P1 α1 S1/\qZ X.K P1 α1 σ env/\qE X.K P1 α1 ds vs/\qG P P1/\α<+:α1/\qJ X P α (g ds S1) Ok) I ⟨P,α,env,S,r,re,?_⟩) λu s1 ⟨v,H1,I1,rv,P1,α1,d,S1,q1,q2,q3,q4,q5,q6⟩=>⟨v,H1,P1,α1,d,S1,I1,rv,q1,q2,q3,q4,q5,q6⟩;cases q:f env S with
 |bad=>rw[q] at af;exact af
 |ex c x S'=>rw[q] at af;exact af
 |ok d S' =>
  rw[q] at af;exact λv H' P' α' r' e1 e2 rp=>⟨P',α',d,S',r',re.mono e1 e2,rp,e1,e2,af⟩
theorem kG {γ:Type}{f:DT}{g:Aq->Sto->Res γ}{Ok:γ->Sto->Prop}{pins:Aa (Af × Co)}{s:Ag}{σ:_L.St}{H P:Hp}{α:Aa Af}{env:qF}{m:Ky Aq}
  (he:∀ (Q:Aq->Hp->Prop),tDT X f σ H Q->Ao (As X.prog X.w) X.A m (TP X pins σ Q) X.xe s) (r:Rel X.K H P α S) (re:qZ X.K P α σ env) (af:qJ X P α ((f env S).bind g) Ok) :
  Ao (As X.prog X.w) X.A m (λb s1=>GotT X pins σ env P α b s1 g Ok) X.xe s:=by
 refine thn (he (λb H1=>∃ P1 α1 S1,Rel X.K H1 P1 α1 S1/\qZ X.K P1 α1 σ env/\qG P P1/\α<+:α1/\qJ X P α (g b S1) Ok) ⟨P,α,env,S,r,re,?_⟩) λb s1 ⟨H1,I1,P1,α1,S1,q1,q2,q4,q5,q6⟩=>⟨H1,P1,α1,S1,I1,q1,q2,q4,q5,q6⟩;cases q:f env S with
 |bad=>rw[q] at af;exact af
 |ex c x S'=>rw[q] at af;exact af
 |ok d S' =>
  rw[q] at af;exact λH' P' α' r' e1 e2=>⟨P',α',S',r',re.mono e1 e2,e1,e2,af⟩
noncomputable def dC (d:D):DE:=λ_ S=>.ok d S
noncomputable def qB (i:Ai):DE:=λenv S=>match env[i]? with
 |some (Ab d)=>.ok d S
 |_=>.bad
theorem MT:PE X (.Constant (.int i) j pos) (tD X (dC (.int i))):=peW LS λσ H Q ⟨P,α,env,S,r,re,af⟩=>xr af r (by simp only[Rep])
theorem R7:PE X (.Constant (.bool i) j pos) (tD X (dC (.bl i))):=peW EG λσ H Q ⟨P,α,env,S,r,re,af⟩=>xr af r (by simp only[Rep])
theorem MY:PE X (.Constant (.str i) j pos) (tD X (dC (.str i))):=peW LW λσ H Q ⟨P,α,env,S,r,re,af⟩=>xr af r (by simp only[Rep])
theorem MV:PE X (.Constant .none j pos) (tD X (dC .non)):=peW LU λσ H Q ⟨P,α,env,S,r,re,af⟩=>xr af r (by simp only[Rep])
set_option tactic.hygienic true in
theorem FG {i:Ai}{σ:_L.St}{H:Hp}(h:tD X (qB i) σ H Q):SJ i σ H Q:=by
 obtain⟨P,α,env,S,r,re,af⟩:=h;unfold qB at af
 split at af
 .rename_i d q
  obtain⟨v,h1,h2⟩:=re.2 i d q;exact⟨v,h1,xr af r h2⟩
 .exact An af
theorem dv (i:Ai){x:Ap}(hN:X.N[i]? = Ab x:=by rfl)(hv:Vis X.env.scope x:=by first|exact wT rfl|exact Yt (wT rfl)|exact Yt (Yt rfl))(hd:(x == ("__debug__" : Ap))=false:=by decide)
  (hcd:(x == ("__classdict__" : Ap))=false:=by decide):PE X (.Name x pos) (tD X (qB i)):=peW (ZZ hN hv hd hcd) λσ H Q h=>FG h
theorem hW {x:Ap}{d:D}{v:V}(hg:Gl X x)(hm:X.mg x=Ab u)(r:qL v u)(q:∀ P α,Rep X.K P α d v)(hd:(x == ("__debug__" : Ap))=false:=by decide):PE X (.Name x pos) (tD X (dC d)):=
 peW (BD hg hm r hd) λσ H Q ⟨P,α,env,S,r,re,af⟩=>xr af r (q _ _)
theorem KE {x:Ap}{n:Dx}(hg:Gl X x)(hm:X.mg x=none)(hv:Fc x=Ab (.type n))(hn:x ≠ "__name__":=by decide)(hd:(x == ("__debug__" : Ap))=false:=by decide):PE X (.Name x pos) (tD X (dC (.ty n))):=
 peW (BC (v:=.ty n) hg hm hv rfl hn hd) λσ H Q ⟨P,α,env,S,r,re,af⟩=>xr af r (by simp only[Rep])
abbrev G2:=D->D->Sto->Res D
def OpD (X:Cx)(f:Ac->Ac->Ky Ac)(g:G2):Prop:=
 ∀ (pins:Aa (Af × Co)) (σ : _L.St) (H:Hp) (s:Ag) (P:Hp) (α : Aa Af) (S:Sto) (v u:V) (vv uu:Ac) (a b:D) (Q:VK),Inv X pins σ H s->Rel X.K H P α S->qL v vv->qL u uu->Rep X.K P α a v->Rep X.K P α b u->qV X P α (g a b S) Q ->
  Ao (As X.prog X.w) X.A (f vv uu) (EP X pins σ Q) X.xe s
theorem OpD.of {f:Ac->Ac->Ky Ac}{r:R2}{g:G2}(h:OpR X f r)(w:∀ H P α S v u a b Q,Rel X.K H P α S->Rep X.K P α a v->Rep X.K P α b u->qV X P α (g a b S) Q->r v u H Q):OpD X f g:=
 λpins σ H s P α S v u vv uu a b Q I rl r1 r2 p1 p2 af=>h pins s σ H v u vv uu Q I r1 r2 (w H P α S v u a b Q rl p1 p2 af)
def UnD (X:Cx)(f:Ac->Ky Ac)(g:D->Sto->Res D):Prop:=
 ∀ (pins:Aa (Af × Co)) (σ : _L.St) (H:Hp) (s:Ag) (P:Hp) (α : Aa Af) (S:Sto) (v:V) (vv:Ac) (a:D) (Q:VK),Inv X pins σ H s->Rel X.K H P α S->qL v vv->Rep X.K P α a v->qV X P α (g a S) Q ->
  Ao (As X.prog X.w) X.A (f vv) (EP X pins σ Q) X.xe s
def IxD (X:Cx)(g:G2):Prop:=
 ∀ (value slice:Bw) (pins:Aa (Af × Co)) (σ : _L.St) (H:Hp) (s:Ag) (P:Hp) (α : Aa Af) (S:Sto) (v u:V) (vv uu:Ac) (a b:D) (Q:VK),Inv X pins σ H s->Rel X.K H P α S->qL v vv->qL u uu->Rep X.K P α a v->Rep X.K P α b u->qV X P α (g a b S) Q ->
  subscripted slice false vv uu=operate [vv,uu] (Qx vv uu)->Ao (As X.prog X.w) X.A (Vu value slice vv uu) (EP X pins σ Q) X.xe s
def w5 (X:Cx)(f:Ac)(g:Aa D->Sto->Res D):Prop:=
 ∀ (pins:Aa (Af × Co)) (σ : _L.St) (H:Hp) (s:Ag) (P:Hp) (α : Aa Af) (S:Sto) (vs:Aa V) (us:Aa Ac) (ds:Aa D) (Q:VK),Inv X pins σ H s->Rel X.K H P α S->qK vs us->qE X.K P α ds vs->qV X P α (g ds S) Q ->
  Ao (As X.prog X.w) X.A (call f us) (EP X pins σ Q) X.xe s
noncomputable def d2 (g:G2)(fa fb:DE):DE:=λenv S=>(fa env S).bind λx S1=>(fb env S1).bind λy S2=>g x y S2
noncomputable def d1 (g:D->Sto->Res D)(fa:DE):DE:=λenv S=>(fa env S).bind g
variable {fa fb:DE}
theorem sF {g:G2}{f:Ac->Ac->Ky Ac}{pins:Aa (Af × Co)}{s:Ag}{σ:_L.St}{H:Hp}(ho:OpD X f g)(ha:PE X a (tD X fa))(hb:PE X b (tD X fb))(I:Inv X pins σ H s)(h:tD X (d2 g fa fb) σ H Q) :
  Ao (As X.prog X.w) X.A (eval a X.env) (λv s₁=>Ao (As X.prog X.w) X.A (eval b X.env) (λu s₂=>Ao (As X.prog X.w) X.A (f v u) (EP X pins σ Q) X.xe s₂) X.xe s₁) X.xe s:=by
 obtain⟨P,α,env,S,r,re,af⟩:=h;refine thn (zR ha I r re af) λvv s1 ⟨v,H1,P1,α1,d,S1,G1,af1⟩=>?_;refine thn (zR hb G1.inv G1.rel G1.env (P:=P1) (α:=α1) (Ok:=OkV X P1 α1 Q) (g:=λy S2=>g d y S2) ?_) λuu s2 ⟨u,H2,P2,α2,d',S2,G2,af2⟩=>?_
 .exact qV.base G1.same G1.pre af1
 .exact ho pins σ H2 s2 P2 α2 S2 v u vv uu d d' Q G2.inv G2.rel G1.val G2.val (Rep.mono G2.same G2.pre _ _ G1.rep) G2.rep (qV.base G2.same G2.pre af2)
theorem RB {op:Operator}{g:G2}(ho:OpD X (Fa op) g)(ha:PE X a (tD X fa))(hb:PE X b (tD X fb)):PE X (.BinOp a op b pos) (tD X (d2 g fa fb)):=
 λpins s σ H Q I h=>wpAny_BinOp (sF ho ha hb I h)
theorem MQ {op:Vn}{g:G2}(ho:OpD X (Cy op) g)(ha:PE X a (tD X fa))(hb:PE X b (tD X fb))(hm:Ly op b=false:=by first|exact kH _|with_unfolding_all rfl):PE X (.Compare a [op] [b] pos) (tD X (d2 g fa fb)):=
 λpins s σ H Q I h=>wpAny_Compare1 (sF ho ha hb I h) hm
theorem RC {op:UnaryOp}{g:D->Sto->Res D}(ho:UnD X (Yl op) g)(ha:PE X a (tD X fa)):PE X (.UnaryOp op a pos) (tD X (d1 g fa)):=by
 intro pins s σ H Q I h;obtain⟨P,α,env,S,r,re,af⟩:=h;exact UnaryOp_ (thn (zR ha I r re af) λvv s1 ⟨v,H1,P1,α1,d,S1,G1,af1⟩=>ho pins σ H1 s1 P1 α1 S1 v vv d Q G1.inv G1.rel G1.val G1.rep (qV.base G1.same G1.pre af1))
theorem RA {g:G2}(ho:IxD X g)(ha:PE X a (tD X fa))(hb:PE X b (tD X fb))(hs:mO b:=by intro _ _;rfl):PE X (.Subscript a b pos) (tD X (d2 g fa fb)):=by
 intro pins s σ H Q I h;obtain⟨P,α,env,S,r,re,af⟩:=h;have IxR':IxR X (λx y H Q=>∃ P α S a b,Rel X.K H P α S/\Rep X.K P α a x/\Rep X.K P α b y/\qV X P α (g a b S) Q):=λvalue slice pins s σ H x y v u Q I rx ry ⟨P,α,S,a,b,r,p1,p2,af⟩ hsl =>
  ho value slice pins σ H s P α S x y v u a b Q I r rx ry p1 p2 af hsl
 refine peW (EH IxR' ha hb hs) (t':=tD X (d2 g fa fb)) (λσ H Q h=>?_) pins s σ H Q I ⟨P,α,env,S,r,re,af⟩;obtain⟨P,α,env,S,r,re,af⟩:=h;refine⟨P,α,env,S,r,re,?_⟩;unfold d2 at af;cases q:fa env S with
 |bad=>rw[q] at af;exact af
 |ex c x S'=>rw[q] at af;exact af
 |ok d S1 =>
  rw[q] at af;intro v H1 P1 α1 r1 e1 e2 rp;refine⟨P1,α1,env,S1,r1,re.mono e1 e2,?_⟩;have af':qV X P α ((fb env S1).bind λy S2=>g d y S2) Q:=af;cases q2:fb env S1 with
  |bad=>rw[q2] at af';exact af'
  |ex c x S'=>rw[q2] at af';exact λu s' z=>af' u s' (z.base e1 e2)
  |ok d' S2 =>
   rw[q2] at af';intro u H2 P2 α2 r2 e3 e4 rp2;exact⟨P2,α2,S2,d,d',r2,Rep.mono e3 e4 _ _ rp,rp2,qV.base (e1.trans e3) (e2.trans e4) af'⟩
noncomputable def qC:DA:=λ_ S=>.ok [] S
noncomputable def qA (f:DE)(g:DA):DA:=λenv S=>(f env S).bind λx S1=>(g env S1).bind λxs S2=>.ok (x::xs) S2
theorem MK:PA X [] (tDA X qC):=paW LR λσ H Q ⟨P,α,env,S,r,re,af⟩=>af [] H P α r (qG.refl _) (Bn _) .nil
theorem KD {es:Aa Bw}{g:DA}(ha:PE X e (tD X fa))(hr:PA X es (tDA X g))(hs:Be (e::es) X.env=(false,eval e X.env)::Be es X.env:=by rfl):PA X (e::es) (tDA X (qA fa g)):=by
 intro pos pins s σ H Q I h;obtain⟨P,α,env,S,r,re,af⟩:=h;rw[hs];show Ao _ _ (spliced ((false,eval e X.env)::Gc pos (Be es X.env))) _ _ s;refine Ib (thn (zR ha I r re af) λu s1 ⟨x,H1,P1,α1,d,S1,G1,af1⟩=>?_);refine thn (wD hr G1.inv G1.rel G1.env (P:=P1) (α:=α1) (Ok:=OkA X P1 α1 Q) (p7.base G1.same G1.pre af1) pos) λus s2 ⟨xs,H2,P2,α2,ds,S2,I2,rv,r2,re2,rp2,e1,e2,af2⟩=>?_;exact⟨x::xs,H2,I2,.cons G1.val rv,af2 _ _ _ _ r2 e1 e2 (.cons (Rep.mono e1 e2 _ _ G1.rep) rp2)⟩
noncomputable def lim:Ai:=16777216
theorem zQ:lim=sizeLine:=Ej.symm
noncomputable def zV (f:DA):DE:=λenv S=>(f env S).bind λxs S1=>if xs.length<=lim then .ok (.tup xs) S1 else .bad
noncomputable def xD (f:DA):DE:=λenv S=>(f env S).bind λxs S1=>if xs.length<=lim then .ok (.lst xs) S1 else .bad
noncomputable def pQ (f:DA):DE:=λenv S=>(f env S).bind λxs S1=>if xs.length<=lim then .ok (.loc S1.length) (S1++[.lst xs]) else .bad
theorem n9 {K:Aj}{P:Hp}{α:Aa Af}{a:Af}{ds:Aa D}(h:SqT K P a vs)(r:qE K P α ds vs):Rep K P α (.tup ds) (.ref a):=by simp only[Rep];exact⟨a,vs,rfl,h,r⟩
theorem n8 {K:Aj}{P:Hp}{α:Aa Af}{a:Af}{ds:Aa D}(h:SqX K P a vs)(r:qE K P α ds vs):Rep K P α (.lst ds) (.ref a):=by simp only[Rep];exact⟨a,vs,rfl,h,r⟩
theorem jC {H P:Hp}{α:Aa Af}{ds:Aa D}(r:Rel X.K H P α S)(hp:H p=none)(rp:qE X.K P α ds vs)(af:OkV X P α Q (.tup ds) S):Q (.ref p) (upd H p (.tup vs)):=by
 obtain⟨r1,e1⟩:=r.pure (o:=.tup vs) hp;exact af _ _ _ α r1 e1 (Bn _) (n9 (.of qU) (qE.mono e1 (Bn _) _ _ rp))
theorem xV {H P:Hp}{α:Aa Af}{ds:Aa D}(r:Rel X.K H P α S)(hp:H p=none)(rp:qE X.K P α ds vs)(af:OkV X P α Q (.lst ds) S):Q (.ref p) (upd H p (.lst vs)):=by
 obtain⟨r1,e1⟩:=r.pure (o:=.lst vs) hp;exact af _ _ _ α r1 e1 (Bn _) (n8 (.inl (.inl qU)) (qE.mono e1 (Bn _) _ _ rp))
theorem tR {H P:Hp}{α:Aa Af}{ds:Aa D}(r:Rel X.K H P α S)(hp:H p=none)(rp:qE X.K P α ds vs)(af:OkV X P α Q (.loc S.length) (S++[.lst ds])):Q (.ref p) (upd H p (.lst vs)):=by
 have hpre:α<+:α++[p]:=Jc _ _;have r1:=r.new (o:=.lst vs) (m:=.lst ds) hp ⟨vs,qU,qE.mono (qG.refl _) hpre _ _ rp⟩;refine af _ _ _ _ r1 (qG.refl _) hpre ?_;simp only[Rep];exact⟨p,rfl,by rw[<- r.len];simp⟩
theorem mV {f:DA}{σ:_L.St}{H:Hp}{G:Aa D->Sto->Res D}{mk:Aa V->HO}(h:tD X (λenv S=>(f env S).bind λxs S1=>if xs.length<=lim then G xs S1 else .bad) σ H Q)
  (k:∀ H1 P1 α1 S1 ds vs p,Rel X.K H1 P1 α1 S1->H1 p=none->qE X.K P1 α1 ds vs->qV X P1 α1 (G ds S1) Q->Q (.ref p) (upd H1 p (mk vs))) :
  tDA X f σ H λvs H1=>vs.length<=sizeLine/\∀ p,H1 p=none->Q (.ref p) (upd H1 p (mk vs)):=by
 obtain⟨P,α,env,S,r,re,af⟩:=h;refine⟨P,α,env,S,r,re,?_⟩;have af':qV X P α ((f env S).bind λxs S1=>if xs.length<=lim then G xs S1 else .bad) Q:=af
 cases q:f env S with
 |bad=>rw[q] at af';exact af'
 |ex c x S'=>rw[q] at af';exact af'
 |ok ds S1 =>
  rw[q] at af';intro vs H1 P1 α1 r1 e1 e2 rp;have af2:qV X P α (if ds.length<=lim then G ds S1 else .bad) Q:=af'
  by_cases hl:ds.length<=lim
  .rw[Bl hl] at af2
   exact⟨by rw[<- rp.length,<- zQ];exact hl,λp hp=>k H1 P1 α1 S1 ds vs p r1 hp rp (qV.base e1 e2 af2)⟩
  .rw[Bm hl] at af2;exact An af2
theorem MZ {es:Aa Bw}{f:DA} {x1} (h:PA X es (tDA X f)):PE X (.Tuple es x1 pos) (tD X (zV f)):=
 peW (LY h) λσ H Q q=>mV (G:=λxs S1=>.ok (.tup xs) S1) (mk:=.tup) q λH1 P1 α1 S1 ds vs p r hp rp af=>jC r hp rp af
theorem MU {es:Aa Bw}{f:DA}(h:PA X es (tDA X f)):PE X (.List es pos) (tD X (xD f)):=
 peW (ZY h) λσ H Q q=>mV (G:=λxs S1=>.ok (.lst xs) S1) (mk:=.lst) q λH1 P1 α1 S1 ds vs p r hp rp af=>xV r hp rp af
theorem KM {es:Aa Bw}{f:DA}(h:PA X es (tDA X f)):PE X (.List es pos) (tD X (pQ f)):=
 peW (ZY h) λσ H Q q=>mV (G:=λxs S1=>.ok (.loc S1.length) (S1++[MO.lst xs])) (mk:=.lst) q λH1 P1 α1 S1 ds vs p r hp rp af=>tR r hp rp af
end
section
variable {X:Cx}{a b c e:Bw}{pos:Fl}{fa fb fc:DE}{ta tb:DT}
noncomputable def xO:D->Sto->Ak Aq
 |.non,_=>Ab false
 |.bl b,_=>Ab b
 |.int i,_=>Ab (i != 0)
 |.str x,_=>if x.length<=lim then Ab ((x.length:Al) != 0) else none
 |.tup xs,_=>Ab (!xs.isEmpty)
 |.lst xs,_=>Ab (!xs.isEmpty)
 |.dct0,_=>Ab false
 |.loc i,S=>match S[i]? with
  |some (.lst xs)=>Ab (!xs.isEmpty)
  |some (.dct kvs)=>Ab (!kvs.isEmpty)
  |_=>none
 |_,_=>none
theorem qE.isEmpty {K:Aj}{P:Hp}{α:Aa Af}{ds:Aa D}(r:qE K P α ds vs):(!ds.isEmpty)=!vs.isEmpty:=by
 cases ds with
 |nil=>rw[r.nil_inv];rfl
 |cons d ds=>obtain⟨w,ws,rfl,_,_⟩:=r.cons_inv;rfl
theorem xI {K:Aj}{H P:Hp}(e:qG P H){a:Af}{xs:Aa V}(h:SqT K P a xs):SqT K H a xs:=yO e h
theorem uN {H P:Hp}{α:Aa Af}{v:V}{d:D}{k:Aq}(r:Rel X.K H P α S)(p:Rep X.K P α d v)(h:xO d S=Ab k):i8 X.K v H k:=by
 cases d with
 |non=>simp only[Rep] at p;subst p;cases h;rfl
 |bl b=>simp only[Rep] at p;subst p;cases h;rfl
 |int i=>simp only[Rep] at p;subst p;cases h;rfl
 |str x =>
  simp only[Rep] at p;subst p;obtain⟨hl,rfl⟩:=j7 h;exact⟨by rw[<- zQ];exact hl,rfl⟩
 |tup xs =>
  simp only[Rep] at p;obtain⟨a,vs,rfl,q,t⟩:=p;cases h;exact .inr (.inl ⟨vs,xI r.sub q,t.isEmpty⟩)
 |lst xs =>
  simp only[Rep] at p;obtain⟨a,vs,rfl,q,t⟩:=p;cases h;exact .inl ⟨vs,(xE r.sub q).l,t.isEmpty⟩
 |dct0 =>
  simp only[Rep] at p;obtain⟨a,rfl,q⟩:=p;cases h;exact .inr (.inr ⟨[],r.sub _ _ q,rfl⟩)
 |loc i =>
  simp only[Rep] at p;obtain⟨a,rfl,q⟩:=p;have h:(match S[i]? with|some (.lst xs)=>Ab (!xs.isEmpty)|some (.dct kvs)=>Ab (!kvs.isEmpty)|_=>none)=Ab k:=h
  cases hs:S[i]? with
  |none=>rw[hs] at h;exact nn h
  |some m =>
   rw[hs] at h;cases m with
   |lst xs =>
    cases h;obtain⟨vs,z,t⟩:=r.at' i a _ q hs;exact .inl ⟨vs,.of z,t.isEmpty⟩
   |dct kvs =>
    cases h;obtain⟨vs,z,t⟩:=r.at' i a _ q hs;refine .inr (.inr ⟨vs,z,?_⟩);cases t <;> rfl
   |_=>exact nn h
 |ty n=>exact nn h
 |obj a=>exact nn h
 |exn c=>exact nn h
 |fd ks ds=>exact nn h
 |clo a vs ds=>exact nn h
theorem JU {pins:Aa (Af × Co)}{s:Ag}{σ:_L.St}{H P:Hp}{α:Aa Af}{v:V}{d:D}{k:Aq}{Q:Aq->Hp->Prop}(I:Inv X pins σ H s)(r:Rel X.K H P α S)(rv:qL v vv)(p:Rep X.K P α d v)(h:xO d S=Ab k)(q:Q k H) :
  Ao (As X.prog X.w) X.A (truthy vv) (TP X pins σ Q) X.xe s:=pK pins s σ H v vv Q I rv ⟨k,uN r p h,q⟩
noncomputable def k9 (o:Ak Aq)(S:Sto):Res Aq:=match o with
 |some b=>.ok b S
 |none=>.bad
noncomputable def dTr (f:DE):DT:=λenv S=>(f env S).bind λd S1=>k9 (xO d S1) S1
theorem nB {o:Ak Aq}{P:Hp}{α:Aa Af}{Ok:Aq->Sto->Prop}(h:qJ X P α (k9 o S) Ok):∃ b,o=Ab b/\Ok b S:=by
 cases o with
 |none=>exact An h
 |some b=>exact⟨b,rfl,h⟩
theorem TQ (ha:PE X a (tD X fa))(he:∀ whole,isTrue a X.env whole=(do let v <- whole;Tl a.pos;holding [v] (truthy v)):=by intro _;rfl):PT X a (tDT X (dTr fa)):=by
 intro pins s σ H Q I h;obtain⟨P,α,env,S,r,re,af⟩:=h;refine isTrue_plain (thn (zR ha I r re af) λvv s1 ⟨v,H1,P1,α1,d,S1,G1,af1⟩=>?_) (he _);obtain⟨k,e1,q⟩:=nB af1;exact JU G1.inv G1.rel G1.val G1.rep e1 (q H1 P1 α1 G1.rel G1.same G1.pre)
theorem TM {op:Vn}{g:G2}(ho:OpD X (Cy op) g)(ha:PE X a (tD X fa))(hb:PE X b (tD X fb))(hm:Ly op b=false:=by first|exact kH _|with_unfolding_all rfl):PT X (.Compare a [op] [b] pos) (tDT X (dTr (d2 g fa fb))):=by
 intro pins s σ H Q I h;obtain⟨P,α,env,S,r,re,af⟩:=h;refine wpAny_isTrue_Compare1 ?_ hm;have key:tD X (d2 g fa fb) σ H (λv H1=>∃ k,i8 X.K v H1 k/\Q k H1):=by
  refine⟨P,α,env,S,r,re,?_⟩;have af':qJ X P α ((d2 g fa fb env S).bind λd S1=>k9 (xO d S1) S1) (OkT X P α Q):=af;cases q:d2 g fa fb env S with
  |bad=>rw[q] at af';exact af'
  |ex c x S'=>rw[q] at af';exact af'
  |ok d S1 =>
   rw[q] at af';obtain⟨k,e1,qk⟩:=nB (X:=X) af';exact λv H1 P1 α1 r1 e3 e4 rp=>⟨k,uN r1 rp e1,qk H1 P1 α1 r1 e3 e4⟩
 exact thn (sF ho ha hb I key) λv s1 h1=>thn h1 λu s2 h2=>thn h2 λx s3 ⟨y,H3,I3,r3,k,tk,qk⟩=>pK pins s3 σ H3 y x Q I3 r3 ⟨k,tk,qk⟩
noncomputable def wC (g g':G2)(fa fb fc:DE):DE:=λenv S=>(fa env S).bind λx S1=>(fb env S1).bind λy S2=>(g x y S2).bind λz S3 =>
 match xO z S3 with
 |some true=>(fc env S3).bind λw S4=>g' y w S4
 |some false=>.ok z S3
 |none=>.bad
inductive GotO (X:Cx)(pins:Aa (Af × Co))(σ : _L.St)(P:Hp)(α : Aa Af)(w:Ac)(s1:Ag){γ : Type}(k:D->Sto->Res γ)(Ok:γ->Sto->Prop):Prop
 |mk (y:V) (H1 P1:Hp) (α1:Aa Af) (d:D) (S1:Sto) (I:Inv X pins σ H1 s1) (rv:qL y w) (r:Rel X.K H1 P1 α1 S1) (rp:Rep X.K P1 α1 d y) (e1:qG P P1) (e2:α<+:α1) (q:qJ X P α (k d S1) Ok):GotO X pins σ P α w s1 k Ok
theorem rC {γ:Type}{f:Ac->Ac->Ky Ac}{g:G2}{k:D->Sto->Res γ}{Ok:γ->Sto->Prop}{pins:Aa (Af × Co)}{σ:_L.St}{H:Hp}{s:Ag}{P:Hp}{α:Aa Af}{v u:V}{uu:Ac}{a b:D}(ho:OpD X f g)(I:Inv X pins σ H s)(r:Rel X.K H P α S)
  (rv:qL v vv) (ru:qL u uu) (pa:Rep X.K P α a v) (pb:Rep X.K P α b u) (af:qJ X P α ((g a b S).bind k) Ok) :
  Ao (As X.prog X.w) X.A (f vv uu) (λw s1=>GotO X pins σ P α w s1 k Ok) X.xe s:=by
 refine thn (ho pins σ H s P α S v u vv uu a b (λy H1=>∃ P1 α1 d S1,Rel X.K H1 P1 α1 S1/\Rep X.K P1 α1 d y/\qG P P1/\α<+:α1/\qJ X P α (k d S1) Ok) I r rv ru pa pb ?_) λw s1 ⟨y,H1,I1,r1,P1,α1,d,S1,q1,q2,q3,q4,q5⟩=>⟨y,H1,P1,α1,d,S1,I1,r1,q1,q2,q3,q4,q5⟩;cases q:g a b S with
 |bad=>rw[q] at af;exact af
 |ex c x S'=>rw[q] at af;exact af
 |ok d S' =>
  rw[q] at af;exact λv H' P' α' r' e1 e2 rp=>⟨P',α',d,S',r',rp,e1,e2,af⟩
theorem qJ.base' {β:Type}{P P1:Hp}{α α1:Aa Af}{r:Res β}{Ok Ok1:β->Sto->Prop}(e:qG P P1)(h:α<+:α1)(ho:∀ d S,Ok d S->Ok1 d S)(k:qJ X P α r Ok):qJ X P1 α1 r Ok1:=by
 cases r with
 |ok d S=>exact ho d S k
 |ex c x S=>exact λu s' q=>k u s' (q.base e h)
 |bad=>exact k
theorem WT {op op':Vn}{g g':G2}(ho:OpD X (Cy op) g)(ho':OpD X (Cy op') g')(ha:PE X a (tD X fa))(hb:PE X b (tD X fb))(hc:PE X c (tD X fc))
  (hm:Xw [op,op'] [b,c]=false:=by with_unfolding_all rfl):PE X (.Compare a [op,op'] [b,c] pos) (tD X (wC g g' fa fb fc)):=by
 intro pins s σ H Q I h;obtain⟨P,α,env,S,r,re,af⟩:=h;refine Compare_chain (thn (zR ha I r re af) λvv s1 ⟨v,H1,P1,α1,d,S1,G1,af1⟩=>chain_link (thn (zR hb G1.inv G1.rel G1.env (qV.base G1.same G1.pre af1)) λuu s2 ⟨u,H2,P2,α2,d',S2,G2,af2⟩ =>
  thn (rC ho G2.inv G2.rel G1.val G2.val (Rep.mono G2.same G2.pre _ _ G1.rep) G2.rep (qV.base G2.same G2.pre af2)) λw s3 ⟨y,H3,P3,α3,z,S3,I3,r3,rl3,rp3,e3,e4,af3⟩=>?_)) hm
 cases ht:xO z S3 with
 |none=>simp only[ht] at af3;exact An af3
 |some k =>
  simp only[ht] at af3;have tv:=uN rl3 rp3 ht;refine thn (pK pins s3 σ H3 y w (λk' H'=>k'=k/\H'=H3) I3 r3 ⟨k,tv,rfl,rfl⟩) λk' s4 ⟨H4,I4,hk,hH⟩=>?_;subst hk;subst hH;cases k' with
  |false=>exact ite_ff ⟨y,H4,I4,r3,af3 y H4 P3 α3 rl3 e3 e4 rp3⟩
  |true =>
   refine ite_tt (chain_last (thn (zR hc I4 rl3 (G2.env.mono e3 e4) (qV.base e3 e4 af3)) λww s5 ⟨w',H5,P5,α5,d5,S5,G5,af5⟩=>?_));exact ho' pins σ H5 s5 P5 α5 S5 u w' uu ww d' d5 Q G5.inv G5.rel G2.val G5.val (Rep.mono (e3.trans G5.same) (e4.trans G5.pre) _ _ G2.rep) G5.rep (qV.base G5.same G5.pre af5)
theorem Y3 {op op':Vn}{g g':G2}(ho:OpD X (Cy op) g)(ho':OpD X (Cy op') g')(ha:PE X a (tD X fa))(hb:PE X b (tD X fb))(hc:PE X c (tD X fc))
  (hm:Xw [op,op'] [b,c]=false:=by with_unfolding_all rfl):PT X (.Compare a [op,op'] [b,c] pos) (tDT X (dTr (wC g g' fa fb fc))):=by
 intro pins s σ H Q I h;obtain⟨P,α,env,S,r,re,af⟩:=h;have af':qJ X P α ((wC g g' fa fb fc env S).bind λd S1=>k9 (xO d S1) S1) (OkT X P α Q):=af;have assoc:(wC g g' fa fb fc env S).bind (λd S1=>k9 (xO d S1) S1)=(fa env S).bind λx S1=>(fb env S1).bind λy S2=>(g x y S2).bind λz S3 =>
   match xO z S3 with
   |some true=>((fc env S3).bind λw S4=>g' y w S4).bind λd S1=>k9 (xO d S1) S1
   |some false=>.ok false S3
   |none=>.bad:=by
  unfold wC;cases fa env S with
  |bad=>rfl
  |ex _ _ _=>rfl
  |ok x S1 =>
   show Res.bind (Res.bind (fb env S1) _) _=Res.bind (fb env S1) _;cases fb env S1 with
   |bad=>rfl
   |ex _ _ _=>rfl
   |ok y S2 =>
    show Res.bind (Res.bind (g x y S2) _) _=Res.bind (g x y S2) _;cases g x y S2 with
    |bad=>rfl
    |ex _ _ _=>rfl
    |ok z S3 =>
     show Res.bind (match xO z S3 with|some true=>(fc env S3).bind λw S4=>g' y w S4|some false=>.ok z S3|none=>.bad) _=_
     cases ht:xO z S3 with
     |none=>simp only[ht,Res.bind]
     |some k=>cases k <;> simp only[ht,Res.bind,k9]
 rw[assoc] at af';refine isTrue_chain (thn (zR ha I r re af') λvv s1 ⟨v,H1,P1,α1,d,S1,G1,af1⟩=>test_link (thn (zR hb G1.inv G1.rel G1.env (wO.base G1.same G1.pre af1)) λuu s2 ⟨u,H2,P2,α2,d',S2,G2,af2⟩ =>
  thn (rC ho G2.inv G2.rel G1.val G2.val (Rep.mono G2.same G2.pre _ _ G1.rep) G2.rep (wO.base G2.same G2.pre af2)) λw s3 ⟨y,H3,P3,α3,z,S3,I3,r3,rl3,rp3,e3,e4,af3⟩=>?_)) hm
 cases ht:xO z S3 with
 |none=>simp only[ht] at af3;exact An af3
 |some k =>
  simp only[ht] at af3;have tv:=uN rl3 rp3 ht;refine thn (pK pins s3 σ H3 y w (λk' H'=>k'=k/\H'=H3) I3 r3 ⟨k,tv,rfl,rfl⟩) λk' s4 ⟨H4,I4,hk,hH⟩=>?_;subst hk;subst hH;cases k' with
  |false=>exact ite_ff ⟨H4,I4,af3 H4 P3 α3 rl3 e3 e4⟩
  |true =>
   have af4:qJ X P2 α2 ((fc env S3).bind λw S4=>(g' d' w S4).bind λd S1=>k9 (xO d S1) S1) (OkT X P2 α2 Q):=by
    have e:((fc env S3).bind λw S4=>(g' d' w S4).bind λd S1=>k9 (xO d S1) S1)=(((fc env S3).bind λw S4=>g' d' w S4).bind λd S1=>k9 (xO d S1) S1):=by
     cases fc env S3 <;> rfl
    rw[e];exact af3
   refine ite_tt (test_last (thn (zR hc I4 rl3 (G2.env.mono e3 e4) (wO.base e3 e4 af4)) λww s5 ⟨w',H5,P5,α5,d5,S5,G5,af5⟩ =>
    thn (rC ho' G5.inv G5.rel G2.val G5.val (Rep.mono (e3.trans G5.same) (e4.trans G5.pre) _ _ G2.rep) G5.rep (wO.base G5.same G5.pre af5)) λx6 s6 ⟨y6,H6,P6,α6,d6,S6,I6,r6,rl6,rp6,e5,e6,af6⟩=>?_))
   obtain⟨k6,q6,z6⟩:=nB af6;exact JU I6 rl6 r6 rp6 q6 (z6 H6 P6 α6 rl6 e5 e6)
noncomputable def xN (t:DT):DT:=λenv S=>(t env S).bind λb S1=>.ok (!b) S1
noncomputable def yW (t u:DT):DT:=λenv S=>(t env S).bind λb S1=>if b then u env S1 else .ok false S1
noncomputable def uV (t u:DT):DT:=λenv S=>(t env S).bind λb S1=>if b then .ok true S1 else u env S1
theorem TN (ha:PT X a (tDT X ta)):PT X (.UnaryOp .Not a pos) (tDT X (xN ta)):=by
 intro pins s σ H Q I h;obtain⟨P,α,env,S,r,re,af⟩:=h;refine isTrue_not (thn (kG (λQ' q=>ha pins s σ H Q' I q) r re af) λb s1 ⟨H1,P1,α1,S1,I1,r1,re1,e1,e2,af1⟩=>⟨H1,I1,af1 H1 P1 α1 r1 e1 e2⟩)
def PWD (X:Cx)(e:Bw)(t:DT):Prop:=PW X e (tDT X t)
theorem PWD.pt {t:DT}(h:PWD X e t):PT X e (tDT X t):=h _
theorem GB (ha:PT X a (tDT X ta)):PWD X (.BoolOp .And [a] pos) ta:=BM ha
theorem TU (ha:PT X a (tDT X ta)):PWD X (.BoolOp .Or [a] pos) ta:=D8 ha
theorem TR {rest:Aa Bw}(ha:PT X a (tDT X ta))(hb:PWD X (.BoolOp .And (b::rest) pos) tb):PWD X (.BoolOp .And (a::b::rest) pos) (yW ta tb):=by
 intro wh pins s σ H Q I h;obtain⟨P,α,env,S,r,re,af⟩:=h;refine isTrue_and (thn (kG (λQ' q=>ha pins s σ H Q' I q) r re af) λk s1 ⟨H1,P1,α1,S1,I1,r1,re1,e1,e2,af1⟩=>?_);cases k with
 |true=>exact hb wh pins s1 σ H1 Q I1 ⟨P1,α1,env,S1,r1,re1,wO.base e1 e2 af1⟩
 |false=>exact⟨H1,I1,af1 H1 P1 α1 r1 e1 e2⟩
theorem RJ {rest:Aa Bw}(ha:PT X a (tDT X ta))(hb:PWD X (.BoolOp .Or (b::rest) pos) tb):PWD X (.BoolOp .Or (a::b::rest) pos) (uV ta tb):=by
 intro wh pins s σ H Q I h;obtain⟨P,α,env,S,r,re,af⟩:=h;refine isTrue_or (thn (kG (λQ' q=>ha pins s σ H Q' I q) r re af) λk s1 ⟨H1,P1,α1,S1,I1,r1,re1,e1,e2,af1⟩=>?_);cases k with
 |true=>exact⟨H1,I1,af1 H1 P1 α1 r1 e1 e2⟩
 |false=>exact hb wh pins s1 σ H1 Q I1 ⟨P1,α1,env,S1,r1,re1,wO.base e1 e2 af1⟩
noncomputable def uS (f g:DE):DE:=λenv S=>(f env S).bind λx S1=>match xO x S1 with
 |some true=>g env S1
 |some false=>.ok x S1
 |none=>.bad
noncomputable def WQ (f:DE):DE:=λenv S=>(f env S).bind λx S1=>match xO x S1 with
 |some b=>.ok (.bl (!b)) S1
 |none=>.bad
theorem MX  (h:PE X a (tD X fa)):PE X (.BoolOp op [a] pos) (tD X fa):=LV h
theorem SK {pins:Aa (Af × Co)}{s:Ag}{σ:_L.St}{H:Hp}{v:V}{k:Aq}{R:Aq->Ag->Prop}(I:Inv X pins σ H s)(rv:qL v vv)(t:i8 X.K v H k)(h:∀ s',Inv X pins σ H s'->R k s') :
  Ao (As X.prog X.w) X.A (truthy vv) R X.xe s:=thn (pK pins s σ H v vv (λk' H'=>k'=k/\H'=H) I rv ⟨k,t,rfl,rfl⟩) λk' s4 ⟨H4,I4,hk,hH⟩=>by subst hk;subst hH;exact h s4 I4
theorem MM {rest:Aa Bw}(ha:PE X a (tD X fa))(hb:PE X (.BoolOp .And (b::rest) pos) (tD X fb)):PE X (.BoolOp .And (a::b::rest) pos) (tD X (uS fa fb)):=by
 intro pins s σ H Q I h;obtain⟨P,α,env,S,r,re,af⟩:=h;refine BoolOp_and (thn (zR ha I r re af) λvv s1 ⟨v,H1,P1,α1,d,S1,G1,af1⟩=>?_);cases ht:xO d S1 with
 |none=>simp only[ht] at af1;exact An af1
 |some k =>
  simp only[ht] at af1;refine SK G1.inv G1.val (uN G1.rel G1.rep ht) λs2 I2=>?_;cases k with
  |true=>exact hb pins s2 σ H1 Q I2 ⟨P1,α1,env,S1,G1.rel,G1.env,qV.base G1.same G1.pre af1⟩
  |false=>exact⟨v,H1,I2,G1.val,af1 v H1 P1 α1 G1.rel G1.same G1.pre G1.rep⟩
theorem MW (ha:PE X a (tD X fa)):PE X (.UnaryOp .Not a pos) (tD X (WQ fa)):=by
 intro pins s σ H Q I h;obtain⟨P,α,env,S,r,re,af⟩:=h;refine UnaryOp_ (thn (zR ha I r re af) λvv s1 ⟨v,H1,P1,α1,d,S1,G1,af1⟩=>?_);cases ht:xO d S1 with
 |none=>simp only[ht] at af1;exact An af1
 |some k =>
  simp only[ht] at af1;exact not_of (SK G1.inv G1.val (uN G1.rel G1.rep ht) λs2 I2=>⟨.bl (!k),H1,I2,rfl,af1 (.bl (!k)) H1 P1 α1 G1.rel G1.same G1.pre (by simp only[Rep])⟩)
noncomputable def dIf (t:DT)(f g:DE):DE:=λenv S=>(t env S).bind λb S1=>if b then f env S1 else g env S1
theorem R9 (hc:PT X c (tDT X ta))(ha:PE X a (tD X fa))(hb:PE X b (tD X fb)):PE X (.IfExp c a b pos) (tD X (dIf ta fa fb)):=by
 intro pins s σ H Q I h;obtain⟨P,α,env,S,r,re,af⟩:=h;refine wpAny_IfExp (thn (kG (λQ' q=>hc pins s σ H Q' I q) r re af) λk s1 ⟨H1,P1,α1,S1,I1,r1,re1,e1,e2,af1⟩=>?_);cases k with
 |true=>exact ha pins s1 σ H1 Q I1 ⟨P1,α1,env,S1,r1,re1,qV.base e1 e2 af1⟩
 |false=>exact hb pins s1 σ H1 Q I1 ⟨P1,α1,env,S1,r1,re1,qV.base e1 e2 af1⟩
end
@[inline] def Res.toS {β:Type}(env:qF)(r:Res β)(k:β->Sto->Out):Out:=
 match r with
 |.ok d S=>k d S
 |.ex c x S=>.ex c x env S
 |.bad=>.bad
section
variable {X:Cx}{a b c e:Bw}{pos:Fl}{fa fb fc:DE}{ta tb:DT}{f g:DS}{st:Fj}{rest:Aa Fj}
noncomputable def zG:DS:=λenv S=>.nx env S
noncomputable def qQ (f g:DS):DS:=λenv S=>match f env S with
 |.nx env1 S1=>g env1 S1
 |o=>o
theorem TC:PSs X [] (tDS X zG):=D6 BK λD σ H ⟨P,α,env,S,r,re,af⟩=>af σ H P α r re (qG.refl _) (Bn _)
theorem G6 (h1:PS X st (tDS X f))(h2:PSs X rest (tDS X g)):PSs X (st::rest) (tDS X (qQ f g)):=D6 (VJ h1 h2) λD σ H ⟨P,α,env,S,r,re,af⟩=>by
 refine⟨P,α,env,S,r,re,?_⟩;unfold qQ at af;cases q:f env S with
 |nx env1 S1 =>
  rw[q] at af;exact λσ' H' P' α' r' re' e1 e2=>⟨P',α',env1,S1,r',re',zA.base e1 e2 af⟩
 |rt d S1=>rw[q] at af;exact af
 |bk env1 S1=>rw[q] at af;exact af
 |ct env1 S1=>rw[q] at af;exact af
 |ex c x env1 S1=>rw[q] at af;exact af
 |bad=>rw[q] at af;exact af
theorem TF (h1:PS X st (tDS X f)):PSs X [st] (tDS X f):=BL h1
theorem wW {β:Type}{P:Hp}{α:Aa Af}{env:qF}{r:Res β}{k:β->Sto->Out}{D:Ends}(h:zA X P α (r.toS env k) D):qJ X P α r λd S=>zA X P α (k d S) D:=by
 cases r with
 |ok d S=>exact h
 |ex c x S=>exact h
 |bad=>exact h
inductive GotS (X:Cx)(pins:Aa (Af × Co))(σ : _L.St)(env:qF)(P:Hp)(α : Aa Af)(u:Ac)(s1:Ag)(k:D->Sto->Out)(E:Ends):Prop
 |mk (v:V) (H1 P1:Hp) (α1:Aa Af) (d:D) (S1:Sto) (G:Got X pins σ env P α u s1 v H1 P1 α1 d S1) (q:zA X P1 α1 (k d S1) E):GotS X pins σ env P α u s1 k E
theorem fM {k:D->Sto->Out}{pins:Aa (Af × Co)}{s:Ag}{σ:_L.St}{H P:Hp}{α:Aa Af}{env:qF}{D:Ends}(he:PE X e (tD X fa))(I:Inv X pins σ H s)(r:Rel X.K H P α S)
  (re:qZ X.K P α σ env) (af:zA X P α ((fa env S).toS env k) D) :
  Ao (As X.prog X.w) X.A (eval e X.env) (λu s1=>GotS X pins σ env P α u s1 k D) X.xe s:=by
 have af1:qJ X P α ((fa env S).bind λd S=>.ok d S) λd S=>zA X P α (k d S) D:=by
  have:=wW af;cases q:fa env S <;> rw[q] at this <;> exact this
 exact thn (zR he I r re af1) λu s1 ⟨v,H1,P1,α1,d,S1,G,q⟩=>⟨v,H1,P1,α1,d,S1,G,zA.base G.same G.pre q⟩
noncomputable def xX (f:DE):DS:=λenv S=>(f env S).toS env λ_ S1=>.nx env S1
theorem G7 (he:PE X e (tD X fa))(hs:Nt e none pos.line X.env=pure false:=by rfl):PS X (.Expr e pos) (tDS X (xX fa)):=by
 intro pins s σ H D I h;obtain⟨P,α,env,S,r,re,af⟩:=h;exact wpAny_Expr_any (thn (fM he I r re af) λv s1 ⟨x,H1,P1,α1,d,S1,G,q⟩=>⟨σ,H1,G.inv,q σ H1 P1 α1 G.rel G.env (qG.refl _) (Bn _)⟩) I.quiet hs
noncomputable def qX (f:DE):DS:=λenv S=>(f env S).toS env λd S1=>.rt d S1
theorem TJ (he:PE X e (tD X fa)):PS X (.Return (Ab e) pos) (tDS X (qX fa)):=by
 intro pins s σ H D I h;obtain⟨P,α,env,S,r,re,af⟩:=h;exact wpAny_Return_some (thn (fM he I r re af) λv s1 ⟨x,H1,P1,α1,d,S1,G,q⟩=>⟨x,σ,H1,G.inv,G.val,q x H1 P1 α1 G.rel (qG.refl _) (Bn _) G.rep⟩)
noncomputable def sIf (t:DT)(f g:DS):DS:=λenv S=>(t env S).toS env λb S1=>if b then f env S1 else g env S1
theorem RG {as bs:Aa Fj}(hc:PT X c (tDT X ta))(ha:PSs X as (tDS X f))(hb:PSs X bs (tDS X g)):PS X (.If c as bs pos) (tDS X (sIf ta f g)):=by
 intro pins s σ H D I h;obtain⟨P,α,env,S,r,re,af⟩:=h;have af1:qJ X P α ((ta env S).bind λd S=>.ok d S) λb S=>zA X P α (if b then f env S else g env S) D:=by
  have:=wW af;cases q:ta env S <;> rw[q] at this <;> exact this
 refine wpAny_If (thn (kG (λQ' q=>hc pins s σ H Q' I q) r re af1) λk s1 ⟨H1,P1,α1,S1,I1,r1,re1,e1,e2,af2⟩=>?_);cases k with
 |true=>exact ha pins s1 σ H1 D I1 ⟨P1,α1,env,S1,r1,re1,zA.base e1 e2 af2⟩
 |false=>exact hb pins s1 σ H1 D I1 ⟨P1,α1,env,S1,r1,re1,zA.base e1 e2 af2⟩
abbrev DG:=D->qF->Sto->Res qF
abbrev DGs:=Aa D->qF->Sto->Res qF
def OkE (X:Cx)(P:Hp)(α : Aa Af)(Q:_L.St->Hp->Prop)(env':qF)(S':Sto):Prop:=∀ σ' H' P' α',Rel X.K H' P' α' S'->qZ X.K P' α' σ' env'->qG P P'->α<+:α'->Q σ' H'
def tDG (X:Cx)(g:DG):TG:=λv σ H Q=>∃ P α env S d,Rel X.K H P α S/\qZ X.K P α σ env/\Rep X.K P α d v/\qJ X P α (g d env S) (OkE X P α Q)
def rS (X:Cx)(g:DGs):TGs:=λvs σ H Q=>∃ P α env S ds,Rel X.K H P α S/\qZ X.K P α σ env/\qE X.K P α ds vs/\qJ X P α (g ds env S) (OkE X P α Q)
theorem qZ.set {K:Aj}{P:Hp}{α:Aa Af}{σ:_L.St}{env:qF}{d:D}{v:V}(re:qZ K P α σ env)(i:Ai)(rp:Rep K P α d v):qZ K P α (σ.set i (Ab v)) (env.set i (Ab d)):=by
 refine⟨by simp[re.1],λj d' e=>?_⟩
 by_cases hj:i=j
 .subst hj
  by_cases hi:i<env.length
  .rw[Ed hi] at e
   cases e;exact⟨v,by rw[Ed (by rw[<- re.1];exact hi)],rp⟩
  .rw[Oo (by simp;omega)] at e;cases e
 .rw[Ch hj] at e ⊢
  exact re.2 j d' e
noncomputable def gNm (i:Ai):DG:=λd env S=>.ok (env.set i (Ab d)) S
theorem KQ {i:Ai}{x:Ap}(hN:X.N.Nodup)(hi:X.N[i]? = Ab x:=by rfl)(hx:Loc X.env.scope x:=by first|exact wT rfl|exact Yt rfl)(hf:X.fn x=true\/X.env.scope.names.lookup x=Ab .local:=by first|exact .inl rfl|exact .inr rfl|assumption):PG X (.Name x pos) (tDG X (gNm i)):=by
 intro pins s σ H v u Q I rv h;obtain⟨P,α,env,S,d,r,re,rp,af⟩:=h;exact BE hN hi hx hf pins s σ H v u Q I rv (af _ H P α r (re.set i rp) (qG.refl _) (Bn _))
noncomputable def uC:DGs:=λds env S=>match ds with
 |[]=>.ok env S
 |_=>.bad
noncomputable def xJ (g:DG)(gs:DGs):DGs:=λds env S=>match ds with
 |d::r=>(g d env S).bind λenv1 S1=>gs r env1 S1
 |[]=>.bad
theorem KR:PGs X [] (rS X uC):=by
 intro pins s σ H vs us Q I rv h;obtain⟨P,α,env,S,ds,r,re,rp,af⟩:=h;cases ds with
 |nil=>exact BF pins s σ H vs us Q I rv ⟨rp.nil_inv,af σ H P α r re (qG.refl _) (Bn _)⟩
 |cons d ds=>exact An af
theorem WX {es:Aa Bw}{g:DG}{gs:DGs}(h1:PG X e (tDG X g))(h2:PGs X es (rS X gs))(hs:(Hc (e::es) X.env).map (·.2)=assign e X.env::(Hc es X.env).map (·.2):=by rfl):PGs X (e::es) (rS X (xJ g gs)):=by
 intro pins s σ H vs us Q I rv h;obtain⟨P,α,env,S,ds,r,re,rp,af⟩:=h;cases ds with
 |nil=>exact An af
 |cons d ds =>
  obtain⟨w,ws,rfl,p1,p2⟩:=rp.cons_inv;refine VH h1 h2 hs pins s σ H _ us Q I rv ⟨w,ws,rfl,P,α,env,S,d,r,re,p1,?_⟩;have af':qJ X P α ((g d env S).bind λenv1 S1=>gs ds env1 S1) (OkE X P α Q):=af;cases q:g d env S with
  |bad=>rw[q] at af';exact af'
  |ex c x S'=>rw[q] at af';exact af'
  |ok env1 S1 =>
   rw[q] at af';intro σ' H' P' α' r' re' e1 e2;refine⟨P',α',env1,S1,ds,r',re',qE.mono e1 e2 _ _ p2,qJ.base' e1 e2 (λenv' S' ok σ2 H2 P2 α2 r2 re2 e3 e4=>ok σ2 H2 P2 α2 r2 re2 (e1.trans e3) (e2.trans e4)) af'⟩
noncomputable def gTp (n:Ai)(gs:DGs):DG:=λd env S=>match d with
 |.tup xs=>if xs.length=n then gs xs env S else .bad
 |_=>.bad
set_option tactic.hygienic true in
theorem T4 {es:Aa Bw}{k:Ai}{gs:DGs}{n:Ai}(hc:X.calm=true)(h:PGs X es (rS X gs))(hn:(Hc es X.env).length=n:=by rfl)(hst:(Hc es X.env).findIdx? (·.1)=none:=by rfl):PG X (.Tuple es k pos) (tDG X (gTp n gs)):=by
 intro pins s σ H v u Q I rv hw;obtain⟨P,α,env,S,d,r,re,rp,af⟩:=hw;cases d with
 |tup xs =>
  simp only[Rep] at rp;obtain⟨a,vs,rfl,q,t⟩:=rp;simp only[gTp] at af
  split at af
  .rename_i hl
   exact LZ hc h hn hst pins s σ H _ u Q I rv ⟨a,vs,rfl,xI r.sub q,by rw[<- t.length];exact hl,P,α,env,S,xs,r,re,t,af⟩
  .exact An af
 |_=>exact An af
abbrev G3:=D->D->D->Sto->Res Qv
def OkU (X:Cx)(P:Hp)(α : Aa Af)(Q:Hp->Prop)(_:Qv)(S':Sto):Prop:=∀ H' P' α',Rel X.K H' P' α' S'->qG P P'->α<+:α'->Q H'
def dH (X:Cx)(g:G3):M1:=λo i v H Q=>∃ P α S a b d,Rel X.K H P α S/\Rep X.K P α a o/\Rep X.K P α b i/\Rep X.K P α d v/\qJ X P α (g a b d S) (OkU X P α Q)
noncomputable def gSb (fo fi:DE)(g:G3):DG:=λd env S=>(fo env S).bind λo S1=>(fi env S1).bind λi S2=>(g o i d S2).bind λ_ S3=>.ok env S3
theorem T3 {o i:Bw}{fo fi:DE}{g:G3}(ho:PE X o (tD X fo))(hi:PE X i (tD X fi))(hs:dJ X (dH X g))
  (ha:∀ v,assign (.Subscript o i pos) X.env v=(do
   let ov <- holding [v] (eval o X.env)
   let iv <- holding [v,ov] (eval i X.env)
   Tl pos
   holding [v,ov,iv] (setItem ov iv v)
   release [v,ov,iv] []):=by intro _;rfl):PG X (.Subscript o i pos) (tDG X (gSb fo fi g)):=by
 intro pins s σ H v u Q I rv h;obtain⟨P,α,env,S,d,r,re,rp,af⟩:=h;rw[ha];refine Ad (Ee (thn (zR ho I r re af) λov s1 ⟨x,H1,P1,α1,d1,S1,G1,af1⟩=>?_));refine Ad (Ee (thn (zR hi G1.inv G1.rel G1.env (P:=P1) (α:=α1) (Ok:=OkE X P1 α1 Q) (qJ.base' G1.same G1.pre (λenv' S' ok σ2 H2 P2 α2 r2 re2 e3 e4=>ok σ2 H2 P2 α2 r2 re2 (G1.same.trans e3) (G1.pre.trans e4)) af1)) λiv s2 ⟨y,H2,P2,α2,d2,S2,G2,af2⟩=>?_));refine Ad (Lx (Ad (Ee (thn (hs pins s2 σ H2 x y v ov iv u (λH3=>Q σ H3) G2.inv G1.val G2.val rv ⟨P2,α2,S2,d1,d2,d,G2.rel,Rep.mono G2.same G2.pre _ _ G1.rep,G2.rep,Rep.mono (G1.same.trans G2.same) (G1.pre.trans G2.pre) _ _ rp,?_⟩) λ_ s3 ⟨H3,I3,q3⟩=>?_))))
 .cases q:g d1 d2 d S2 with
  |bad=>rw[q] at af2;exact af2
  |ex c x S'=>rw[q] at af2;exact λu s' z=>af2 u s' (z.base G2.same G2.pre)
  |ok w S3 =>
   rw[q] at af2;exact λH' P' α' r' e1 e2=>af2 σ H' P' α' r' (G2.env.mono e1 e2) (G2.same.trans e1) (G2.pre.trans e2)
 .exact wpAny_release ⟨σ,H3,I3,q3⟩
noncomputable def zD (f:DE)(g:DG):DS:=λenv S=>(f env S).toS env λd S1=>(g d env S1).toS env λenv' S2=>.nx env' S2
theorem oU {g:DG}{d:D}{env:qF}{P:Hp}{α:Aa Af}{D':Ends}(h:zA X P α ((g d env S).toS env λenv' S2=>.nx env' S2) D'):qJ X P α (g d env S) (OkE X P α D'.nx):=by
 cases q:g d env S with
 |bad=>rw[q] at h;exact h
 |ex c x S'=>rw[q] at h;exact h
 |ok env1 S1=>rw[q] at h;exact h
theorem T9 {tg:Bw}{g:DG}(he:PE X e (tD X fa))(hg:PG X tg (tDG X g))(hs:Lw [tg] e pos.line X.env=pure false:=by rfl)(hw:Lv [tg] e X.env=pure none:=by rfl)
  (h1:(Hc [tg] X.env).map (·.2)=[assign tg X.env]:=by rfl):PS X (.Assign [tg] e pos) (tDS X (zD fa g)):=by
 intro pins s σ H D I h;obtain⟨P,α,env,S,r,re,af⟩:=h;refine wpAny_Assign_stores (thn (fM he I r re af) λv s1 ⟨x,H1,P1,α1,d,S1,G,q⟩=>?_) hs hw;rw[h1];exact thn (hg pins s1 σ H1 x v _ G.inv G.val ⟨P1,α1,env,S1,d,G.rel,G.env,G.rep,oU q⟩) λ_ s2 q=>q
theorem TK {i:Ai}{x:Ap}{pos':Fl}(hN:X.N.Nodup)(he:PE X e (tD X fa))(hi:X.N[i]? = Ab x:=by rfl)(hx:Loc X.env.scope x:=by first|exact wT rfl|exact Yt rfl)(hs:Nt e (Ab (.Name x pos')) pos.line X.env=pure false:=by rfl)
  (hf:X.fn x=true\/X.env.scope.names.lookup x=Ab .local:=by first|exact .inl rfl|exact .inr rfl|assumption):PS X (.Assign [.Name x pos'] e pos) (tDS X (zD fa (gNm i))):=by
 intro pins s σ H D I h;obtain⟨P,α,env,S,r,re,af⟩:=h;refine wpAny_Assign_Name (thn (fM he I r re af) λv s1 ⟨y,H1,P1,α1,d,S1,G,q⟩=>?_) hs;exact jI G.inv hN hi hx G.val (λs2 I2=>⟨_,H1,I2,q _ H1 P1 α1 G.rel (G.env.set i G.rep) (qG.refl _) (Bn _)⟩) hf
noncomputable def ZX (i j:Ai)(env:qF)(S1:Sto):Aa D->Out
 |[x,y]=>.nx ((env.set i (Ab x)).set j (Ab y)) S1
 |_=>.bad
noncomputable def nF (i j:Ai)(f:DA):DS:=λenv S=>(f env S).toS env λds S1=>ZX i j env S1 ds
theorem TH {i j:Ai}{x y:Ap}{f:DA}{px py pt:Fl} {kt k2 pt2} (hc:X.calm=true) (hN:X.N.Nodup) (ha:PA X [a,b] (tDA X f)) (hi:X.N[i]? = Ab x:=by rfl) (hj:X.N[j]? = Ab y:=by rfl) (hij:i≠j:=by decide)
  (hx:X.env.scope.names.lookup x=Ab .local:=by rfl) (hy:X.env.scope.names.lookup y=Ab .local:=by rfl)
  (hw:Lv [.Tuple [.Name x px,.Name y py] kt pt] (.Tuple [a,b] k2 pt2) X.env=pure (Ab [x,y]):=by rfl)
  (hs:Lw [.Tuple [.Name x px,.Name y py] kt pt] (.Tuple [a,b] k2 pt2) pos.line X.env=pure false:=by rfl) :
  PS X (.Assign [.Tuple [.Name x px,.Name y py] kt pt] (.Tuple [a,b] k2 pt2) pos) (tDS X (nF i j f)):=psW (D5 hc hN hi hj hij hx hy ha hw hs) λD σ H ⟨P,α,env,S,r,re,af⟩=>by
 refine⟨P,α,env,S,r,re,?_⟩;have af1:=wW af;cases q:f env S with
 |bad=>rw[q] at af1;exact af1
 |ex c x S'=>rw[q] at af1;exact af1
 |ok ds S1 =>
  rw[q] at af1;intro vs H' P' α' r' e1 e2 rp;have af2:zA X P α (ZX i j env S1 ds) D:=af1;cases ds with
  |nil=>exact An af2
  |cons d ds=>cases ds with
   |nil=>exact An af2
   |cons d' ds=>cases ds with
    |cons _ _=>exact An af2
    |nil =>
     obtain⟨w,ws,rfl,p1,t⟩:=rp.cons_inv;obtain⟨w',ws',rfl,p2,t⟩:=t.cons_inv;rw[t.nil_inv];exact⟨w,w',rfl,af2 _ _ P' α' r' (((re.mono e1 e2).set i p1).set j p2) e1 e2⟩
end
structure ItD (K:Aj)(J:It)(P:Hp)(α : Aa Af)(ds:Aa D):Prop where
 go:∀ i H P1 α1 S,i<ds.length->Rel K H P1 α1 S->qG P P1->α<+:α1->J.go i H
 yld:∀ i H x H' P1 α1 S,i<ds.length->Rel K H P1 α1 S->qG P P1->α<+:α1->J.yld i H x H'->∃ P2 d,ds[i]? = Ab d/\Rel K H' P2 α1 S/\qG P1 P2/\Rep K P2 α1 d x
 stop:∀ i H P1 α1 S,ds.length<=i->Rel K H P1 α1 S->qG P P1->α<+:α1->J.stop i H
abbrev DI:=qF->Sto->Res (Aa D)
def OkI (X:Cx)(P:Hp)(α : Aa Af)(R:It->Hp->Prop)(ds:Aa D)(S':Sto):Prop:=∀ J H' P' α',Rel X.K H' P' α' S'->qG P P'->α<+:α'->ItD X.K J P' α' ds->R J H'
inductive tDI (X:Cx)(f:DI)(σ : _L.St)(H:Hp)(R:It->Hp->Prop):Prop
 |mk (P:Hp) (α : Aa Af) (env:qF) (S:Sto) (r:Rel X.K H P α S) (re:qZ X.K P α σ env) (af:qJ X P α (f env S) (OkI X P α R)):tDI X f σ H R
noncomputable def vQ {β:Type}(o:Ak β)(S:Sto):Res β:=match o with
 |some b=>.ok b S
 |none=>.bad
theorem vR {X:Cx}{β:Type}{o:Ak β}{P:Hp}{α:Aa Af}{Ok:β->Sto->Prop}(h:qJ X P α (vQ o S) Ok):∃ b,o=Ab b/\Ok b S:=by
 cases o with
 |none=>exact An h
 |some b=>exact⟨b,rfl,h⟩
theorem xK {X:Cx}{β:Type}{c:Prop}[Jk c]{r:Res β}{P:Hp}{α : Aa Af}{Ok:β->Sto->Prop}(h:qJ X P α (if c then r else .bad) Ok):c/\qJ X P α r Ok:=by
 by_cases z:c
 .rw[Bl z] at h;exact⟨z,h⟩
 .rw[Bm z] at h;exact An h
theorem rB {X:Cx}{β:Type}{ds:Aa D}{g:D->Res β}{P:Hp}{α:Aa Af}{Ok:β->Sto->Prop}(h:qJ X P α (match ds with|[d]=>g d|_=>.bad) Ok):∃ d,ds=[d]/\qJ X P α (g d) Ok:=by
 cases ds with
 |nil=>exact An h
 |cons d ds =>
  cases ds with
  |nil=>exact⟨d,rfl,h⟩
  |cons _ _=>exact An h
theorem tQ {β:Type}{i:Ai}{f:Aa D->Ak β}{g:Aa (Key × D)->Ak β}{b:β}(h:(match S[i]? with|some (.lst xs)=>f xs|some (.dct kvs)=>g kvs|_=>none)=Ab b):(∃ xs,S[i]? = Ab (.lst xs)/\f xs=Ab b)\/∃ kvs,S[i]? = Ab (.dct kvs)/\g kvs=Ab b:=by
 cases e:S[i]? with
 |none=>rw[e] at h;exact nn h
 |some m =>
  rw[e] at h;cases m with
  |lst xs=>exact .inl ⟨xs,rfl,h⟩
  |dct kvs=>exact .inr ⟨kvs,rfl,h⟩
  |_=>exact nn h
theorem NT {β:Type}{i:Ai}{f:Aa D->Ak β}{b:β}(h:(match S[i]? with|some (.lst xs)=>f xs|_=>none)=Ab b):∃ xs,S[i]? = Ab (.lst xs)/\f xs=Ab b:=by
 cases e:S[i]? with
 |none=>rw[e] at h;exact nn h
 |some m =>
  rw[e] at h;cases m with
  |lst xs=>exact⟨xs,rfl,h⟩
  |_=>exact nn h
inductive ItV (d:D)(xs:Aa D):Prop
 |tup (e:d=.tup xs)
 |lst (e:d=.lst xs)
noncomputable def JK {β:Type}(S:Sto)(n:Ai)(f:Aa D->Res β) : Res β:=match S[n]? with
 |some (.lst xs)=>f xs
 |_=>.bad
theorem gK {X:Cx}{β:Type}{n:Ai}{f:Aa D->Res β}{P:Hp}{α:Aa Af}{Ok:β->Sto->Prop}(h:qJ X P α (JK S n f) Ok):∃ xs,S[n]? = Ab (.lst xs)/\qJ X P α (f xs) Ok:=by
 unfold JK at h;cases e:S[n]? with
 |none=>rw[e] at h;exact An h
 |some m =>
  rw[e] at h;cases m with
  |lst xs=>exact⟨xs,rfl,h⟩
  |_=>exact An h
noncomputable def zT:D->Ak (Aa D)
 |.tup xs=>Ab xs
 |.lst xs=>Ab xs
 |_=>none
theorem itV {d:D}{xs:Aa D}(h:zT d=Ab xs):ItV d xs:=by
 cases d with
 |tup ys=>exact .tup (congrArg D.tup (Ct h))
 |lst ys=>exact .lst (congrArg D.lst (Ct h))
 |_=>exact nn h
noncomputable def xY (f:DE):DI:=λenv S=>(f env S).bind λd S1=>vQ (zT d) S1
section
variable {X:Cx}{K:Aj}{tg e:Bw}{fa:DE}{pos:Fl}
theorem YS {P:Hp}{α:Aa Af}{a:Af}{ds:Aa D}(q:SqL K P a vs)(t:qE K P α ds vs):ItD K (Itl K a) P α ds where
 go:=λi H P1 α1 S hi r e _=>⟨vs,vs[i]'(by rw[<- t.length];exact hi),(e.trans r.sub).seq q,by simp⟩
 yld:=λi H x H' P1 α1 S hi r e e2 y=>by
  obtain⟨rfl,y⟩:=y;have hx:=y vs ((e.trans r.sub).seq q);obtain⟨v,h1,h2⟩:=t.get (Ar hi);rw[hx] at h1;cases h1;exact⟨P1,_,Ar hi,r,qG.refl _,Rep.mono e e2 _ _ h2⟩
 stop:=λi H P1 α1 S hi r e _=>⟨vs,(e.trans r.sub).seq q,by rw[<- t.length];exact hi⟩
theorem GX {P:Hp}{α:Aa Af}{a:Af}{ds:Aa D}(q:SqT K P a vs)(t:qE K P α ds vs):ItD K (Itt K a) P α ds where
 go:=λi H P1 α1 S hi r e _=>⟨vs,vs[i]'(by rw[<- t.length];exact hi),yO (e.trans r.sub) q,by simp⟩
 yld:=λi H x H' P1 α1 S hi r e e2 y=>by
  obtain⟨rfl,y⟩:=y;have hx:=y vs (yO (e.trans r.sub) q);obtain⟨v,h1,h2⟩:=t.get (Ar hi);rw[hx] at h1;cases h1;exact⟨P1,_,Ar hi,r,qG.refl _,Rep.mono e e2 _ _ h2⟩
 stop:=λi H P1 α1 S hi r e _=>⟨vs,yO (e.trans r.sub) q,by rw[<- t.length];exact hi⟩
theorem sV {pins:Aa (Af × Co)}{σ:_L.St}{H P:Hp}{α:Aa Af}{s:Ag}{v:V}{d:D}{ds:Aa D}(I:Inv X pins σ H s)(r:Rel X.K H P α S)(rv:qL v vv)(rp:Rep X.K P α d v)(hd:zT d=Ab ds)
  (q:OkI X P α R ds S):Ao (As X.prog X.w) X.A (Og vv) (PIE X pins σ tg R) X.xe s:=by
 cases d with
 |tup xs =>
  cases hd;simp only[Rep] at rp;obtain⟨a,vs,rfl,sq,t⟩:=rp;cases rv;obtain⟨its,rv,p,hz⟩:=I.tuple (xI r.sub sq);refine Gz (show s.heap.IsTuple a its.toArray from p) ?_
  refine⟨s.heap.objs.size,[s.heap.objs.size],_,_,H,rfl,I.kept (t':=s.toks) λb o e=>Ah _ e,oM a _,⟨_,Ba _ rfl,rfl,rfl⟩,λb hb=>?_,q _ _ P α r (qG.refl _) (Bn _) (GX sq t)⟩;have e:b=s.heap.objs.size:=by simpa using hb
  subst e;exact I.fpOk (Au _) (I.hok.fresh (Au _))
 |lst xs =>
  cases hd;simp only[Rep] at rp;obtain⟨a,vs,rfl,sq,t⟩:=rp;cases rv;obtain⟨its,rv,p,hz⟩:=I.list ((xE r.sub sq).l);refine Gp p.isList ?_;refine⟨s.heap.objs.size,[s.heap.objs.size],_,_,H,rfl,I.kept (t':=s.toks) λb o e=>Ah _ e,lN a _,⟨_,Ba _ rfl,rfl,rfl⟩,λb hb=>?_,q _ _ P α r (qG.refl _) (Bn _) (YS sq.l t)⟩;have e:b=s.heap.objs.size:=by simpa using hb
  subst e;exact I.fpOk (Au _) (I.hok.fresh (Au _))
 |_=>cases hd
theorem OkI.base {P P1:Hp}{α α1:Aa Af}{ds:Aa D}(e:qG P P1)(h:α<+:α1)(k:OkI X P α R ds S):OkI X P1 α1 R ds S:=λJ H' P' α' r q1 q2 q3=>k J H' P' α' r (e.trans q1) (h.trans q2) q3
theorem T6 (ha:PE X e (tD X fa)):PI X tg e (tDI X (xY fa)):=by
 intro pins s σ H R I h;obtain⟨P,α,env,S,r,re,af⟩:=h;refine thn (zR ha I r re af) λvv s1 ⟨v,H1,P1,α1,d,S1,G1,af1⟩=>?_;obtain⟨ds,e1,q⟩:=vR af1;exact sV G1.inv G1.rel G1.val G1.rep e1 (q.base G1.same G1.pre)
noncomputable def xT (lo:Al)(n:Ai):Aa D:=(De n).map λ(i:Ai)=>D.int (lo+(i:Al))
theorem vB (lo:Al)(n:Ai):(xT lo n).length=n:=by simp[xT]
theorem l8 {P:Hp}{α:Aa Af}{lo:Al}{n:Ai}:ItD K (Itr lo n) P α (xT lo n) where
 go:=λi H P1 α1 S hi r e _=>by rw[vB] at hi;exact hi
 yld:=λi H x H' P1 α1 S hi r e e2 y=>by
  obtain⟨rfl,rfl⟩:=y;rw[vB] at hi;exact⟨P1,.int (lo+i),by simp[xT,hi],r,qG.refl _,by simp only[Rep]⟩
 stop:=λi H P1 α1 S hi r e _=>by rw[vB] at hi;exact hi
noncomputable def jE (ds:Aa D):Ak (Aa D):=match ds with
 |[.int j]=>if -(2 ^ 62)<=j/\j<2 ^ 62 then Ab (xT 0 j.toNat) else none
 |[.int i,.int j]=>if -(2 ^ 62)<=i/\i<2 ^ 62 /\ -(2 ^ 62)<=j/\j<2 ^ 62 then Ab (xT i (j-i).toNat) else none
 |_=>none
noncomputable def bS (f:DA):DI:=λenv S=>(f env S).bind λds S1=>vQ (jE ds) S1
noncomputable def asI:D->Ak Al
 |.int i=>Ab i
 |_=>none
theorem bM {d:D}{i:Al}(h:asI d=Ab i):d=.int i:=by
 cases d with
 |int k=>exact congrArg D.int (Ct h)
 |_=>exact nn h
inductive RngV:Aa D->Aa D->Prop
 |one (j:Al) (h : -(2 ^ 62)<=j/\j<2 ^ 62):RngV [.int j] (xT 0 j.toNat)
 |two (i j:Al) (h : -(2 ^ 62)<=i/\i<2 ^ 62 /\ -(2 ^ 62)<=j/\j<2 ^ 62):RngV [.int i,.int j] (xT i (j-i).toNat)
theorem EU (d:D):jE [d]=(asI d).bind λj=>if -(2 ^ 62)<=j/\j<2 ^ 62 then Ab (xT 0 j.toNat) else none:=by cases d <;> rfl
theorem EV (d d':D):jE [d,d']=(asI d).bind λi=>(asI d').bind λj=>if -(2 ^ 62)<=i/\i<2 ^ 62 /\ -(2 ^ 62)<=j/\j<2 ^ 62 then Ab (xT i (j-i).toNat) else none:=by
 cases d with
 |int i=>cases d' <;> rfl
 |_=>rfl
theorem aG {ds its:Aa D}(h:jE ds=Ab its):RngV ds its:=by
 cases ds with
 |nil=>exact nn h
 |cons d ds =>
  cases ds with
  |nil =>
   obtain⟨j,e,h⟩:=Ei.mp ((EU d).symm.trans h);obtain⟨c,rfl⟩:=j7 h;rw[bM e];exact .one j c
  |cons d' ds =>
   cases ds with
   |nil =>
    obtain⟨i,e,h⟩:=Ei.mp ((EV d d').symm.trans h);obtain⟨j,e',h⟩:=Ei.mp h;obtain⟨c,rfl⟩:=j7 h;rw[bM e,bM e'];exact .two i j c
   |cons _ _ =>
    have h0:∀ d'' t,jE (d::d'::d''::t)=none:=λd'' t=>by cases d <;> first|rfl|(cases d' <;> rfl)
    exact nn ((h0 _ _).symm.trans h)
theorem uL {P:Hp}{α:Aa Af}{i:Al}{ds:Aa D}(r:qE K P α (.int i::ds) vs):∃ ws,vs=.int i::ws/\qE K P α ds ws:=by
 obtain⟨w,ws,rfl,p,t⟩:=r.cons_inv;exact⟨ws,congrArg (· :: ws) (by simpa only [Rep] using p),t⟩
theorem PI.weak {iter:Bw}{t t':TI}(h:PI X tg iter t)(w:∀ σ H R,t' σ H R->t σ H R):PI X tg iter t':=λpins s σ H R I q=>h pins s σ H R I (w σ H R q)
end
section
variable {X:Cx}{tg a b:Bw}{f:DA}{p pos:Fl}
theorem WY {e:Bw}{es:Aa Bw}(hg:Gl X "range")(hm:X.mg "range" = none)(ha:PA X (e::es) (tDA X f))(hs:Be (e::es) X.env=(false,eval e X.env)::Be es X.env:=by rfl)(hpl:(Gc pos (Be es X.env)).any (·.1)=false:=by rfl) :
  PI X tg (.Call (.Name "range" p) (e::es) [] pos) (tDI X (bS f)):=by
 intro pins s σ H R I h;obtain⟨P,α,env,S,r,re,af⟩:=h;refine Zk (wF I hg hm boot_range (Ep (thn (wD ha I r re af pos) λus s1 ⟨vs,H1,P1,α1,ds,S1,I1,rv,r1,re1,rp,e1,e2,af1⟩=>?_) hs hpl));obtain⟨its,hi,q⟩:=vR af1;cases aG hi with
 |one j c =>
  obtain⟨ws,rfl,t1⟩:=uL rp;cases t1.nil_inv;obtain⟨u,rfl,t,rfl⟩:=uJ rv;refine call_range_1 (rJ I1 om om c.1 c.2 ?_);have z:=q (Itr 0 j.toNat) H1 P1 α1 r1 e1 e2 l8;rw[Xa];exact z
 |two i j c =>
  obtain⟨ws,rfl,t1⟩:=uL rp;obtain⟨ws2,rfl,t2⟩:=uL t1;cases t2.nil_inv;obtain⟨u,u',rfl,⟨t,rfl⟩,t',rfl⟩:=mI rv;exact call_range_2 (rJ I1 c.1 c.2.1 c.2.2.1 c.2.2.2 (q (Itr i (j-i).toNat) H1 P1 α1 r1 e1 e2 l8))
noncomputable def uE (g:DG)(f:DS):Aa D->qF->Sto->Out
 |[],env,S=>.nx env S
 |d::ds,env,S=>(g d env S).toS env λenv1 S1=>match f env1 S1 with
  |.nx env2 S2=>uE g f ds env2 S2
  |.ct env2 S2=>uE g f ds env2 S2
  |.bk env2 S2=>.nx env2 S2
  |o=>o
noncomputable def vD (fi:DI)(g:DG)(f:DS):DS:=λenv S=>(fi env S).toS env λds S1=>uE g f ds env S1
inductive LoopW (X:Cx)(P1:Hp)(α1:Aa Af)(g:DG)(f:DS)(ds:Aa D)(D:Ends)(i m:Ai)(σ : _L.St)(H:Hp):Prop
 |mk (hi:i<=ds.length) (hm:m=ds.length-i) (P2:Hp) (α2:Aa Af) (env2:qF) (S2:Sto) (r:Rel X.K H P2 α2 S2) (re:qZ X.K P2 α2 σ env2) (e1:qG P1 P2) (e2:α1<+:α2) (af:zA X P2 α2 (uE g f (ds.drop i) env2 S2) D):LoopW X P1 α1 g f ds D i m σ H
theorem TB {iter:Bw}{fi:DI}{g:DG}{f:DS}(hp:Ud (As X.prog X.w) X.A X.env X.xe)(hc:X.calm=true)(hi:PI X tg iter (tDI X fi))(hg:PG X tg (tDG X g))(hb:PSs X body (tDS X f))
  (hs:∀ x,Ey iter X.env x=pure x:=by intro _;rfl):PS X (.For tg iter body [] pos) (tDS X (vD fi g f)):=psW (D4 hp hc hi hg hb hs) λD σ H ⟨P,α,env,S,r,re,af⟩=>by
 refine⟨P,α,env,S,r,re,?_⟩;have af1:=wW af;cases q:fi env S with
 |bad=>rw[q] at af1;exact af1
 |ex c x S'=>rw[q] at af1;exact af1
 |ok ds S1 =>
  rw[q] at af1;have af2:zA X P α (uE g f ds env S1) D:=af1;intro J H1 P1 α1 r1 e1 e2 it;refine⟨LoopW X P1 α1 g f ds D,
   ⟨ds.length,Io _,rfl,P1,α1,env,S1,r1,re.mono e1 e2,qG.refl _,Bn _,zA.base e1 e2 af2⟩,?_⟩
  rintro i m σ2 H2 ⟨hi,rfl,P2,α2,env2,S2,r2,re2,e3,e4,af3⟩;by_cases hlt:i<ds.length
  .refine .inr ⟨it.go i H2 P2 α2 S2 hlt r2 e3 e4,LoopW X P1 α1 g f ds D (i+1) (ds.length-(i+1)),λσ' H' w=>⟨_,?_,w⟩,λx H3 y=>?_⟩
   .omega
   .obtain⟨P3,d,hd,r3,e5,rp⟩:=it.yld i H2 x H3 P2 α2 S2 hlt r2 e3 e4 y
    have hdr:ds.drop i=d::ds.drop (i+1):=by
     rw[Hx hlt];rw[Ar hlt] at hd;rw[Ct hd]
    rw[hdr] at af3;have af4:=wW (zA.base e5 (Bn _) af3);refine⟨P3,α2,env2,S2,d,r3,re2.mono e5 (Bn _),rp,?_⟩;cases q2:g d env2 S2 with
    |bad=>rw[q2] at af4;exact af4
    |ex c x S'=>rw[q2] at af4;exact af4
    |ok env3 S3 =>
     rw[q2] at af4;intro σ4 H4 P4 α4 r4 re4 e6 e7;refine⟨P4,α4,env3,S3,r4,re4,?_⟩;have af5:=zA.base e6 e7 af4;cases q3:f env3 S3 with
     |bad=>simp only[q3] at af5;exact af5
     |ex c x env4 S4=>simp only[q3] at af5;exact af5
     |rt d4 S4=>simp only[q3] at af5;exact af5
     |bk env4 S4=>simp only[q3] at af5;exact af5
     |nx env4 S4 =>
      simp only[q3] at af5;exact λσ5 H5 P5 α5 r5 re5 e8 e9=>⟨hlt,rfl,P5,α5,env4,S4,r5,re5,((e3.trans e5).trans e6).trans e8,(e4.trans e7).trans e9,zA.base e8 e9 af5⟩
     |ct env4 S4 =>
      simp only[q3] at af5;exact λσ5 H5 P5 α5 r5 re5 e8 e9=>⟨hlt,rfl,P5,α5,env4,S4,r5,re5,((e3.trans e5).trans e6).trans e8,(e4.trans e7).trans e9,zA.base e8 e9 af5⟩
  .have hdr:ds.drop i=[]:=Nz om
   rw[hdr] at af3;exact .inl ⟨it.stop i H2 P2 α2 S2 om r2 e3 e4,af3 σ2 H2 P2 α2 r2 re2 (qG.refl _) (Bn _)⟩
end
abbrev DF:=Aa D->Sto->Res D
section
variable {X:Cx}{x:Ap}{p pos:Fl}{e:Bw}{es:Aa Bw}{F:DF}{fa:DA}
noncomputable def qN (F:DF)(fa:DA):DE:=λenv S=>(fa env S).bind λds S1=>F ds S1
theorem nU {pins:Aa (Af × Co)}{s1:Ag}{σ:_L.St}{H1 P P1:Hp}{α α1:Aa Af}{ds:Aa D}(hc:w5 X u F)(I1:Inv X pins σ H1 s1)(r1:Rel X.K H1 P1 α1 S1)(rv:qK vs us)
  (rp:qE X.K P1 α1 ds vs) (e1:qG P P1) (e2:α<+:α1) (af:qJ X P α (F ds S1) (OkV X P α Q)):Ao (As X.prog X.w) X.A (call u us) (EP X pins σ Q) X.xe s1:=hc pins σ H1 s1 P1 α1 S1 vs us ds Q I1 r1 rv rp (qV.base e1 e2 af)
theorem WR {id:Dx}(hc:w5 X (.builtin id) F)(hg:Gl X x)(hm:X.mg x=none)(hv:Fc x=Ab (.builtin id))(ha:PA X (e::es) (tDA X fa))(hn:x ≠ "__name__":=by decide)(hdb:(x == ("__debug__" : Ap))=false:=by decide)
  (he:Be (e::es) X.env=(false,eval e X.env)::Be es X.env:=by rfl) (hpl:(Gc pos (Be es X.env)).any (·.1)=false:=by rfl):PE X (.Call (.Name x p) (e::es) [] pos) (tD X (qN F fa)):=by
 intro pins s σ H Q I h;obtain⟨P,α,env,S,r,re,af⟩:=h;refine Ha (wF I hg hm hv ?_ hn hdb);exact Kl (thn (wD ha I r re af pos) λus s1 ⟨vs,H1,P1,α1,ds,S1,I1,rv,r1,re1,rp,e1,e2,af1⟩=>nU hc I1 r1 rv rp e1 e2 af1) he hpl
theorem Q8 {T:Dx}(hc:w5 X (.type T) F)(hg:Gl X x)(hm:X.mg x=none)(hv:Fc x=Ab (.type T))(ha:PA X (e::es) (tDA X fa))(hn:x ≠ "__name__":=by decide)(hdb:(x == ("__debug__" : Ap))=false:=by decide)
  (he:Be (e::es) X.env=(false,eval e X.env)::Be es X.env:=by rfl) (hpl:(Gc pos (Be es X.env)).any (·.1)=false:=by rfl):PE X (.Call (.Name x p) (e::es) [] pos) (tD X (qN F fa)):=by
 intro pins s σ H Q I h;obtain⟨P,α,env,S,r,re,af⟩:=h;refine Ha (wF I hg hm hv ?_ hn hdb);exact Ep (thn (wD ha I r re af pos) λus s1 ⟨vs,H1,P1,α1,ds,S1,I1,rv,r1,re1,rp,e1,e2,af1⟩=>nU hc I1 r1 rv rp e1 e2 af1) he hpl
end
theorem z9.there {P:Bd}{w:Bz}{H:Hp}{h:Bq}{a:Af}{o:HO}(x:z9 P w H h a o):∃ ob,h.get? a=Ab ob:=by
 cases o with
 |lst xs=>obtain⟨_,_,_,_,e⟩:=x;exact⟨_,e⟩
 |tup xs=>obtain⟨_,_,_,ob,e,_⟩:=x;exact⟨_,e⟩
 |dK kvs=>obtain⟨_,_,_,_,o,_,_,e,_⟩:=x;exact⟨_,e⟩
 |dT kvs=>obtain⟨_,_,_,_,o,_,_,e,_⟩:=x;exact⟨_,e⟩
 |set S n=>obtain⟨o,_,_,_,e,_⟩:=x;exact⟨_,e⟩
 |ins C dx fs=>obtain⟨_,_,_,e,_⟩:=x;exact⟨_,e⟩
 |own y=>obtain⟨_,e⟩:=x;exact⟨_,e⟩
 |xd fs=>obtain⟨_,⟨_,_,_,e,_⟩,_⟩:=x;exact⟨_,e⟩
 |rng lo hi=>obtain⟨_,_,_,e⟩:=x;exact⟨_,e⟩
 |frz ob u=>obtain⟨e,_⟩:=x;exact⟨_,e⟩
 |tbl ps=>exact⟨_,show h.get? a=Ab _ from x⟩
 |met f y=>exact⟨_,show h.get? a=Ab _ from x⟩
 |ext φ => obtain⟨_,e,_⟩:=x;exact e
section
variable {X:Cx}{pins:Aa (Af × Co)}{σ : _L.St}{H:Hp}{s:Ag}{B h':Bq}
abbrev Fn1 (X:Cx):Prop:=X.ex=[]/\X.stack=X.env::X.outer/\X.env.frame=Ab X.env.locals
theorem Fn1.mem (F:Fn1 X){b:Af}:b∈frs X.stack↔b=X.env.locals\/b∈X.fs:=by
 rw[F.2.1];unfold frs;rw[Ir,F.2.2];exact Aw
theorem Old.there (I:Inv X pins σ H s)(F:Fn1 X){b:Af}(o:Old X pins H b):∃ ob,s.heap.get? b=Ab ob:=by
 rcases o with⟨o,e⟩|e|⟨p,hp,rfl⟩|⟨x,e⟩
 .exact I.base.there b o e (by rw[F.1];simp)
 .cases q:H b with
  |none=>exact absurd q e
  |some u=>exact z9.there (I.hok b u q)
 .exact⟨_,(I.pin p hp).1⟩
 .obtain⟨v,ob,ho,_⟩:=I.cell x b e
  exact⟨ob,ho⟩
theorem Inv.fly (I:Inv X pins σ H s)(F:Fn1 X)(cv:Cv X pins H B s.heap)(st:B.StaysIn h')(up:s.heap.UpToSlots h'):Inv X pins σ H { s with heap:=h' } /\ Cv X pins H B h':=by
 have kp:∀ b o,s.heap.get? b=Ab o->Old X pins H b->b ∉ frs X.stack->h'.get? b=Ab o:=λb o e q n=>st b o (cv b o e q n);have neL:∀ b o,X.s₀.heap.get? b=Ab o->b≠X.env.locals:=λb o e=>Ci (Bb (Ay e) I.ok.above);have nofr:∀ b o,X.s₀.heap.get? b=Ab o->b ∉ X.fs->b ∉ frs X.stack:=λb o e n z=>(F.mem.mp z).elim (neL b o e) n;have nx:∀ b,b ∉ X.ex:=λb=>by rw[F.1];simp
 have frU:∀ b,b∈frs X.stack->∀ o,s.heap.get? b=Ab o->∃ sl,h'.get? b=Ab { o with slots:=sl }:=λb hb o e=>by
  obtain⟨_,o',e',nf⟩:=I.stack.mem hb;rw[e] at e';cases e';exact up b o e nf
 have cellK:∀ x c,X.env.cells.lookup x=Ab c->∀ v,s.heap.IsCell c v->h'.IsCell c v:=λx c e v ⟨o,ho,hd⟩=>by
  obtain⟨sl,q⟩:=up c o ho λvs z=>by rw[hd] at z;cases z
  exact⟨_,q,hd⟩
 refine⟨⟨I.ok,I.os,I.bare,⟨λb o e n hb hx=>?_,λb o e n hb hx=>?_,I.base.free,λb o e hx=>?_,I.base.tups,I.base.frzs,I.base.tbls⟩,?_,λx c e=>?_,I.free,I.freeC,λp hp=>?_,λa o e=>?_,I.len⟩,λb o e q n=>?_⟩
 .exact kp b o (I.base.keep b o e n hb hx) (.inl ⟨o,e⟩) (nofr b o e hb)
 .obtain⟨sl,e1⟩:=I.base.slot b o e n hb hx
  obtain⟨sl',e2⟩:=frU b (F.mem.mpr (.inr hb)) _ e1;exact⟨sl',e2⟩
 .obtain⟨o',e1⟩:=I.base.there b o e hx
  by_cases hb:b∈frs X.stack
  .obtain⟨sl,e2⟩:=frU b hb _ e1
   exact⟨_,e2⟩
  .exact⟨o',kp b o' e1 (.inl ⟨o,e⟩) hb⟩
 .obtain⟨m,hn,hl⟩:=I.loc
  refine⟨m,up.ns hn,λi x v e1 e2 e3=>?_⟩;obtain⟨u,r,l⟩:=hl i x v e1 e2 e3;refine⟨u,r,?_⟩;rcases l with l|⟨k,c,e,z⟩
  .exact .inl l
  .exact .inr ⟨k,c,e,cellK x c e _ z⟩
 .obtain⟨v,z⟩:=I.cell x c e
  exact⟨v,cellK x c e v z⟩
 .obtain⟨e,n,ne,nf,d⟩:=I.pin p hp
  exact⟨kp p.1 p.2 e (.inr (.inr (.inl ⟨p,hp,rfl⟩))) λz=>(F.mem.mp z).elim ne nf,n,ne,nf,d⟩
 .refine(I.hok a o e).stay (λb u hb q=>?_) (λ_ q=>q) λ_ _ q=>q
  have hn:H b≠none:=by
   rcases hb with rfl|hb
   .rw[e];intro z;cases z
   .rw[hb];intro z;cases z
  exact kp b u q (.inr (.inl hn)) λz=>hn (I.stkFree b z)
 .obtain⟨o1,e1⟩:=Old.there I F q
  have e2:=cv b o1 e1 q n;have e3:=st b o1 e2;rw[e] at e3;cases e3;exact e2
theorem ZO {c:Ac}{e:Af}{g:Bq}(I:Inv X pins σ H s)(hm:Uv g s.heap e c args)(hf:g.FunFrames X.base X.stack)(hk:∀ b o,s.heap.get? b=Ab o->Old X pins H b->g.get? b=Ab o) :
  (OQ g (frs X.stack)).StaysIn g/\g.FunFrames (OQ g (frs X.stack)) X.stack/\Cv X pins H (OQ g (frs X.stack)) s.heap:=
 ⟨λb o q=>Wm _ q,PySem.W.funFrames_hide hf λenv he a ha=>Jb.mpr ⟨env,he,ha⟩,λb o e q n=>Vl _ (hk b o e q) n⟩
theorem Z9 {M:Kz}{A:Bt}{E:Ac->Ag->Prop}{c:Ac}{e:Af}{Q:Qv->Ag->Prop}(I:Inv X pins σ H s)(F:Fn1 X)(hA:A.frames=Ab X.stack)(f:FlyX X pins H c e s.heap)
  (hQ:∀ h' B a0,Pc B X.outer e c a0 h'->Inv X pins σ H { s with heap:=h' } -> Cv X pins H B h'->Q () { s with heap:=h' }) : Ao M A (leaving X.env (.ref e)) Q E s:=by
 cases f with
 |new g args hm hf hk =>
  obtain⟨k1,k2,k3⟩:=ZO I hm hf hk;rw[F.2.1] at hA;refine wpAny_leaves_madeW hA F.2.2 k1 (by rw[<- F.2.1];exact k2) hm λh' t x1 x2 x3 x4=>?_
  obtain⟨I1,cv1⟩:=Inv.fly I F k3 x1.1 x4;exact hQ h' _ _ x1 I1 cv1
 |fly B a0 fl cv =>
  rw[F.2.1] at hA;refine wpAny_leaves_onW hA F.2.2 (by rw[<- F.2.1];exact fl) λh' x1 x2=>?_
  obtain⟨I1,cv1⟩:=Inv.fly I F cv x1.1 x2;exact hQ h' _ _ x1 I1 cv1
end
def CXd (P:Bd)(w:Bz):CXT:=λouter H s E u s' =>
 ∃ e c H' B a0,u=.ref e/\s'.os=s.os/\Oe s'.gens/\Un (frs outer) [] H H' s.heap s'.heap/\HOk P w H' s'.heap/\Pc B outer e c a0 s'.heap /\
  (∀ b o,s'.heap.get? b=Ab o->((∃ o,s.heap.get? b=Ab o)\/H' b≠none)->b ∉ frs outer->B.get? b=Ab o)/\E c none H'
section
variable {X:Cx}{pins:Aa (Af × Co)}{σ : _L.St}{H:Hp}{s s':Ag}
theorem N1 {E:XK}(I:Inv X pins σ H s)(F:Fn1 X)(h:CXd X.prog X.w X.stack H s E u s'):∃ e c H',u=.ref e/\Inv X pins σ H' s'/\FlyX X pins H' c e s'.heap/\E c none H':=by
 obtain⟨e,c,H',B,a0,rfl,os,bare,un,hok,fl,cov,q⟩:=h;have I':Inv X pins σ H' s':=Inv.call' I os un hok bare (ch:=[]) λb z=>absurd z (by simp)
 refine⟨e,c,H',rfl,I',.fly B a0 fl λb o eb old n=>cov b o eb ?_ n,q⟩;rcases old with⟨o,z⟩|z|⟨p,hp,rfl⟩|⟨x,z⟩
 .exact .inl (I.base.there b o z (by rw[F.1];simp))
 .exact .inr z
 .exact .inl ⟨_,(I.pin p hp).1⟩
 .obtain⟨v,ob,ho,_⟩:=I.cell x b z
  exact .inl ⟨ob,ho⟩
end
structure RoomC (cm:Aq)(k:Ai)(A:Bt):Prop where
 hd:cm=true->A.handled=none
 dp:A.depth+3*k+5<Pq
 un:A.units+16*k+200<Fi
 gd:A.guards=Ab []
theorem RoomC.mono {cm:Aq}{j k:Ai}{A:Bt}(r:RoomC cm k A)(h:j<=k:=by decide):RoomC cm j A:=⟨r.hd,by have:=r.dp;omega,by have:=r.un;omega,r.gd⟩
theorem RoomC.deeper {cm:Aq}{k:Ai}{A:Bt}(r:RoomC cm (k+1) A)(env:Ja):RoomC cm k (A.deeper env):=
 ⟨r.hd,by have:=r.dp;show A.depth+1+3*k+5<_;omega,by have:=r.un;show A.units+3+16*k+200<_;omega,r.gd⟩
theorem RoomC.depth {cm:Aq}{k:Ai}{A:Bt}(r:RoomC cm k A):A.depth<Pq:=by have:=r.dp;omega
theorem RoomC.units {cm:Aq}{k:Ai}{A:Bt}(r:RoomC cm k A):A.units+64<Fi:=by have:=r.un;omega
theorem RoomC.of {k:Ai}{A:Bt}(r:Room k A):RoomC true k A:=⟨λ_=>r.hd,r.dp,r.un,r.gd⟩
theorem RoomC.any {cm:Aq}{k:Ai}{A:Bt}(r:RoomC cm k A):RoomC false k A:=⟨(λz=>nomatch z),r.dp,r.un,r.gd⟩
theorem RoomC.mark {cm:Aq}{k:Ai}{A:Bt}(r:RoomC cm k A)(h:Ak Ac):RoomC false k (A.mark h):=⟨(λz=>nomatch z),r.dp,r.un,r.gd⟩
abbrev Cx.re (X:Cx)(A:Bt)(cm:Aq)(E:Ac->Ag->Prop):Cx:={ X with A:=A,calm:=cm,xe:=E }
theorem Inv.re {X:Cx}{pins:Aa (Af × Co)}{σ:_L.St}{H:Hp}{s:Ag}(I:Inv X pins σ H s)(A:Bt)(cm:Aq)(E:Ac->Ag->Prop)(hf:A.frames=Ab X.stack)(hh:cm=true->A.handled=none):Inv (Cx.re X A cm E) pins σ H s:=
 ⟨⟨I.ok.mod,I.ok.kind,I.ok.glob,I.ok.blt,I.ok.above,I.ok.inj,I.ok.has,I.ok.cab,hh,hf,I.ok.stk,I.ok.exf,I.ok.bs,I.ok.bsz,I.ok.noex,I.ok.exfs,I.ok.funs,I.ok.frf⟩,I.os,I.bare,I.base,I.loc,I.cell,I.free,I.freeC,I.pin,I.hok,I.len⟩
theorem Inv.unre {X:Cx}{pins:Aa (Af × Co)}{σ:_L.St}{H:Hp}{s:Ag}{A:Bt}{cm:Aq}{E:Ac->Ag->Prop}(I:Inv (Cx.re X A cm E) pins σ H s)(hf:X.A.frames=Ab X.stack)(hh:X.calm=true->X.A.handled=none):Inv X pins σ H s:=
 ⟨⟨I.ok.mod,I.ok.kind,I.ok.glob,I.ok.blt,I.ok.above,I.ok.inj,I.ok.has,I.ok.cab,hh,hf,I.ok.stk,I.ok.exf,I.ok.bs,I.ok.bsz,I.ok.noex,I.ok.exfs,I.ok.funs,I.ok.frf⟩,I.os,I.bare,I.base,I.loc,I.cell,I.free,I.freeC,I.pin,I.hok,I.len⟩
structure FnX (P:Bd)(w:Bz)(K:Aj)(mg:Ap->Ak Ac)(base:Bq)(cm:Aq)(k:Ai)(f:Af)(fd:Fw)(ps:Aa Ap)(sp:Sp):Prop where
 len:∀ vs H Q E,sp vs H Q E->vs.length=ps.length
 run:∀ (A:Bt) (outer:Aa Ja) (s:Ag) (H:Hp) (args:Args) (us:Aa Ac) (vs:Aa V) (Q:VK) (E:XK),RoomC cm k A->Env0 P w K mg base A outer s H->Oh s fd args (ps.zip us)->qK vs us->sp vs H Q E ->
  Hu (As P w) A (.call (.ref f) args) (CR (CXd P w) outer P w H s Q E) s
theorem FnX.ok {P:Bd}{w:Bz}{K:Aj}{mg:Ap->Ak Ac}{base:Bq}{k:Ai}{f:Af}{fd:Fw}{ps:Aa Ap}(F:FnX P w K mg base true k f fd ps sp):FnOk P w K mg base (CXd P w) k f fd ps sp:=
 ⟨F.len,λA outer s H args us vs Q E hr=>F.run A outer s H args us vs Q E (.of hr)⟩
theorem FnX.any {P:Bd}{w:Bz}{K:Aj}{mg:Ap->Ak Ac}{base:Bq}{cm:Aq}{k:Ai}{f:Af}{fd:Fw}{ps:Aa Ap}(F:FnX P w K mg base false k f fd ps sp):FnX P w K mg base cm k f fd ps sp:=
 ⟨F.len,λA outer s H args us vs Q E hr=>F.run A outer s H args us vs Q E hr.any⟩
theorem FnX.imp {P:Bd}{w:Bz}{K:Aj}{mg:Ap->Ak Ac}{base:Bq}{cm:Aq}{k:Ai}{f:Af}{fd:Fw}{ps:Aa Ap}{sp':Sp}(F:FnX P w K mg base cm k f fd ps sp)
  (h:∀ vs H Q E,sp' vs H Q E->sp vs H Q E):FnX P w K mg base cm k f fd ps sp':=
 ⟨λvs H Q E q=>F.len vs H Q E (h _ _ _ _ q),λA outer s H args us vs Q E hr he hb hv hs=>F.run A outer s H args us vs Q E hr he hb hv (h _ _ _ _ hs)⟩
noncomputable def cxC (cm:Aq)(P:Bd)(w:Bz)(K:Aj)(mg:Ap->Ak Ac)(base:Bq)(N:Aa Ap)(qual:Ap)(scope:Eu)(f:Af)(cd:Ac)(A:Bt)(outer:Aa Ja)(s:Ag)(H:Hp)(E:XK):Cx where
 prog:=P
 w:=w
 K:=K
 mg:=mg
 base:=base
 A:=A.deeper (Gn qual scope s.heap.objs.size f cd)
 N:=N
 s₀:=s
 H₀:=H
 env:=Gn qual scope s.heap.objs.size f cd
 outer:=outer
 stack:=Gn qual scope s.heap.objs.size f cd::outer
 ex:=[]
 calm:=cm
 fn:=λ_=>true
 pn:=[]
 xe:=λe s'=>Ao (As P w) (A.deeper (Gn qual scope s.heap.objs.size f cd)) (leaving (Gn qual scope s.heap.objs.size f cd) e) (λ_ s''=>CXd P w outer H s E e s'') (λe' s''=>CXd P w outer H s E e' s'') s'
section
variable {P:Bd}{w:Bz}{K:Aj}{mg:Ap->Ak Ac}{base:Bq}{cm:Aq}{N:Aa Ap}{qual:Ap}{scope:Eu}{f:Af}{cd:Ac}{A:Bt}{outer:Aa Ja}{s:Ag}{H:Hp}{E:XK}
theorem WN:Ud (As P w) (A.deeper (Gn qual scope s.heap.objs.size f cd)) (Gn qual scope s.heap.objs.size f cd) (cxC cm P w K mg base N qual scope f cd A outer s H E).xe:=PassesOwn.leaving (Q₁:=λe s''=>CXd P w outer H s E e s'')
abbrev xeL (P:Bd)(w:Bz)(A:Bt)(env:Ja)(outer:Aa Ja)(H:Hp)(s:Ag)(E:XK):Ac->Ag->Prop:=λe s'=>Ao (As P w) (A.deeper env) (leaving env e) (λ_ s''=>CXd P w outer H s E e s'') (λe' s''=>CXd P w outer H s E e' s'') s'
theorem sE {X:Cx}{P0:Hp}{α:Aa Af}{c:Ac}{x:D}{s':Ag}(hA:X.A=A.deeper X.env)(k:XOk X P0 α c x S u s')
  (q:∀ H' P' α',Rel X.K H' P' α' S->qG P0 P'->α<+:α'->E c none H'):xeL X.prog X.w A X.env X.outer X.H₀ X.s₀ E u s':=by
 obtain⟨e,pins,σ,H1,P1,α1,rfl,I,r,e1,e2,F,fl⟩:=k;unfold xeL;rw[<- hA];refine Z9 I F I.ok.frames fl λh' B a0 x1 I1 cv=>?_;refine⟨e,c,H1,B,a0,rfl,I1.os,I1.bare,by have z:=I1.base;rw[F.1] at z;exact z,I1.hok,x1,λb o eb hb n=>cv b o eb ?_ λz=>?_,q H1 P1 α1 r e1 e2⟩
 .rcases hb with z|z
  .exact .inl z
  .exact .inr (.inl z)
 .rcases (Fn1.mem F).mp z with z|z
  .subst z
   rcases hb with⟨o',e'⟩|z
   .exact absurd (Ay e') (NE.mpr I1.ok.above)
   .exact z I1.free
  .exact n z
theorem iP {ps:Aa Ap}{s1:Ag}(S:FnScope N ps scope)(hd:cm=true->A.handled=none)(e0:Env0 P w K mg base A outer s H)(hl:vs.length=ps.length)(r:qK vs us)
  (x:InCallC s s.heap.objs.size (Vp (Gn qual scope s.heap.objs.size f cd).kindOf (ps.zip us) λ_=>none) (Hv (s.heap.objs.size+1) scope.names []) (Vq (Gn qual scope s.heap.objs.size f cd).kindOf (ps.zip us) λ_=>none) s1) :
  Inv (cxC cm P w K mg base N qual scope f cd A outer s H E) [] (_L.xU N vs) H s1:=by
 have I:=l7 (CX:=CXd P w) (E:=E) (A:={ A with handled:=none }) S rfl ⟨e0.frames,e0.mod,e0.bs,e0.bsz,e0.funs,e0.frf,e0.hok,e0.bare⟩ hl r x
 have J:=Inv.re I (A.deeper (Gn qual scope s.heap.objs.size f cd)) cm (cxC cm P w K mg base N qual scope f cd A outer s H E).xe (OM e0.frames) hd;exact J
end
theorem QR {P:Bd}{w:Bz}{K:Aj}{mg:Ap->Ak Ac}{base:Bq}{cm:Aq}{k:Ai}{f:Af}{qual:Ap}{params:OT}{scope:Eu}{oc:Ac}{an:Ak Af}{osl:Ax (Ak Ac)}{x:Ap}{kV doc pm cdv ct:Ac}{N ps:Aa Ap}
  {A:Bt} {outer:Aa Ja} {s:Ag} {H:Hp} {args:Args} {us:Aa Ac} {vs:Aa V} {Q:VK} {E:XK} (lk:K.lookup f=Ab ⟨oc,od,.func (Gs x qual params body scope .none kV doc pm an cdv ct),osl⟩) (hcd:Lj K cdv qual=true) (S:FnScope N ps scope) (hl:vs.length=ps.length) (hr:RoomC cm (k+1) A)
  (e0:Env0 P w K mg base A outer s H) (hb:Oh s (Gs x qual params body scope .none kV doc pm an cdv ct) args (ps.zip us)) (r:qK vs us)
  (hbody:∃ t,PSs (cxC cm P w K mg base N qual scope f cdv A outer s H E) body t/\t { nx:=λ_ H'=>Q .non H',rt:=Q } (_L.xU N vs) H) :
  Hu (As P w) A (.call (.ref f) args) (CR (CXd P w) outer P w H s Q E) s:=by
 have KX:K.In s.heap:=e0.mod.kin.keeps λb o e=>(e0.bs b o e).1;have lim:s.heap.NoLimit:=e0.mod.nolimit.keeps λb o e=>(e0.bs b o e).1;have hkind:∀ y∈ps.zip us,scope.names.lookup y.1=Ab .local \/ (scope.names.lookup y.1=Ab .cell/\((Hv (s.heap.objs.size+1) scope.names []).lookup y.1).isSome=true):=λ⟨n,v⟩ hy=>by
  rcases S.par n (Ml hy).1 with q|q
  .exact .inl q
  .exact .inr ⟨q,Ko _ _ _ (.inl q)⟩
 refine Ue hr.depth (KX _ _ lk) rfl S.co S.gen rfl (Wn KX hcd) (hb _ _ _ _ ?_);refine Qi S.kind hkind λenv he s1 x=>?_;subst he;refine⟨lim.keeps x.toInCall.keep,codeAny_func ?_⟩;obtain⟨t,ht,hq⟩:=hbody;have I:Inv (cxC cm P w K mg base N qual scope f cdv A outer s H E) [] (_L.xU N vs) H s1:=iP S hr.hd e0 hl r x;refine Hm (ht [] s1 (_L.xU N vs) H _ I hq) (λfl s' hs=>?_) λe s' hs=>hs;have fin:∀ {σ' : _L.St} {H':Hp} {v:V} {u:Ac},Inv (cxC cm P w K mg base N qual scope f cdv A outer s H E) [] σ' H' s'->qL v u->Q v H'->CE outer P w H s Q u s':=
  λ{σ' H' v u} J rv q=>⟨v,H',J.os,J.bare,J.base,J.hok,rv,q⟩
 cases fl with
 |ret u =>
  obtain⟨v,σ',H',J,rv,q⟩:=hs;exact fin J rv q
 |next =>
  obtain⟨σ',H',J,q⟩:=hs;exact fin (v:=V.non) (u:=Dm) J rfl q
 |brk =>
  obtain⟨_,_,_,q⟩:=hs;exact An q
 |cont =>
  obtain⟨_,_,_,q⟩:=hs;exact An q
def kN (K:Aj)(x:Ap)(cdv:Ac):Prop:=∀ c T,Du K x=Ab (c,T)->cdv=.ref c
theorem N2 {P:Bd}{w:Bz}{K:Aj}{mg:Ap->Ak Ac}{base:Bq}{cm:Aq}{k:Ai}{f:Af}{x qual:Ap}{st:Fj}{fd:Fw}{N ps:Aa Ap}(F:Fun K x qual st f fd)(S:FnScope N ps (qH st))
  (len:∀ vs H Q E,sp vs H Q E->vs.length=ps.length)
  (hbody:∀ (cdv:Ac) (A:Bt) (outer:Aa Ja) (s:Ag) (H:Hp) (vs:Aa V) (Q:VK) (E:XK),fd.code=cdv/\Mod K mg base->RoomC cm k (A.deeper (Gn qual (qH st) s.heap.objs.size f cdv))->sp vs H Q E ->
   ∃ t,PSs (cxC cm P w K mg base N qual (qH st) f cdv A outer s H E) (zK st) t/\t { nx:=λ_ H'=>Q .non H',rt:=Q } (_L.xU N vs) H) :
  FnX P w K mg base cm (k+1) f fd ps sp:=by
 obtain⟨oc,od,kV,doc,pm,an,cdv,ct,osl,rfl,lk,hcd⟩:=F.ex;exact⟨len,λA outer s H args us vs Q E hr e0 hb r hsp=>QR lk hcd S (len _ _ _ _ hsp) hr e0 hb r (hbody cdv A outer s H vs Q E ⟨rfl,e0.mod⟩ (hr.deeper _) hsp)⟩
noncomputable def vF (n:Ai)(ds:Aa D):qF:=ds.map Ab++Dg (n-ds.length) none
noncomputable def A3:Out->Res D
 |.rt d S=>.ok d S
 |.nx _ S=>.ok .non S
 |.ex c x _ S=>.ex c x S
 |_=>.bad
noncomputable def qR (n:Ai)(g:DS):DF:=λds S=>A3 (g (vF n ds) S)
def spR (K:Aj)(P:Hp)(α : Aa Af)(R:Res D)(Q:VK)(E:XK):Prop:=match R with
 |.ok d S'=>∀ v H' P' α',Rel K H' P' α' S'->qG P P'->α<+:α'->Rep K P' α' d v->Q v H'
 |.ex c _ S'=>∀ H' P' α',Rel K H' P' α' S'->qG P P'->α<+:α'->E c none H'
 |.bad=>Fh
def spD (K:Aj)(n:Ai)(F:DF):Sp:=λvs H Q E=>vs.length=n/\∃ P α ds S,Rel K H P α S/\qE K P α ds vs/\spR K P α (F ds S) Q E
theorem oD {K:Aj}{P:Hp}{α:Aa Af}{N:Aa Ap}{ds:Aa D}(r:qE K P α ds vs):qZ K P α (_L.xU N vs) (vF N.length ds):=by
 refine⟨by simp[vF,_L.xU,r.length],λi d e=>?_⟩
 unfold vF at e;unfold _L.xU;by_cases hi:i<ds.length
 .rw[Bi (by simpa using hi),Dp] at e
  rw[Bi (by rw[Av,<- r.length];exact hi),Dp]
  cases q:ds[i]? with
  |none=>rw[q] at e;cases e
  |some d' =>
   rw[q] at e;cases e;obtain⟨v,h1,h2⟩:=r.get q;exact⟨v,by rw[h1];rfl,h2⟩
 .rw[Cs (by simpa using hi),Nc] at e
  split at e <;> cases e
section
variable {P:Bd}{w:Bz}{K:Aj}{mg:Ap->Ak Ac}{base:Bq}{cm:Aq}
theorem dQ {qual:Ap}{scope:Eu}{f:Af}{cdv:Ac}{A:Bt}{outer:Aa Ja}{s:Ag}{H P':Hp}{E:XK}{N:Aa Ap}{g:DS}{α:Aa Af}{ds:Aa D}{S':Sto}(hb:PSs (cxC cm P w K mg base N qual scope f cdv A outer s H E) body (tDS (cxC cm P w K mg base N qual scope f cdv A outer s H E) g))
  (r:Rel K H P' α S') (rp:qE K P' α ds vs) (af:spR K P' α (qR N.length g ds S') Q E):∃ t,PSs (cxC cm P w K mg base N qual scope f cdv A outer s H E) body t/\t { nx:=λ_ H'=>Q .non H',rt:=Q } (_L.xU N vs) H:=by
 refine⟨_,hb,P',α,vF N.length ds,S',r,oD rp,?_⟩;unfold qR at af;cases q:g (vF N.length ds) S' with
 |rt d S1=>rw[q] at af;exact λv H' P1 α1 r1 e1 e2 p1=>af v H' P1 α1 r1 e1 e2 p1
 |nx env S1=>rw[q] at af;exact λσ' H' P1 α1 r1 re1 e1 e2=>af .non H' P1 α1 r1 e1 e2 (by simp only[Rep])
 |bk env S1=>rw[q] at af;exact An af
 |ct env S1=>rw[q] at af;exact An af
 |ex c x env S1=>rw[q] at af;exact λu s' z=>sE (A:=A) rfl z λH' P1 α1 r1 e1 e2=>af H' P1 α1 r1 e1 e2
 |bad=>rw[q] at af;exact An af
theorem fnX {x qual:Ap}{st:Fj}{f:Af}{fd:Fw}{N ps:Aa Ap}{k:Ai}{g:DS}(F:Fun K x qual st f fd)(S:FnScope N ps (qH st))
  (hbody:∀ (cdv:Ac) (A:Bt) (outer:Aa Ja) (s:Ag) (H:Hp) (E:XK),fd.code=cdv/\Mod K mg base->RoomC cm k (A.deeper (Gn qual (qH st) s.heap.objs.size f cdv)) ->
   PSs (cxC cm P w K mg base N qual (qH st) f cdv A outer s H E) (zK st) (tDS (cxC cm P w K mg base N qual (qH st) f cdv A outer s H E) g)) :
  FnX P w K mg base cm (k+1) f fd ps (spD K ps.length (qR N.length g)):=by
 refine N2 F S (λvs H Q E h=>h.1) λcdv A outer s H vs Q E hc hr h=>?_;obtain⟨hl,P',α,ds,S',r,rp,af⟩:=h;exact dQ (hbody cdv A outer s H E hc hr) r rp af
end
section
variable {X:Cx}{cm:Aq}{k:Ai}{f:Af}{fd:Fw}{ps:Aa Ap}{F:DF}{x:Ap}{p pos:Fl}{e:Bw}{es:Aa Bw}{fa:DA}{n:Ai}
noncomputable def qO (n:Ai)(F:DF)(fa:DA):DE:=λenv S=>(fa env S).bind λds S1=>if ds.length=n then F ds S1 else .bad
def EX (X:Cx)(P:Hp)(α : Aa Af)(R:Res D):XK:=λc _ H'=>match R with
 |.ex c' _ S'=>c=c'/\∃ P' α',Rel X.K H' P' α' S'/\qG P P'/\α<+:α'
 |_=>Fh
theorem rR {P:Hp}{α:Aa Af}{R:Res D}(af:qV X P α R Q):spR X.K P α R Q (EX X P α R):=by
 cases R with
 |ok d S'=>exact af
 |ex c x S'=>exact λH' P' α' r' e1 e2=>⟨rfl,P',α',r',e1,e2⟩
 |bad=>exact af
theorem bP {pins:Aa (Af × Co)}{σ:_L.St}{H:Hp}{s:Ag}{P:Hp}{α:Aa Af}{R:Res D}(hF:(∃ c x S',R=.ex c x S')->Fn1 X)(I:Inv X pins σ H s)(af:qV X P α R Q)
  (h:Hu (As X.prog X.w) X.A (.call u ⟨us,[]⟩) (CR (CXd X.prog X.w) X.stack X.prog X.w H s Q (EX X P α R)) s):Ao (As X.prog X.w) X.A (call u us) (EP X pins σ Q) X.xe s:=by
 refine Ph (Ji h λr s' hq=>?_);cases r with
 |error u =>
  have hq:CXd X.prog X.w X.stack H s (EX X P α R) u s':=hq;cases R with
  |ok d S'=>obtain⟨_,_,_,_,_,_,_,_,_,_,_,_,q⟩:=hq;exact An q
  |bad=>exact An af
  |ex c' x' S' =>
   have hG:=hF ⟨_,_,_,rfl⟩;obtain⟨a,c,H',rfl,I',fl,rfl,P',α',r',e1,e2⟩:=N1 I hG hq;exact af _ _ ⟨a,pins,σ,H',P',α',rfl,I',r',e1,e2,hG,fl⟩
 |ok fl =>
  cases fl with
  |ret u=>exact I.after hq
  |next=>exact An hq
  |brk=>exact An hq
  |cont=>exact An hq
theorem F8 {pins:Aa (Af × Co)}{σ:_L.St}{H:Hp}{s:Ag}{P:Hp}{α:Aa Af}{ds:Aa D}(G:FnX X.prog X.w X.K X.mg X.base cm k f fd ps (spD X.K n F))(hr:RoomC cm k X.A)(hb:vS X.K fd ps [])(hF:Fn1 X)
  (I:Inv X pins σ H s) (r:Rel X.K H P α S) (rv:qK vs us) (rp:qE X.K P α ds vs) (hn:ds.length=n) (af:qV X P α (F ds S) Q):Ao (As X.prog X.w) X.A (call (.ref f) us) (EP X pins σ Q) X.xe s:=by
 have hsp:spD X.K n F vs H Q (EX X P α (F ds S)):=⟨by rw[<- rp.length];exact hn,P,α,ds,S,r,rp,rR af⟩
 have hl:us.length=ps.length:=by rw[<- rv.length];exact G.len _ _ _ _ hsp
 have hb':=hb s us I.kIn (by rw[Fx];exact hl)
 rw[Fx] at hb';exact bP (λ_=>hF) I af (G.run X.A X.stack s H ⟨us,[]⟩ us vs Q _ hr I.env0 hb' rv hsp)
theorem nX {env:qF}{S:Sto}{P:Hp}{α:Aa Af}{ds:Aa D}{Ok:D->Sto->Prop}(h:qJ X P α (if ds.length=n then F ds S1 else .bad) Ok):ds.length=n/\qJ X P α (F ds S1) Ok:=by
 by_cases hn:ds.length=n
 .rw[Bl hn] at h;exact⟨hn,h⟩
 .rw[Bm hn] at h;exact An h
theorem KG (G:FnX X.prog X.w X.K X.mg X.base cm k f fd ps (spD X.K n F))(hr:RoomC cm k X.A)(hF:Fn1 X)(hg:Gl X x)(hm:X.mg x=Ab (.ref f))(hk:Fn X.K (.ref f)=true)(hb:vS X.K fd ps [])
  (ha:PA X (e::es) (tDA X fa)) (hdb:(x == ("__debug__" : Ap))=false:=by decide) (he:Be (e::es) X.env=(false,eval e X.env)::Be es X.env:=by rfl) (hpl:(Gc pos (Be es X.env)).any (·.1)=false:=by rfl) :
  PE X (.Call (.Name x p) (e::es) [] pos) (tD X (qO n F fa)):=by
 intro pins s σ H Q I h;obtain⟨P,α,env,S,r,re,af⟩:=h;refine Ha (uK I hg hm ?_ hdb);refine Qe (h₀:=X.base) I.ok.mod.kin hk (thn (wD ha I r re af pos) λus s1 ⟨vs,H1,P1,α1,ds,S1,I1,rv,r1,re1,rp,e1,e2,af1⟩=>⟨I1.kIn,?_⟩) he hpl;obtain⟨hn,af2⟩:=nX (env:=env) (S:=S) af1;exact F8 G hr hb hF I1 r1 rv rp hn (qV.base e1 e2 af2)
end
noncomputable abbrev dP:Aa Ac:=[.type "ValueError",.type "Exception",.type "BaseException",.type "object"]
noncomputable def RT:Ac->Aq
 |.str _ _=>true
 |_=>false
noncomputable def kK (K:Aj)(N:Af):Aq:=(match Op N K with
 |some o=>match o.data with
  |.dict es _=>es.toList.all λe=>RT e.key
  |_=>false
 |none=>false)&&decide (Dn K N "__init__" = Ab none)
theorem yA {K:Aj}{N:Af}(h:kK K N=true):u8 K N=true/\Dn K N "__init__" = Ab none:=by
 unfold kK at h;rw[Az,Bv] at h;refine⟨?_,h.2⟩;have h1:=h.1;unfold u8;cases e:Op N K with
 |none=>rw[e] at h1;cases h1
 |some o =>
  rw[e] at h1;obtain⟨oc,od,dt,sl⟩:=o;cases dt with
  |dict es ep =>
   simp only at h1 ⊢;rw[Array.all_toList] at h1;refine Eq.trans (congrArg (λf=>Array.all es f) (funext λe=>?_)) h1;cases e.key <;> rfl
  |_=>cases h1
noncomputable def dB (K:Aj)(C:Af)(f:Ac->Xx->Ax (Ak Ac)->Aq):Aq:=match Op C K with
 |some o=>(match o.data with|.cls cd=>f o.cls cd o.slots|_=>false)
 |none=>false
theorem rA {K:Aj}{f:Ac->Xx->Ax (Ak Ac)->Aq}(h:dB K C f=true):∃ oc od cd sl,Op C K=Ab ⟨oc,od,.cls cd,sl⟩/\f oc cd sl=true:=by
 unfold dB at h;cases e:Op C K with
 |none=>rw[e] at h;exact Hf h
 |some o =>
  rw[e] at h;obtain⟨oc,od,dt,sl⟩:=o;cases dt with
  |cls cd=>exact⟨oc,od,cd,sl,rfl,h⟩
  |_=>exact Hf h
noncomputable def bR (K:Aj)(C A:Af):Aq:=dB K C λoc cd sl=>dB K A λ_ ca _=>decide (oc=.type "type")&&(decide (cd.mro=.ref C::.ref A::dP)&&(!cd.hasDel&&(kK K cd.ns&&(kK K ca.ns&&(decide (sl.toList.length=6)&&decide (sl.toList[4]? = Ab (Ab (.builtin "ValueError.__new__"))))))))
inductive ExcO (h:Bq)(C:Af):Prop
 |mk (nm q:Ap) (N:Af) (bs bm:Aa Ac) (hdct:Aq) (sn:Aa Ap) (sub:Aa Ac) (ab:Aq) (col:Ak Aq) (dd:Ak Af) (k0 k1 k2 k3 k5:Ak Ac) (mN:Ap->Ak Ac) (hC:h.get? C=Ab (excClassObj nm q C N bs bm hdct sn sub ab col dd k0 k1 k2 k3 k5 "ValueError.__new__")) (hN:h.Ns N mN) (hni:mN "__init__" = none) (T:OwnTail h dP bm):ExcO h C
theorem tW {β:Type}{l:Aa β}{n:Ai}(h:l.length=n+1):∃ a t,l=a::t/\t.length=n:=by
 cases l with
 |nil=>exact Nat.noConfusion h
 |cons a t=>exact⟨a,t,rfl,AaB h⟩
theorem six {β:Type}{l:Aa β}(h:l.length=6):∃ a b c d e f,l=[a,b,c,d,e,f]:=by
 obtain⟨a,t,e1,h⟩:=tW h;obtain⟨b,t2,e2,h⟩:=tW h;obtain⟨c,t3,e3,h⟩:=tW h;obtain⟨d,t4,e4,h⟩:=tW h;obtain⟨e,t5,e5,h⟩:=tW h;obtain⟨f,t6,e6,h⟩:=tW h;exact⟨a,b,c,d,e,f,by rw[e1,e2,e3,e4,e5,e6,Nh.mp h]⟩
theorem L6 {cd:Xx}{tl:Aa Ac}{k0 k1 k2 k3 k4 k5:Ak Ac}{n:Dx}(hm:cd.mro=.ref C::tl)(hd:cd.hasDel=false)(hs:sl.toList=[k0,k1,k2,k3,k4,k5])(hn:sl.toList[4]? = Ab (Ab (.builtin n))) :
  (⟨.type "type",od,.cls cd,sl⟩:Co)=excClassObj cd.name cd.qualname C cd.ns cd.bases tl cd.hasDict cd.slotNames cd.subclasses cd.abstract cd.collection od k0 k1 k2 k3 k5 n:=by
 rw[hs] at hn;cases hn;cases cd;cases sl;cases hm;cases hd;cases hs;rfl
theorem GF {K:Aj}{h:Bq}{A:Af}{cd:Xx}(KI:K.In h)(e:Op C K=Ab ⟨.type "type",od,.cls cd,sl⟩)(h2:cd.mro=.ref C::.ref A::dP)(h3:cd.hasDel=false)(h4:kK K cd.ns=true)(h6:sl.toList.length=6)(h7:sl.toList[4]? = Ab (Ab (.builtin "ValueError.__new__")))(T:OwnTail h dP (.ref A::dP)):ExcO h C:=by
 obtain⟨k0,k1,k2,k3,x,k5,es⟩:=six h6;exact⟨_,_,_,_,_,_,_,_,_,_,_,k0,k1,k2,k3,k5,_,(KI _ _ e).trans (congrArg Ab (L6 h2 h3 es h7)),.of_isNs (Ws KI (yA h4).1),Rq KI (yA h4).1 (yA h4).2,T⟩
theorem GG {K:Aj}{h:Bq}{A:Af}(KI:K.In h)(z:bR K C A=true):ExcO h C:=by
 obtain⟨oc,od,cd,sl,e,z⟩:=rA z;obtain⟨qc,qd,ca,ql,e2,z⟩:=rA z;have a1:=EQ.mp z;have a2:=EQ.mp a1.2;have a3:=EQ.mp a2.2;have a4:=EQ.mp a3.2;have a5:=EQ.mp a4.2;have a6:=EQ.mp a5.2;rw[Cw a1.1] at e;exact GF KI e (Cw a2.1) (Nu _▸a3.1) a4.1 (Cw a6.1) (Cw a6.2) (.own (KI _ _ e2) (.of_isNs (Ws KI (yA a5.1).1)) (Rq KI (yA a5.1).1 (yA a5.1).2) .base)
section
variable {X:Cx}{pos:Fl}{fa:DA}
noncomputable def yE (c:Ac)(fa:DA):DS:=λenv S=>(fa env S).toS env λds S1=>if ds.length<=lim then .ex c .non env S1 else .bad
inductive GotAS (X:Cx)(pins:Aa (Af × Co))(σ : _L.St)(env:qF)(P:Hp)(α : Aa Af)(us:Aa Ac)(s1:Ag)(k:Aa D->Sto->Out)(E:Ends):Prop
 |mk (vs:Aa V) (H1 P1:Hp) (α1:Aa Af) (ds:Aa D) (S1:Sto) (I:Inv X pins σ H1 s1) (rv:qK vs us) (r:Rel X.K H1 P1 α1 S1) (re:qZ X.K P1 α1 σ env) (rp:qE X.K P1 α1 ds vs) (e1:qG P P1) (e2:α<+:α1) (q:zA X P1 α1 (k ds S1) E):GotAS X pins σ env P α us s1 k E
theorem KC {es:Aa Bw}{k:Aa D->Sto->Out}{pins:Aa (Af × Co)}{s:Ag}{σ:_L.St}{H P:Hp}{α:Aa Af}{env:qF}{D:Ends}(he:PA X es (tDA X fa))(I:Inv X pins σ H s)(r:Rel X.K H P α S)
  (re:qZ X.K P α σ env) (af:zA X P α ((fa env S).toS env k) D) (pos:Fl) :
  Ao (As X.prog X.w) X.A (spliced (Gc pos (Be es X.env))) (λus s1=>GotAS X pins σ env P α us s1 k D) X.xe s:=by
 have af1:qJ X P α ((fa env S).bind λd S=>.ok d S) λd S=>zA X P α (k d S) D:=by
  have:=wW af;cases q:fa env S <;> rw[q] at this <;> exact this
 exact thn (wD he I r re af1 pos) λu s1 ⟨vs,H1,P1,α1,ds,S1,I1,rv,r1,re1,rp,e1,e2,q⟩=>⟨vs,H1,P1,α1,ds,S1,I1,rv,r1,re1,rp,e1,e2,zA.base e1 e2 q⟩
theorem Y2 {x:Ap}{Ae:Af}{e₀:Bw}{rest:Aa Bw}{np cpos:Fl}(hc:X.calm=true)(hF:Fn1 X)(hg:Gl X x)(hm:X.mg x=Ab (.ref C))(hx:bR X.K C Ae=true)(ha:PA X (e₀::rest) (tDA X fa))
  (hdb:(x == ("__debug__" : Ap))=false:=by decide) (he:Be (e₀::rest) X.env=(false,eval e₀ X.env)::Be rest X.env:=by rfl) (hpl:(Gc cpos (Be rest X.env)).any (·.1)=false:=by rfl) :
  PS X (.Raise (Ab (.Call (.Name x np) (e₀::rest) [] cpos)) none pos) (tDS X (yE (.ref C) fa)):=by
 intro pins s σ H D I h;obtain⟨P,α,env,S,r,re,af⟩:=h;obtain⟨nm,qn,N,bs,tl,hdct,sn,sub,ab,col,dd,k0,k1,k2,k3,k5,mN,hC,hN,hni,T⟩:=GG I.mod.kin hx;refine wpAny_Raise_call_subT (C:=C) (nm:=nm) (q:=qn) (N:=N) (bs:=bs) (bm:=tl) (hdct:=hdct) (sn:=sn) (sub:=sub) (ab:=ab) (col:=col) (dd:=dd) (k0:=k0) (k1:=k1) (k2:=k2) (k3:=k3) (k5:=k5)
  Qm (mN:=mN) (T.hasType Qm.hasBase) (I.ok.hd hc) (by rw[he];show (false||(Gc cpos (Be rest X.env)).any (·.1))=false;rw[hpl];rfl) hni (uK I hg hm ⟨rfl,?_⟩ hdb)
 have run:=KC ha I r re af cpos;rw[he] at run ⊢;refine Vf (thn run λus s2 ⟨vs,H1,P1,α1,ds,S1,I1,rv,r1,re1,rp,e1,e2,q⟩=>?_);have hl:us.length=ds.length:=by rw[rp.length,rv.length]
 by_cases hz:ds.length<=lim
 .rw[Bl hz] at q
  refine⟨rfl,by rw[hl,<- zQ];exact hz,I1.bk _ _ hC,hN.keeps I1.bk,T.keeps I1.bk,λh' e hm=>q _ _ ⟨e,pins,σ,H1,P1,α1,rfl,I1.kept (t':=s2.toks) hm.keeps,r1,qG.refl _,Bn _,hF,.new s2.heap us hm I1.stack λb o eb old=>?_⟩⟩
  obtain⟨o1,q1⟩:=Old.there I1 hF old;have q2:=hm.keeps b o1 q1;rw[eb] at q2;cases q2;exact q1
 .rw[Bm hz] at q;exact An q
end
section
variable {X:Cx}{pins:Aa (Af × Co)}{σ : _L.St}{H:Hp}{s:Ag}
theorem iY {M:Kz}{A:Bt}{E:Ac->Ag->Prop}{base h:Bq}{env:Ja}{outer:Aa Ja}{L e:Af}{cls:Ac}{Q:Qv->Ag->Prop}
  (hfr:A.frames=Ab (env::outer)) (hf:env.frame=Ab L) (hkb:base.StaysIn h) (hl:h.FunFrames base (env::outer)) (hx:Uv h s.heap e cls args)
  (hQ:∀ h' a0,Heap.HeldW base (env::outer) e cls a0 L h'->s.heap.UpToSlots h'->Q () { s with heap:=h' }) : Ao M A (Uf (.ref e) env) Q E s:=by
 obtain⟨t,he,htn,ht⟩:=hx.there;have fresh:∀ b,h.get? b=none->base.get? b=none:=λb hb=>by
  cases hq:base.get? b with
  |none=>rfl
  |some o'=>have z:=hkb b o' hq;rw[hb] at z;cases z
 unfold Uf;simp only[hf];refine Ad (Eg he rfl (x:=.none) rfl ?_);rw[Bm (by decide)]
 refine wpAny_entryW hfr (hl.of_keeps λb o hb _=>⟨o,hx.keeps b o hb,rfl⟩) hf he (λb o hb=>hx.keeps b o (hkb b o hb)) (fresh e hx.new) rfl (by simp) (a0:=.ref t) rfl λh' hN=>?_
 obtain⟨n1,n2,n3,n4⟩:=hN;exact hQ h' (.ref t) ⟨n1,fresh e hx.new,n2,n3⟩ n4
theorem V2 {M:Kz}{A:Bt}{E:Ac->Ag->Prop}{c:Ac}{e:Af}{Q:Qv->Ag->Prop}(I:Inv X pins σ H s)(F:Fn1 X)(hA:A.frames=Ab X.stack)(f:FlyX X pins H c e s.heap)
  (hQ:∀ h' B a0,Pc B X.stack e c a0 h'->Inv X pins σ H { s with heap:=h' } -> Cv X pins H B h'->Q () { s with heap:=h' }) :
  Ao M A (Uf (.ref e) X.env) (λ_ s₂=>Ao M A (Xy (.ref e) none) Q E s₂) E s:=by
 have land:∀ (B:Bq) (a0:Ac) (h1:Bq),Cv X pins H B s.heap->Heap.HeldW B X.stack e c a0 X.env.locals h1->s.heap.UpToSlots h1->Ao M A (Xy (.ref e) none) Q E { s with heap:=h1 }:=λB a0 h1 cv hh up=>by
  refine wpAny_landsW (s:={ s with heap:=h1 }) hh λh2 f2 u2=>?_
  obtain⟨I2,cv2⟩:=Inv.fly I F cv f2.1 (up.trans u2);exact hQ h2 B a0 f2 I2 cv2
 cases f with
 |new g args hm hf hk =>
  obtain⟨k1,k2,k3⟩:=ZO I hm hf hk;rw[F.2.1] at hA;exact iY hA F.2.2 k1 (by rw[<- F.2.1];exact k2) hm λh' a0 x1 x2=>land _ a0 h' k3 (F.2.1▸x1) x2
 |fly B a0 fl cv =>
  rw[F.2.1] at hA;exact wpAny_looks_onW hA F.2.2 (by rw[<- F.2.1];exact fl) λh' x1 x2=>land B a0 h' cv (by rw[F.2.1];exact x1) x2
theorem c7 {B:Bq}{c a0:Ac}{e:Af}(I:Inv X pins σ H s)(F:Fn1 X)(fl:Pc B X.stack e c a0 s.heap)(cv:Cv X pins H B s.heap):¬ Old X pins H e/\e ∉ frs X.stack/\∃ ob,s.heap.get? e=Ab ob/\ob.cls=c:=by
 obtain⟨oe,vs,he,hc,hd,_⟩:=fl.first
 have nf:e ∉ frs X.stack:=λz=>by
  obtain⟨_,o,ho,hn⟩:=I.stack.mem z;rw[he] at ho;cases ho;exact hn vs hd
 refine⟨λz=>?_,nf,oe,he,hc⟩;have q:=cv e oe he z nf;rw[fl.2.1] at q;cases q
theorem Inv.track {e:Af}{c:Ac}{ob:Co}(I:Inv X pins σ H s)(F:Fn1 X)(no:¬ Old X pins H e)(nf:e ∉ frs X.stack)(he:s.heap.get? e=Ab ob)(hc:ob.cls=c):Inv X pins σ (upd H e (sL e c)) s:=by
 have hn:H e=none:=by
  cases q:H e with
  |none=>rfl
  |some u=>exact absurd (.inr (.inl (by rw[q];intro z;cases z))) no
 have nL:e≠X.env.locals:=λz=>nf (F.mem.mpr (.inl z));have n0:∀ b o,X.s₀.heap.get? b=Ab o->b≠e:=λb o q z=>no (.inl ⟨o,z▸q⟩);refine⟨I.ok,I.os,I.bare,⟨I.base.keep,I.base.slot,λb o q n hx=>?_,I.base.there,λb xs q=>?_,λb o xs q=>?_,λb ps q=>?_⟩,I.loc,I.cell,?_,λx k q=>?_,λp hp=>?_,λb u q=>?_,I.len⟩
 .rw[qI (n0 b o q)];exact I.base.free b o q n hx
 .have z:=I.base.tups b xs q
  rw[qI (qT z hn)];exact z
 .have z:=I.base.frzs b o xs q
  rw[qI (qT z hn)];exact z
 .obtain⟨m,z⟩:=I.base.tbls b ps q
  exact⟨m,by rw[qI (qT z hn)];exact z⟩
 .rw[qI (Gb nL)];exact I.free
 .have z:k≠e:=λz=>no (.inr (.inr (.inr ⟨x,z▸q⟩)))
  rw[qI z];exact I.freeC x k q
 .obtain⟨a1,a2,a3,a4,a5⟩:=I.pin p hp
  have z:p.1≠e:=λz=>no (.inr (.inr (.inl ⟨p,hp,z⟩)));exact⟨a1,by rw[qI z];exact a2,a3,a4,a5⟩
 .by_cases hb:b=e
  .subst hb
   rw[qU] at q;cases q;refine⟨⟨ob,he,hc⟩,⟨ob,he⟩,λh1 h2 ⟨o,q1,q2⟩ k=>⟨o,k o q1,q2⟩⟩
  .rw[qI hb] at q
   exact(I.hok b u q).stay (λ_ _ _ z=>z) (λk z=>by rw[qI (qT z hn)];exact z) λk xs z=>by rw[qI (qT z hn)];exact z
theorem Inv.gone {i t':Ai}{n:Ap}{h':Bq}(I:Inv X pins σ H s)(hN:X.N.Nodup)(hi:X.N[i]? = Ab n){m:Ap->Ak Ac}{v:Ak Ac}(hl:∀ (j:Ai) (y:Ap) (w:V),X.N[j]? = Ab y->σ[j]? = Ab (Ab w)->Vis X.env.scope y->∃ u,qL w u/\M0 X.env s.heap m y u)(hv:h'.Ns X.env.locals λy=>if y=n then v else m y)(sb:Fe X.env.locals s.heap h') :
  Inv X pins (σ.set i none) H { s with heap:=h',toks:=t' }:=by
 have neL:∀ b o,X.s₀.heap.get? b=Ab o->b≠X.env.locals:=λb o e=>Ci (Bb (Ay e) I.ok.above);have kp:∀ b o,b≠X.env.locals->s.heap.get? b=Ab o->h'.get? b=Ab o:=λb o n e=>(sb.2 b n).trans e;refine⟨I.ok,I.os,I.bare,⟨λb o e n hb hx=>kp b o (neL b o e) (I.base.keep b o e n hb hx),λb o e n hb hx=>?_,I.base.free,λb o e hx=>?_,I.base.tups,I.base.frzs,I.base.tbls⟩,⟨_,hv,λj y w e1 e2 e3=>?_⟩,λx c e=>?_,I.free,I.freeC,λp hp=>?_,λb u q=>?_,by simpa using I.len⟩
 .obtain⟨sl,q⟩:=I.base.slot b o e n hb hx
  exact⟨sl,kp b _ (neL b o e) q⟩
 .obtain⟨o',q⟩:=I.base.there b o e hx
  exact⟨o',kp b o' (neL b o e) q⟩
 .have hj:i≠j:=λz=>by
   subst z;by_cases hs:i<σ.length
   .rw[Ed hs] at e2;cases e2
   .rw[Oo (by simp;omega)] at e2;cases e2
  rw[Ch hj] at e2;obtain⟨u,r,l⟩:=hl j y w e1 e2 e3;refine⟨u,r,?_⟩;rcases l with⟨k,z⟩|⟨k,c,z,zc⟩
  .refine .inl ⟨k,?_⟩
   have:y≠n:=λz=>hj (f9 hN hi (z▸e1));simp[this,z]
  .exact .inr ⟨k,c,z,zc.sameBut sb (I.cne y c z)⟩
 .obtain⟨w,z⟩:=I.cell x c e
  exact⟨w,z.sameBut sb (I.cne x c e)⟩
 .obtain⟨e,n,ne,nf,d⟩:=I.pin p hp
  exact⟨kp p.1 p.2 ne e,n,ne,nf,d⟩
 .refine(I.hok b u q).stay (λc w hc z=>kp c w ?_ z) (λ_ z=>z) λ_ _ z=>z
  rintro rfl;rcases hc with rfl|hc
  .rw[I.free] at q;cases q
  .rw[I.free] at hc;cases hc
theorem c8 {A:Bt}{E:Ac->Ag->Prop}{i:Ai}{n:Ap}{pos:Fl}{Q:Qv->Ag->Prop}(I:Inv X pins σ H s)(hN:X.N.Nodup)(hi:X.N[i]? = Ab n)(hlo:X.env.scope.names.lookup n=Ab .local)
  (h:∀ s',Inv X pins (σ.set i none) H s'->Q () s'):Ao M A (do Wi X.env n .none;unbindBehindTheSuite X.env n pos) Q E s:=by
 obtain⟨m,hm,hl⟩:=id I.loc;exact wpAny_nameGoes_keeps hlo hm (by rw[I.ok.kind];rfl) λh' v hv sb=>h _ (Inv.gone I hN hi hl hv sb)
end
abbrev Cx.tryIn (X:Cx)(E:Ac->Ag->Prop)(pn:Aa (Af × Co)):Cx:={ X with xe:=E,pn:=pn }
abbrev Cx.suite (X:Cx)(e:Af):Cx:=Cx.re X (X.A.mark (Ab (.ref e))) false λ_ _=>Fh
noncomputable def fE (N i:Ai)(cs:Aa Ac)(f g:DS):DS:=λenv S=>match f env S with
 |.ex c x env1 S1=>if cs.contains c then (match g ((Dg N none).set i (Ab (.exn c))) S1 with
   |.rt d S2=>.rt d S2
   |.nx env2 S2=>.nx (env2.set i none) S2
   |_=>.bad) else .bad
 |o=>o
section
variable {X:Cx}{pins:Aa (Af × Co)}{σ : _L.St}{H:Hp}{s:Ag}
theorem Inv.inTry (I:Inv X pins σ H s)(E:Ac->Ag->Prop):Inv (Cx.tryIn X E (X.pn++pins)) [] σ H s:=
 ⟨⟨I.ok.mod,I.ok.kind,I.ok.glob,I.ok.blt,I.ok.above,I.ok.inj,I.ok.has,I.ok.cab,I.ok.hd,I.ok.frames,I.ok.stk,I.ok.exf,I.ok.bs,I.ok.bsz,I.ok.noex,I.ok.exfs,I.ok.funs,I.ok.frf⟩,I.os,I.bare,I.base,I.loc,I.cell,I.free,I.freeC,λp hp=>I.pin p (by simpa using hp),I.hok,I.len⟩
theorem Inv.outTry {E:Ac->Ag->Prop}(I:Inv (Cx.tryIn X E (X.pn++pins)) more σ H s):Inv X pins σ H s:=
 ⟨⟨I.ok.mod,I.ok.kind,I.ok.glob,I.ok.blt,I.ok.above,I.ok.inj,I.ok.has,I.ok.cab,I.ok.hd,I.ok.frames,I.ok.stk,I.ok.exf,I.ok.bs,I.ok.bsz,I.ok.noex,I.ok.exfs,I.ok.funs,I.ok.frf⟩,I.os,I.bare,I.base,I.loc,I.cell,I.free,I.freeC,λp hp=>I.pin p (Df _ hp),I.hok,I.len⟩
theorem SP.outTry {E:Ac->Ag->Prop}{D:Ends}{f:Flow}{s':Ag}(h:SP (Cx.tryIn X E (X.pn++pins)) [] D f s'):SP X pins D f s':=by
 cases f with
 |next=>obtain⟨σ',H',I,q⟩:=h;exact⟨σ',H',Inv.outTry I,q⟩
 |brk=>obtain⟨σ',H',I,q⟩:=h;exact⟨σ',H',Inv.outTry I,q⟩
 |cont=>obtain⟨σ',H',I,q⟩:=h;exact⟨σ',H',Inv.outTry I,q⟩
 |ret u=>obtain⟨v,σ',H',I,r,q⟩:=h;exact⟨v,σ',H',Inv.outTry I,r,q⟩
theorem FlyX.outTry {E:Ac->Ag->Prop}{c:Ac}{e:Af}{h:Bq}(f:FlyX (Cx.tryIn X E (X.pn++pins)) more H c e h):FlyX X pins H c e h:=by
 have old:∀ b,Old X pins H b->Old (Cx.tryIn X E (X.pn++pins)) more H b:=λb o=>by
  rcases o with o|o|⟨p,hp,z⟩|o
  .exact .inl o
  .exact .inr (.inl o)
  .exact .inr (.inr (.inl ⟨p,Df _ hp,z⟩))
  .exact .inr (.inr (.inr o))
 cases f with
 |new g args hm hf hk=>exact .new g args hm hf λb o e q=>hk b o e (old b q)
 |fly B a0 fl cv=>exact .fly B a0 fl λb o e q n=>cv b o e (old b q) n
theorem XO {K:Aj}{P:Hp}{α:Aa Af}{n:Ai}(h:σ.length=n):qZ K P α σ (Dg n none):=by
 refine⟨by simp[h],λi d e=>?_⟩
 rw[Nc] at e
 split at e <;> cases e
theorem qZ.unset {K:Aj}{P:Hp}{α:Aa Af}{env:qF}(re:qZ K P α σ env)(i:Ai):qZ K P α (σ.set i none) (env.set i none):=by
 refine⟨by simp[re.1],λj d e=>?_⟩
 by_cases hj:i=j
 .subst hj
  by_cases hi:i<env.length
  .rw[Ed hi] at e;cases e
  .rw[Oo (by simp;omega)] at e;cases e
 .rw[Ch hj] at e ⊢
  exact re.2 j d e
end
section
variable {X:Cx}{pos:Fl}{f g:DS}
theorem N5 {pins:Aa (Af × Co)}{D:Ends}{c:Ac}{e C0:Af}{s':Ag}{σ:_L.St}{H P:Hp}{α:Aa Af}{x n:Ap}{i:Ai}{b₀:Fj}{suite:Aa Fj}{hpos:Fl}
  (F:Fn1 X) (hg:Gl X x) (hm:X.mg x=Ab (.ref C0)) (hcs:∀ c∈cs,Jz X.K c (.ref C0)=Ab true) (hN:X.N.Nodup) (hi:X.N[i]? = Ab n) (hlo:X.env.scope.names.lookup n=Ab .local)
  (hs:∀ e,PSs (Cx.suite X e) (b₀::suite) (tDS (Cx.suite X e) g)) (hc:cs.contains c=true) (I:Inv X pins σ H s') (r:Rel X.K H P α S1) (fl:FlyX X pins H c e s'.heap)
  (af:zA X P α (match g ((Dg X.N.length none).set i (Ab (.exn c))) S1 with|.rt d S2=>.rt d S2|.nx env2 S2=>.nx (env2.set i none) S2|_=>.bad) D) (hdb:(x == ("__debug__" : Ap))=false) :
  Ao (As X.prog X.w) X.A (Uf (.ref e) X.env) (λ_ s₂=>Ao (As X.prog X.w) X.A (Xy (.ref e) none) (λ_ s₃ =>
   Ao (As X.prog X.w) X.A (handleBy (.ref e) X.env [.ExceptHandler (Ab (.Name x np)) (Ab n) (b₀::suite) hpos]) (SP X pins D) X.xe s₃) X.xe s₂) X.xe s':=by
 have hcs':Jz X.K c (.ref C0)=Ab true:=hcs c (by simpa using hc)
 have Z:∀ {σ : _L.St} {H:Hp} {s:Ag},Inv X pins σ H s->Inv (Cx.suite X e) pins σ H s:=λI=>Inv.re I _ false _ I.ok.frames λz=>nomatch z;refine V2 I F I.ok.frames fl λh5 B a0 f5 I5 cv5=>?_;refine wpAny_handleBy_cons (codeAny_handlers_test (A:=X.A.mark (Ab (.ref e))) (uK (X:=Cx.suite X e) (Z I5) hg hm ?_ hdb)) (by intro q;cases q)
 obtain⟨no5,nf5,ob5,he5,hc5⟩:=c7 I5 F f5 cv5;refine(PySem.W.exm_one I5.kIn (by subst hc5;exact(PySem.W.Looks.ld he5).andThen .now) hcs').at ?_
 refine codeAny_handlers_suite_as ?_;refine lands_againW (s:={ s' with heap:=h5 }) f5 λh6 f6 u6=>?_
 obtain⟨I6,cv6⟩:=Inv.fly I5 F cv5 f6.1 u6;obtain⟨no6,nf6,ob6,he6,hc6⟩:=c7 I6 F f6 cv6;have J6:Inv X pins σ (upd H e (sL e c)) { s' with heap:=h6 }:=Inv.track I6 F no6 nf6 he6 hc6
 have hn:H e=none:=by
  cases q:H e with
  |none=>rfl
  |some u=>exact absurd (.inr (.inl (by rw[q];intro z;cases z))) no6
 obtain⟨r1,sP⟩:=r.pure (o:=sL e c) hn;refine jI (X:=Cx.suite X e) (v:=.ref e) (Z J6) hN hi (.inl hlo) rfl (λs7 I7=>?_) (.inr hlo);have re7:qZ X.K (upd P e (sL e c)) α (σ.set i (Ab (.ref e))) ((Dg X.N.length none).set i (Ab (.exn c))):=(XO I.len).set i (by simp only[Rep];exact⟨e,rfl,qU⟩)
 refine Hm (hs e pins s7 _ _ { nx:=λσ' H'=>D.nx (σ'.set i none) H',rt:=D.rt } I7 ⟨_,α,_,S1,r1,re7,?_⟩) (λfl s8 q=>?_) λ_ _ z=>An z
 .cases q:g ((Dg X.N.length none).set i (Ab (.exn c))) S1 with
  |rt d S2=>rw[q] at af;exact λv H' P' α' r' e1 e2 rp=>af v H' P' α' r' (sP.trans e1) e2 rp
  |nx env2 S2=>rw[q] at af;exact λσ' H' P' α' r' re' e1 e2=>af _ H' P' α' r' (qZ.unset re' i) (sP.trans e1) e2
  |bk env2 S2=>rw[q] at af;exact An af
  |ct env2 S2=>rw[q] at af;exact An af
  |ex c' x' env2 S2=>rw[q] at af;exact An af
  |bad=>rw[q] at af;exact An af
 .cases fl with
  |next =>
   obtain⟨σ',H',I8,q⟩:=q;exact c8 (Inv.unre I8 I.ok.frames I.ok.hd) hN hi hlo λs9 I9=>⟨_,H',I9,q⟩
  |brk =>
   obtain⟨_,_,_,q⟩:=q;exact An q
  |cont =>
   obtain⟨_,_,_,q⟩:=q;exact An q
  |ret u =>
   obtain⟨v,σ',H',I8,rv,q⟩:=q;exact c8 (Inv.unre I8 I.ok.frames I.ok.hd) hN hi hlo λs9 I9=>⟨v,_,H',I9,rv,q⟩
set_option tactic.hygienic true in
theorem TL {x n:Ap}{C0:Af}{i:Ai}{b₀:Fj}{suite:Aa Fj}{np hpos:Fl}(F:Fn1 X)(hb:∀ E pn,Ud (As X.prog X.w) X.A X.env E->PSs (Cx.tryIn X E pn) body (tDS (Cx.tryIn X E pn) f))
  (hs:∀ e,PSs (Cx.suite X e) (b₀::suite) (tDS (Cx.suite X e) g)) (hg:Gl X x) (hm:X.mg x=Ab (.ref C0)) (hcs:∀ c∈cs,Jz X.K c (.ref C0)=Ab true) (hN:X.N.Nodup) (hi:X.N[i]? = Ab n:=by rfl) (hlo:X.env.scope.names.lookup n=Ab .local:=by rfl)
  (hdb:(x == ("__debug__" : Ap))=false:=by decide):PS X (.Try body [.ExceptHandler (Ab (.Name x np)) (Ab n) (b₀::suite) hpos] [] [] pos) (tDS X (fE X.N.length i cs f g)):=by
 intro pins s σ H D I h;obtain⟨P,α,env,S,r,re,af⟩:=h;refine wpAny_Try_except ?_;refine Hm (hb _ (X.pn++pins) (PassesOwn.looking (K:=λe s₂=>Ao (As X.prog X.w) X.A (Xy e none) (λ_ s₃=>Ao (As X.prog X.w) X.A (handleBy e X.env [.ExceptHandler (Ab (.Name x np)) (Ab n) (b₀::suite) hpos]) (SP X pins D) X.xe s₃) X.xe s₂) (E₁:=X.xe))
  [] s σ H D (Inv.inTry I _) ⟨P,α,env,S,r,re,?_⟩) (λfl s1 q=>?_) λ_ _ z=>z
 .unfold fE at af
  cases q:f env S with
  |rt d S2=>rw[q] at af;exact af
  |nx env2 S2=>rw[q] at af;exact af
  |bk env2 S2=>rw[q] at af;exact af
  |ct env2 S2=>rw[q] at af;exact af
  |bad=>rw[q] at af;exact af
  |ex c x' env2 S2 =>
   rw[q] at af;dsimp only at af;intro u s' k;obtain⟨e,pins',σ',H',P',α',rfl,I',r',e1,e2,F',fl⟩:=k
   split at af
   .rename_i hc
    exact N5 F hg hm hcs hN hi hlo hs hc (Inv.outTry I') r' (FlyX.outTry fl) (zA.base e1 e2 af) hdb
   .exact An af
 .have q':=SP.outTry q
  cases fl with
  |next=>exact OR q'
  |brk=>exact q'
  |cont=>exact q'
  |ret u=>exact q'
end
end _D
namespace _D
open PySem PySem.Spec PyProof.Rows _L PySem.W
variable {R:Wj->Ag->Prop}
structure ExnK (K:Aj)(C:Af):Prop where
 ga:findIn K (.ref C) "__getattribute__" = Ab (Ab (.builtin "BaseException.__getattribute__"))
 hk:findIn K (.ref C) "__getattr__" = Ab none
 cl:findIn K (.ref C) "__class__" = Ab (Ab (.builtin "object.__class__"))
 sp:specialIn K (.builtin "object.__class__") "__get__" = Ab (Ab (.builtin "getset_descriptor.__get__"))
 tk:takesIn K (.builtin "object.__class__")=Ab true
 mo:mroIn K C (.type "object")=Ab true
 mb:mroIn K C (.type "BaseException")=Ab true
 isC:(clsIn K C).isSome=true
section
variable {prog:Bd}{w:Bz}{A:Bt}{E:Ac->Ag->Prop}{s:Ag}{K:Aj}{x C:Af}
abbrev vT (x C:Af)(h:Bq):Prop:=∃ ob,h.get? x=Ab ob/\ob.cls=.ref C
theorem vT.type {M:Kz}{h:Bq}(I:vT x C h):Looks M h (typeOf (.ref x)) (.ref C):=by
 obtain⟨ob,e,c⟩:=I;rw[<- c];exact(Looks.ld e).andThen .now
theorem YB {M:Kz}{h:Bq}(X:K.In h)(Z:ExnK K C):Looks M h (AaC (.ref x) (.ref C) "__class__") (.bind (.builtin "getset_descriptor.__get__") (.builtin "object.__class__")):=by
 have l1:=Xb (M:=M) X Z.cl;have l2:Looks M h (Aa8 (Ab (.builtin "object.__class__"))) (Ab (.builtin "getset_descriptor.__get__")):=looks_specialIn X Z.sp;have l3:=looks_takesIn (M:=M) X Z.tk;have l4:Looks M h (Xc (Ab (.builtin "object.__class__")) (Ab (.builtin "getset_descriptor.__get__"))) (Ab (.builtin "getset_descriptor.__get__",.builtin "object.__class__")):=l3.andThen .now;exact l1.andThen (l2.andThen (l4.andThen (Looks.tag .now)))
theorem GJ {tp:Ac}(X:K.In s.heap)(Z:ExnK K C)(I:vT x C s.heap)(h:R (.ok (.ret (.ref C))) s) :
  Hu (As prog w) A (.call (.builtin "getset_descriptor.__get__") ⟨[.builtin "object.__class__",.ref x,tp],[]⟩) R s:=by
 have LT:=vT.type (M:=As prog w) I;have LM:=looks_mroIn (M:=As prog w) X Z.mo;cases s;refine Lp KF.slot_gs.plain KF.entry_gs (KF.slot_gs.check _ _ _ _ _ _ _ _ KF.type_class (KF.args_gs _ _ _) ?_);unfold Hn.«getset_descriptor.__get__» Xd;rw[dga_obj];refine Ad (Am ?_);unfold Vx Tf Tn isInstance;simp only[KF.owner_class]
 repeat lk
 refine⟨Qf _ (by decide +kernel),Gu KF.entry_class ?_⟩
 unfold Hn.«object.__class__» shownTypeOf
 repeat lk
 exact h
theorem TY {tk:Qt}(X:K.In s.heap)(Z:ExnK K C)(I:vT x C s.heap)(h:R (.ok (.ret (.ref C))) s) :
  Hu (As prog w) A (.call (.builtin "BaseException.__getattribute__") ⟨[.ref x,.str "__class__" tk],[]⟩) R s:=by
 have LT:=vT.type (M:=As prog w) I;have LM:=looks_mroIn (M:=As prog w) X Z.mb;have LF:=YB (M:=As prog w) (x:=x) X Z;have hk:builtinKind "BaseException.__getattribute__" = Ab .slot:=by decide +kernel
 have hsp:splitId "BaseException.__getattribute__" = Ab ("BaseException","__getattribute__"):=by decide +kernel
 have chk:∀ (A:Bt) (Q:Qv->Ag->Prop) (E:Ac->Ag->Prop),Q () s->Ao (As prog w) A (Sd "BaseException.__getattribute__" ⟨[.ref x,.str "__class__" tk],[]⟩) Q E s:=by
  intro A Q E hq;have ha:=PySem.F.args_bexc_ga (.ref x) (.str "__class__" tk);simp only[Sd,hk,hsp];unfold isInstance;refine Ad (Ad (LT.here (LM.here ?_)))
  repeat (any_goals (first|assumption|wp_step))
 refine Lp So.ga.plain PySem.F.entry_bexc_ga (chk _ _ _ ?_);cases s;unfold Hn.«object.__getattribute__»;refine Ad (Qn (show slotArgs "__getattribute__" 1 ⟨[.ref x,.str "__class__" tk],[]⟩=pure (.ref x,[.str "__class__" tk]) from by kernel_rfl) ?_)
 refine Ad (Am (Ad (LT.at (Ad (LF.at ?_)))));show Ao _ _ (Qz _ _ _ _) _ _ _;unfold Qz;dsimp only;exact Ad (Ee (Ph (GJ X Z I (Am h))))
theorem QP {Q:Ak Ac->Ag->Prop}(X:K.In s.heap)(Z:ExnK K C)(I:vT x C s.heap)(h:Q (Ab (.ref C)) { s with toks:=s.toks+1 }) : Ao (As prog w) A (getAttr? (.ref x) "__class__") Q E s:=by
 have LT:=vT.type (M:=As prog w) I;have L1:=Xb (M:=As prog w) X Z.ga;have lk2:=Xb (M:=As prog w) X Z.hk;unfold getAttr? getAttrBy? getAttrBy;cases s;refine Ad (wpAny_mkText (Ad (Iu (Ee (Ad (LT.at (Ad (L1.at ?_))))))));dsimp only;have hx2:(Aa2 "BaseException.__getattribute__" == Aa2 "object.__getattribute__")=false:=by decide +kernel
 rw[hx2,Ll,Bm Gy];unfold getAttrByItsOwn hookBefore;rw[Bl (show onTheHeap (.ref C)=true from rfl)]
 refine Ad (lk2.at (Ad (Iu (Ee ?_))));unfold callGetattribute;rw[Fm,Bm Gy];unfold boundAndCalled;refine Ad (Qn (So.ga.bind (.ref x)) ?_);refine Ph (TY X Z I ?_);show Ao _ _ (handedOut (.ref C)) _ _ _;exact Am (Am h)
set_option tactic.hygienic true in
theorem sW (Z:ExnK K C):KitX K (.ref x) (.ref C) (vT x C) where
 ty:=λ_ _ _ I=>I.type
 it:=λM h X _=>by
  have z:=Z.isC;unfold clsIn at z
  split at z
  .rename_i ho
   intro A' Q' E' s' k q;unfold isType loadHead;exact Ad (wpAny_loadPart (k _ _ (X _ _ ho)) (Am q))
  .cases z
 ne:=λh tp dd its n sl X htp=>by
  have z:=Z.isC;unfold clsIn at z
  split at z
  .rename_i ho
   cases hq:(Ce C == Ce tp) with
   |false=>rfl
   |true =>
    obtain rfl:C=tp:=Value.ref.inj (Oa.mp hq);have y:=(X _ _ ho).symm.trans htp;cases y
  .cases z
 ca:=λX I k=>QP X Z I k
end
end _D
namespace _D
open PySem PySem.Spec PyProof.Rows _L
variable {cells:Aa (Ap × Af)}{α α1:Aa Af}{ds:Aa D}{E:Ac->Ag->Prop}{C:Af}{s:Ag}{K:Aj}{w:Bz}{o:Co}{H P P1:Hp}{S S1:Sto}
theorem gQ {α:Type}{t:Ky α}{Q Q':α->Ag->Prop}{M:Kz}{A:Bt}(h:Ao M A t Q (λ_ _=>Fh) s)(hQ:∀ a s,Q a s->Q' a s):Ao M A t Q' E s:=Hm h hQ λ_ _ x=>x.elim
noncomputable def jJ (ifs:Aa Bw)(env:Ja):Ky Aq:=forIn ifs true λc r=>if r=true then do let ok <- AaD c env (eval c env);pure (Kr ok) else pure (Kr r)
def PTs (X:Cx)(ifs:Aa Bw)(t:DT):Prop:=
 ∀ (pins:Aa (Af × Co)) (s:Ag) (σ : _L.St) (H:Hp) (Q:Aq->Hp->Prop),Inv X pins σ H s->tDT X t σ H Q->Ao (As X.prog X.w) X.A (jJ ifs X.env) (TP X pins σ Q) X.xe s
noncomputable def wQ:DT:=λ_ S=>.ok true S
section
variable {X:Cx}
theorem bL {prog:Bd}{A:Bt}{env:Ja}{Q:Aq->Ag->Prop}:∀ (ifs:Aa Bw) {s:Ag},Q false s ->
  Ao (As prog w) A (forIn ifs false λc r=>if r=true then do let ok <- AaD c env (eval c env);pure (Kr ok) else pure (Kr r)) Q E s
 |[],s,h=>by rw[Nn];exact Am h
 |c::cs,s,h=>by
  rw[Mn];rw[Bm (by simp)]
  refine Ad (Am ?_);exact bL cs h
theorem GA:PTs X [] wQ:=λpins s σ H Q I ⟨P,α,env,S,r,re,af⟩=>by
 unfold jJ;rw[Nn];exact Am ⟨H,I,af H P α r (qG.refl _) (Bn _)⟩
theorem Y4 {c:Bw}{cs:Aa Bw}{t u:DT}(h1:PT X c (tDT X t))(h2:PTs X cs u):PTs X (c::cs) (yW t u):=λpins s σ H Q I ⟨P,α,env,S,r,re,af⟩=>by
 unfold jJ;rw[Mn,Bl rfl];refine Ad (Ad (thn (kG (λQ' q=>h1 pins s σ H Q' I q) r re af) λb s1 ⟨H1,P1,α1,S1,I1,r1,re1,e1,e2,af1⟩=>Am ?_));cases b with
 |true=>exact h2 pins s1 σ H1 Q I1 ⟨P1,α1,env,S1,r1,re1,wO.base e1 e2 af1⟩
 |false=>exact bL cs ⟨H1,I1,af1 H1 P1 α1 r1 e1 e2⟩
theorem A4 {e:Bw}{f:DE}{pins:Aa (Af × Co)}{σ:_L.St}{env:qF}{d:D}(he:PE X e (tD X f))(I:Inv X pins σ H s)(r:Rel X.K H P α S)(re:qZ X.K P α σ env)(q:f env S=.ok d S1) :
  Ao (As X.prog X.w) X.A (eval e X.env) (λu s1=>∃ v H1 P1 α1,Got X pins σ env P α u s1 v H1 P1 α1 d S1) X.xe s:=by
 refine thn (zR (g:=λd S=>Res.ok d S) (Ok:=λd' S'=>d'=d/\S'=S1) he I r re (by rw[q];exact⟨rfl,rfl⟩)) λu s1 ⟨v,H1,P1,α1,d',S',G,h1,h2⟩=>?_
 have e1:d'=d:=h1;have e2:S'=S1:=h2;subst e1;subst e2;exact⟨v,H1,P1,α1,G⟩
theorem EK {ifs:Aa Bw}{t:DT}{pins:Aa (Af × Co)}{σ:_L.St}{env:qF}{b:Aq}(he:PTs X ifs t)(I:Inv X pins σ H s)(r:Rel X.K H P α S)(re:qZ X.K P α σ env)(q:t env S=.ok b S1) :
  Ao (As X.prog X.w) X.A (jJ ifs X.env) (λb' s1=>b'=b/\∃ H1 P1 α1,Inv X pins σ H1 s1/\Rel X.K H1 P1 α1 S1/\qZ X.K P1 α1 σ env/\qG P P1/\α<+:α1) X.xe s:=by
 refine thn (he pins s σ H (λb' H1=>b'=b/\∃ P1 α1,Rel X.K H1 P1 α1 S1/\qZ X.K P1 α1 σ env/\qG P P1/\α<+:α1) I ⟨P,α,env,S,r,re,?_⟩) λb' s1 ⟨H1,I1,e,P1,α1,q1,q2,q3,q4⟩=>⟨e,H1,P1,α1,I1,q1,q2,q3,q4⟩;rw[q];exact λH' P' α' r' e1 e2=>⟨rfl,P',α',r',re.mono e1 e2,e1,e2⟩
theorem A5 {tg:Bw}{g:DG}{pins:Aa (Af × Co)}{σ:_L.St}{env env1:qF}{d:D}{v:V}{u:Ac}(hg:PG X tg (tDG X g))(I:Inv X pins σ H s)(r:Rel X.K H P α S)(re:qZ X.K P α σ env)(rv:qL v u)
  (rp:Rep X.K P α d v) (q:g d env S=.ok env1 S1) :
  Ao (As X.prog X.w) X.A (assign tg X.env u) (λ_ s1=>∃ σ1 H1 P1 α1,Inv X pins σ1 H1 s1/\Rel X.K H1 P1 α1 S1/\qZ X.K P1 α1 σ1 env1/\qG P P1/\α<+:α1) X.xe s:=by
 refine thn (hg pins s σ H v u (λσ1 H1=>∃ P1 α1,Rel X.K H1 P1 α1 S1/\qZ X.K P1 α1 σ1 env1/\qG P P1/\α<+:α1) I rv ⟨P,α,env,S,d,r,re,rp,?_⟩) λ_ s1 ⟨σ1,H1,I1,P1,α1,q1,q2,q3,q4⟩=>⟨σ1,H1,P1,α1,I1,q1,q2,q3,q4⟩;rw[q];exact λσ' H' P' α' r' re' e1 e2=>⟨P',α',r',re',e1,e2⟩
def mK (K:Aj)(P:Hp)(α : Aa Af)(ds:Aa D)(o:Co):Prop:=∃ (its:Aa Ac) (n:Ai) (vs:Aa V),o={ cls:=.type "list",data:=.seq its.toArray n } /\ qK vs its/\qE K P α ds vs/\ds.length<=lim
theorem mK.mono (e:qG P P1)(h:α<+:α1)(a:mK K P α ds o):mK K P1 α1 ds o:=by
 obtain⟨its,n,vs,q1,q2,q3,q4⟩:=a;exact⟨its,n,vs,q1,q2,qE.mono e h _ _ q3,q4⟩
theorem mK.cell (a:mK K P α ds o):∀ v,o.data≠.cell v:=by
 obtain⟨its,n,vs,rfl,_⟩:=a;intro v z;cases z
theorem Inv.pin1 {pins:Aa (Af × Co)}{σ:_L.St}{a:Af}(I:Inv X pins σ H s)(f:xC X pins H a)(e:s.heap.get? a=Ab o)(d:∀ v,o.data≠.cell v):Inv X (pins++[(a,o)]) σ H s:=
 I.pins_of λp hp=>(Cq.mp hp).elim (λz=>I.pin p (Bx _ z)) λz=>by
  have e':p=(a,o):=by simpa using z
  subst e';exact⟨e,f.1,f.2.1,f.2.2.1,d⟩
theorem Inv.pinned1 {pins:Aa (Af × Co)}{σ:_L.St}{a:Af}(I:Inv X (pins++[(a,o)]) σ H s):s.heap.get? a=Ab o/\H a=none:=by
 have:=I.pin (a,o) (Bx _ (Bx _ (by simp)))
 exact⟨this.1,this.2.1⟩
end
structure TurnSt (Y:Cx)(pins:Aa (Af × Co))(P1:Hp)(α1:Aa Af)(fp:Aa Af)(acc:Af)(env:qF)(S:Sto)(ds:Aa D)(s:Ag)(σ : _L.St)(H P:Hp)(α : Aa Af)(o:Co):Prop where
 inv:Inv Y pins σ H s
 rel:Rel Y.K H P α S
 env:qZ Y.K P α σ env
 same:qG P1 P
 pre:α1<+:α
 fpn:∀ b∈fp,H b=none
 acn:H acc=none
 at':s.heap.get? acc=Ab o
 acc:mK Y.K P α ds o
noncomputable def wM (cells:Aa (Ap × Af)):Aa (Ap × Ia)->Aa (Ap × Af)->Aa (Ap × Af)
 |[],cs=>cs
 |(n,k)::r,cs=>wM cells r (if k == .free then (n,(cells.lookup n).getD 0)::cs else cs)
theorem gX {env:Ja}{scope:Eu}(h:∀ y∈scope.names,y.2=.free->∃ c,env.cells.lookup y.1=Ab c):Se scope env=pure (wM env.cells scope.names []):=by
 have go:∀ (l:Aa (Ap × Ia)) (cs:Aa (Ap × Af)),(∀ y∈l,y.2=.free->∃ c,env.cells.lookup y.1=Ab c) ->
   (forIn l cs λx cs=>match x with|(name,kind)=>if (kind == Gq)=true then do let a <- cellOf env name;pure (Kr ((name,a)::cs)) else pure (Kr cs):Ky (Aa (Ap × Af)))=pure (wM env.cells l cs):=by
  intro l
  induction l with
  |nil=>intro cs _;rfl
  |cons y r ih =>
   intro cs hl;obtain⟨n,k⟩:=y;rw[Mn];by_cases hk:k=.free
   .subst hk
    obtain⟨c,hc⟩:=hl (n,.free) Dj rfl;have hc':env.cells.lookup n=Ab c:=hc;have e:cellOf env n=pure c:=by unfold cellOf;rw[hc']
    simp only[Gk,Dw,e,pure_bind];rw[ih _ λz hz=>hl z (Cd _ hz)];simp only[wM,Gk,Dw,hc',Oq]
   .have hb:(k == Gq)=false:=by simpa using hk
    simp only[hb,By,Ef,pure_bind];rw[ih _ λz hz=>hl z (Cd _ hz)];simp only[wM,hb,By,Ef]
 unfold Se;have:=go scope.names [] h;simp only[bind_pure];exact this
theorem jX {x:Ap}{c:Af}:∀ (l:Aa (Ap × Ia)) (cs:Aa (Ap × Af)),(wM cells l cs).lookup x=Ab c->cs.lookup x=Ab c\/((x,Gq)∈l/\c=(cells.lookup x).getD 0)
 |[],cs,h=>.inl h
 |(n,k)::r,cs,h=>by
  rcases jX r _ h with h|⟨h1,h2⟩
  .by_cases hk:k=.free
   .subst hk
    simp only[Gk,Dw,Kb] at h;cases hb:x == n with
    |true =>
     rw[hb] at h;have e:x=n:=by simpa using hb
     subst e;exact .inr ⟨Dj,(Ct h).symm⟩
    |false=>rw[hb] at h;exact .inl h
   .have hb:(k == Gq)=false:=by simpa using hk
    simp only[hb,By,Ef] at h;exact .inl h
  .exact .inr ⟨Cd _ h1,h2⟩
theorem jO {x:Ap}:∀ (l:Aa (Ap × Ia)) (cs:Aa (Ap × Af)),((x,Gq)∈l\/∃ c,cs.lookup x=Ab c)->∃ c,(wM cells l cs).lookup x=Ab c
 |[],cs,h=>by
  rcases h with h|h
  .cases h
  .exact h
 |(n,k)::r,cs,h=>by
  refine jO r _ ?_;rcases h with h|⟨c,h⟩
  .rcases Aw.mp h with e|h
   .cases e
    exact .inr ⟨(cells.lookup x).getD 0,by simp only[Gk,Dw,Kb]⟩
   .exact .inl h
  .by_cases hk:k=.free
   .subst hk
    simp only[Gk,Dw,Kb];cases hb:x == n with
    |true=>exact .inr ⟨_,rfl⟩
    |false=>exact .inr ⟨c,h⟩
   .have hb:(k == Gq)=false:=by simpa using hk
    simp only[hb,By,Ef];exact .inr ⟨c,h⟩
structure CompSc (scX:Eu)(NX:Aa Ap)(scope:Eu)(N':Aa Ap)(cap:Aa (Ak Ai)):Prop where
 kind:scope.kind=.function
 names:∀ y∈scope.names,y.2=.local -> scope.names.lookup y.1=Ab .local
 cel:∀ y∈scope.names,y.2=.cell->scope.names.lookup y.1=Ab .cell
 free:∀ y∈scope.names,y.2=.free->scX.names.lookup y.1=Ab .cell\/scX.names.lookup y.1=Ab .free
 fr2:∀ y∈scope.names,y.2=.free->scope.names.lookup y.1=Ab .free
 len:cap.length=N'.length
 caps:((cap.zip N').all λp=>match p.1 with|none=>true|some i=>NX[i]? == Ab p.2&&scope.names.lookup p.2 == Ab .free)=true
 nd:N'.Nodup
noncomputable def vG (cap:Aa (Ak Ai))(σ : _L.St):_L.St:=cap.map λo=>match o with
 |none=>none
 |some i=>(σ[i]?).join
noncomputable def x9 (cap:Aa (Ak Ai))(env:qF):qF:=cap.map λo=>match o with
 |none=>none
 |some i=>(env[i]?).join
theorem XN {σ:_L.St}{env:qF}(re:qZ K P α σ env)(cap:Aa (Ak Ai)):qZ K P α (vG cap σ) (x9 cap env):=by
 refine⟨by simp[vG,x9],λj d e=>?_⟩
 unfold x9 at e;unfold vG;rw[Dp] at e ⊢;cases q:cap[j]? with
 |none=>rw[q] at e;cases e
 |some o =>
  rw[q] at e;cases o with
  |none=>cases e
  |some i =>
   have e':(env[i]?).join=Ab d:=by simpa using e
   cases z:env[i]? with
   |none=>rw[z] at e';cases e'
   |some w =>
    rw[z] at e';have e'':w=Ab d:=e';subst e'';obtain⟨v,h1,h2⟩:=re.2 i d z;exact⟨v,by simp[h1],h2⟩
noncomputable def qY (X:Cx)(N':Aa Ap)(scope:Eu)(cl:Aa (Ap × Af))(C:Af)(ex:Aa Af)(s₀:Ag)(H₀:Hp):Cx:=
 { X with N:=N',s₀:=s₀,H₀:=H₀,env:=compEnvC scope cl C X.env,outer:=X.stack,stack:=X.stack,ex:=ex,fn:=λx=>decide (scope.names.lookup x=Ab .cell),pn:=[],xe:=λ_ _=>Fh }
theorem jD {scope:Eu}{env:Ja}:∀ {names:Aa (Ap × Ia)} {x:Ap} {k:Ia},
  (names.map λ(n,k)=>if (k == Gq&&env.scope.kind == .function&&env.kindOf n == Ab .cell) then (n,Os) else (n,k)).lookup x=Ab k ->
  names.lookup x=Ab k\/(k=.cell/\names.lookup x=Ab .free)
 |[],_,_,h=>by simp at h
 |(n,k0)::r,x,k,h=>by
  rw[Dv,Kb] at h;rw[Kb];dsimp only at h;cases hb:(k0 == Gq&&env.scope.kind == .function&&env.kindOf n == Ab .cell) with
  |true =>
   rw[hb] at h;simp only[Dw] at h;cases hx:x == n with
   |true =>
    rw[hx] at h;have e:Os=k:=Ct h;have hk:k0=.free:=by
     have:=(Az _ _).mp hb;have:=(Az _ _).mp this.1;simpa using this.1
    subst hk;exact .inr ⟨e.symm,rfl⟩
   |false=>rw[hx] at h;exact jD (scope:=scope) h
  |false =>
   rw[hb] at h;simp only[By,Ef] at h;cases hx:x == n with
   |true=>rw[hx] at h;exact .inl h
   |false=>rw[hx] at h;exact jD (scope:=scope) h
section
variable {X:Cx}{scope:Eu}{N':Aa Ap}{cap:Aa (Ak Ai)}{pins:Aa (Af × Co)}{σ : _L.St}{H2:Hp}{s2:Ag}{fp:Aa Af}
theorem kS (S:CompSc X.env.scope X.N scope N' cap){x:Ap}{k:Ia}(h:(relabel scope X.env).names.lookup x=Ab k):scope.names.lookup x=Ab k\/(k=.cell/\scope.names.lookup x=Ab .free):=jD (scope:=scope) h
theorem Q2 (S:CompSc X.env.scope X.N scope N' cap)(ok:X.Ok){x:Ap}{c:Af}(h:(wM X.env.cells scope.names []).lookup x=Ab c):X.env.cells.lookup x=Ab c/\(x,Gq)∈scope.names:=by
 rcases jX _ _ h with h|⟨hm,hc⟩
 .cases h
 .have:=S.free _ hm rfl
  obtain⟨c',hc'⟩:=ok.has x this;rw[hc',Oq] at hc;rw[hc',hc];exact⟨rfl,hm⟩
noncomputable def VE (scope:Eu)(C:Af):Aa (Ap × Af):=Hv (C+1) scope.names []
noncomputable def kR (X:Cx)(scope:Eu)(C:Af):Aa (Ap × Af):=Hv (C+1) scope.names (wM X.env.cells scope.names [])
theorem yR:∀ (names:Aa (Ap × Ia)) (lo:Ai) (acc:Aa (Ap × Af)),Hv lo names acc=Hv lo names [] ++ acc
 |[],_,_=>rfl
 |(n,k)::r,lo,acc=>by
  unfold Hv
  split
  .rw[yR r _ ((n,lo)::acc),yR r _ [(n,lo)],Cp];rfl
  .exact yR r lo acc
set_option tactic.hygienic true in
theorem p9:∀ (names:Aa (Ap × Ia)) (lo:Ai) {n:Ap} {c:Af},(n,c)∈Hv lo names [] -> (n,Os)∈names
 |[],_,_,_,h=>by cases h
 |(n0,k)::r,lo,n,c,h=>by
  unfold Hv at h
  split at h
  .rename_i hk
   rw[yR] at h;rcases Cq.mp h with h|h
   .exact Cd _ (p9 r _ h)
   .have e:(n,c)=(n0,lo):=by simpa using h
    cases e;have:k=Os:=by simpa using hk
    rw[this];exact Dj
  .exact Cd _ (p9 r _ h)
theorem xH (S:CompSc X.env.scope X.N scope N' cap)(ok:X.Ok){C:Af}{x:Ap}{c:Af}(h:(kR X scope C).lookup x=Ab c):((x,c)∈VE scope C/\scope.names.lookup x=Ab .cell)\/(X.env.cells.lookup x=Ab c/\(x,Gq)∈scope.names):=by
 unfold kR at h;rw[yR,Wt] at h;cases q:(Hv (C+1) scope.names []).lookup x with
 |some c' =>
  rw[q] at h;cases h;have m:=Fq q;exact .inl ⟨m,S.cel _ (p9 _ _ m) rfl⟩
 |none =>
  rw[q] at h;exact .inr (Q2 S ok h)
theorem sC (S:CompSc X.env.scope X.N scope N' cap)(ok:X.Ok){C:Af}{x:Ap}(h:scope.names.lookup x=Ab .cell\/scope.names.lookup x=Ab .free):∃ c,(kR X scope C).lookup x=Ab c:=by
 unfold kR;rw[yR,Wt];rcases h with h|h
 .have:=Ko scope.names (C+1) [] (x:=x) (.inl h)
  obtain⟨c,hc⟩:=Jx.mp this;exact⟨c,by rw[hc];rfl⟩
 .obtain⟨c',hc'⟩:=jO (cells:=X.env.cells) scope.names [] (.inl (Fq h))
  rw[hc'];cases (Hv (C+1) scope.names []).lookup x with
  |none=>exact⟨c',rfl⟩
  |some c=>exact⟨c,rfl⟩
theorem KA (S:CompSc X.env.scope X.N scope N' cap)(I2:Inv X pins σ H2 s2)(hf:∀ b∈fp,xC X pins H2 b)(hlt:∀ b∈fp,b<s2.heap.objs.size)(hC:s2.heap.objs.size<=C){h1:Bq}(co:CellsOk h1 (C+1) (VE scope C)) :
  (qY X N' scope (kR X scope C) C fp s2 H2).Ok where
 mod:=I2.ok.mod
 kind:=S.kind
 glob:=I2.ok.glob
 blt:=I2.ok.blt
 above:=hC
 inj:=λx y c h1 h2=>by
  rcases xH S I2.ok h1 with⟨m1,_⟩|⟨m1,_⟩ <;> rcases xH S I2.ok h2 with⟨m2,_⟩|⟨m2,_⟩
  .exact PySem.name_of_addr co.apart m1 m2
  .obtain⟨v,ob,hob,_⟩:=I2.cell y c m2
   exact absurd (Bb (Ay hob) hC) (NE.mpr (Fd (co.empty x c m1).2))
  .obtain⟨v,ob,hob,_⟩:=I2.cell x c m1
   exact absurd (Bb (Ay hob) hC) (NE.mpr (Fd (co.empty y c m2).2))
  .exact I2.ok.inj x y c m1 m2
 has:=λx hx=>by
  have hx':(relabel scope X.env).names.lookup x=Ab .cell\/(relabel scope X.env).names.lookup x=Ab .free:=hx;refine sC S I2.ok ?_;rcases hx' with h|h
  .rcases kS S h with h|⟨_,h⟩
   .exact .inl h
   .exact .inr h
  .rcases kS S h with h|⟨z,_⟩
   .exact .inr h
   .cases z
 cab:=λx c h h2=>by
  have hx:scope.names.lookup x=Ab .cell:=Cw h;rcases xH S I2.ok h2 with⟨m,_⟩|⟨_,m⟩
  .exact DL hC (Fd (co.empty x c m).2)
  .have:=S.fr2 _ m rfl
   have this':scope.names.lookup x=Ab .free:=this;rw[hx] at this';cases this'
 hd:=I2.ok.hd
 frames:=I2.ok.frames
 stk:=.inl rfl
 exf:=λb hb=>⟨Ci (Bb (hlt b hb) hC),λx c h=>by
  rcases xH S I2.ok h with⟨m,_⟩|⟨m,_⟩
  .exact Gb (Ci (Im (Bb (hlt b hb) hC) (co.empty x c m).2))
  .exact(hf b hb).2.2.2.2.1 x c m⟩
 bs:=I2.bs
 bsz:=DL I2.ok.bsz I2.sz
 noex:=λb o e hb=>by
  obtain⟨_,_,_,h,_⟩:=hf b hb;rcases h with h|h
  .exact I2.ok.noex b o e h
  .exact absurd (Bb (Ay e) (DL I2.ok.bsz h)) (Et _)
 exfs:=λb hb hb2=>by
  obtain⟨_,h1,h2,_⟩:=hf b hb;rcases Aw.mp (I2.stkSub b hb2) with z|z
  .exact h1 z
  .exact h2 z
 funs:=I2.stack
 frf:=I2.stkFree
theorem WL {s4:Ag}{m:Ap->Ak Ac}(S:CompSc X.env.scope X.N scope N' cap)(I2:Inv X pins σ H2 s2)(hf:∀ b∈fp,xC X pins H2 b)(hlt:∀ b∈fp,b<s2.heap.objs.size)(hC:s2.heap.objs.size<=C)
  (hn:s4.heap.Ns C m) (os:s4.os=s2.os) (gens:s4.gens=s2.gens) (keep:∀ b o,s2.heap.get? b=Ab o->s4.heap.get? b=Ab o) (co:CellsOk s4.heap (C+1) (VE scope C)) :
  Inv (qY X N' scope (kR X scope C) C fp s2 H2) [] (vG cap σ) H2 s4 where
 ok:=KA S I2 hf hlt hC co
 os:=os
 bare:=gens▸I2.bare
 base:=Un.kept keep
 loc:=by
  refine⟨m,hn,λj x v h1 h2 h3=>?_⟩;have h1':N'[j]? = Ab x:=h1;unfold vG at h2;rw[Dp] at h2;cases q:cap[j]? with
  |none=>rw[q] at h2;cases h2
  |some o =>
   rw[q] at h2;cases o with
   |none=>cases h2
   |some i =>
    have e':(σ[i]?).join=Ab v:=by simpa using h2
    have hσ:σ[i]? = Ab (Ab v):=by
     cases z:σ[i]? with
     |none=>rw[z] at e';cases e'
     |some w=>rw[z] at e';have:w=Ab v:=e';rw[this]
    have hz:(Ab i,x)∈cap.zip N':=by
     refine La.mpr ⟨j,?_⟩;rw[Ra];exact⟨q,h1'⟩
    have hc:=Cn.mp S.caps _ hz;simp only[Az,Oa] at hc;obtain⟨hN,hfr⟩:=hc;have hk:=S.free _ (Fq hfr) rfl;obtain⟨mo,hmo,hl⟩:=I2.loc;have vis:Vis X.env.scope x:=by
     rcases hk with k|k
     .exact .inr (.inl k)
     .exact .inr (.inr k)
    obtain⟨u,ru,lk⟩:=hl i x v hN hσ vis;refine⟨u,ru,?_⟩;rcases lk with⟨kl,_⟩|⟨_,c,hcl,hcell⟩
    .have kl':X.env.scope.names.lookup x=Ab .local:=kl
     rcases hk with k|k
     .have k':X.env.scope.names.lookup x=Ab .cell:=k
      rw[kl'] at k';cases k'
     .have k':X.env.scope.names.lookup x=Ab .free:=k
      rw[kl'] at k';cases k'
    .obtain⟨c',hc'⟩:=sC S I2.ok (C:=C) (.inr hfr)
     have e2:X.env.cells.lookup x=Ab c':=by
      rcases xH S I2.ok hc' with⟨_,z⟩|⟨z,_⟩
      .rw[hfr] at z;cases z
      .exact z
     rw[hcl] at e2;cases e2;refine .inr ⟨?_,c,hc',?_⟩
     .have h3':Vis (relabel scope X.env) x:=h3
      rcases h3' with h|h|h
      .rcases kS S h with h|⟨z,_⟩
       .rw[hfr] at h;cases h
       .cases z
      .exact .inl h
      .exact .inr h
     .obtain⟨ob,hob,hd⟩:=hcell
      exact⟨ob,keep c ob hob,hd⟩
 cell:=λx c h=>by
  rcases xH S I2.ok h with⟨m,_⟩|⟨m,_⟩
  .exact⟨none,(co.empty x c m).1⟩
  .obtain⟨v,ob,hob,hd⟩:=I2.cell x c m
   exact⟨v,ob,keep c ob hob,hd⟩
 free:=I2.hok.fresh hC
 freeC:=λx c h=>by
  rcases xH S I2.ok h with⟨m,_⟩|⟨m,_⟩
  .exact I2.hok.fresh (DL hC (Fd (co.empty x c m).2))
  .exact I2.freeC x c m
 pin:=λp hp=>absurd (show p∈([]:Aa (Af × Co)) from hp) (by simp)
 hok:=I2.hok.kept keep
 len:=by
  show (vG cap σ).length=N'.length;simp[vG,S.len]
end
theorem QZ {P:Bd}{h:Bq}{a:Af}{o:HO}(x:HOk P w H h)(hn:H a=none)(new:z9 P w (upd H a o) h a o):HOk P w (upd H a o) h:=λb u e=>by
 by_cases hb:b=a
 .subst hb;rw[qU] at e;cases e;exact new
 .rw[qI hb] at e
  exact(x b u e).stay (λc v _ q=>q) (λc q=>by rw[qI (qT q hn)];exact q) λc xs q=>by rw[qI (qT q hn)];exact q
theorem QY {P:Bd}{h h':Bq}(x:HOk P w H h)(hn:H C=none)(k:∀ b o,b≠C->h.get? b=Ab o->h'.get? b=Ab o):HOk P w H h':=λb u e =>
 (x b u e).stay (λc v hc q=>k c v (by
  rintro rfl;rcases hc with z|z
  .subst z;rw[hn] at e;cases e
  .rw[hn] at z;cases z) q) (λ_ q=>q) λ_ _ q=>q
section
variable {X:Cx}{elt tg iter:Bw}{ifs:Aa Bw}{scope:Eu}{pos:Fl}{N':Aa Ap}{cap:Aa (Ak Ai)}{fi:DI}{g:DG}{t:DT}{fe:DE}
def pN (X:Cx)(pins:Aa (Af × Co))(σ : _L.St)(P1:Hp)(α1:Aa Af)(ds:Aa D)(SF:Sto)(acc C:Af)(s:Ag):Prop:=
 ∃ (H' P':Hp) (α' : Aa Af) (vs:Aa V),Inv X pins σ (upd H' acc (.lst vs)) s/\Rel X.K H' P' α' SF/\H' acc=none/\qG P1 P'/\α1<+:α'/\qE X.K P' α' ds vs/\H' C=none
theorem WK {Y:Cx}{pins:Aa (Af × Co)}{σ σ':_L.St}{H2:Hp}{s2 s':Ag}{fp:Aa Af}{acc:Af}{H' P':Hp}{α':Aa Af}{envF:qF}{SF:Sto}{cl:Aa (Ap × Af)}(I2:Inv X pins σ H2 s2)
  (hf:∀ b∈fp,xC X pins H2 b) (hY:Y=qY X N' scope cl C fp s2 H2) (hC:s2.heap.objs.size<=C) (hA:s2.heap.objs.size<=acc) (hne:acc≠C) (st:TurnSt Y [] P1 α1 fp acc envF SF ds s' σ' H' P' α' o)
  {h':Bq} (sb:Fe C s'.heap h'):pN X pins σ P1 α1 ds SF acc C { s' with heap:=h' }:=by
 subst hY;obtain⟨its,n,vs,rfl,rv,rp,hz⟩:=st.acc;have kC:∀ b o,b≠C->s'.heap.get? b=Ab o->h'.get? b=Ab o:=λb o hb e=>(sb.2 b hb).trans e;have nC:∀ b o,s2.heap.get? b=Ab o->b≠C:=λb o e=>Ci (Bb (Ay e) hC);have nA:∀ b o,s2.heap.get? b=Ab o->b≠acc:=λb o e=>Ci (Bb (Ay e) hA);have base:Un (frs X.stack) fp H2 H' s2.heap s'.heap:=st.inv.base;have nt:∀ b u,H' b=Ab u->b≠acc:=λb u e=>qT e st.acn;have un:Un (frs X.stack) fp H2 (upd H' acc (.lst vs)) s2.heap h':=by
  refine⟨λb ob q hn hb hx=>kC b ob (nC b ob q) (base.keep b ob q hn hb hx),λb ob q hn hb hx=>?_,λb ob q hn hx=>?_,λb ob q hx=>?_,λb xs q=>?_,λb ob u q=>?_,λb ps q=>?_⟩
  .obtain⟨sl,e⟩:=base.slot b ob q hn hb hx
   exact⟨sl,kC b _ (nC b ob q) e⟩
  .rw[qI (nA b ob q)];exact base.free b ob q hn hx
  .obtain⟨o',e⟩:=base.there b ob q hx
   exact⟨o',kC b o' (nC b ob q) e⟩
  .have:=base.tups b xs q;rw[qI (nt _ _ this)];exact this
  .have:=base.frzs b ob u q;rw[qI (nt _ _ this)];exact this
  .obtain⟨more,e⟩:=base.tbls b ps q
   exact⟨more,by rw[qI (nt _ _ e)];exact e⟩
 have hok':HOk X.prog X.w H' h':=QY st.inv.hok st.inv.free kC;have hat:h'.get? acc=Ab { cls:=.type "list",data:=.seq its.toArray n }:=kC acc _ hne st.at';have hok:HOk X.prog X.w (upd H' acc (.lst vs)) h':=QZ hok' st.acn ⟨by rw[<- rp.length,<- zQ];exact hz,its,n,rv,hat⟩
 refine⟨H',P',α',vs,?_,st.rel,st.acn,st.same,st.pre,rp,st.inv.free⟩;exact I2.call' (s':={ s' with heap:=h' }) (ch:=fp) (st.inv.os) un hok st.inv.bare λb hb=>by
  obtain⟨_,h1,h2,h3,h4,h5⟩:=hf b hb;exact⟨h3,h1,h4,h5⟩
theorem h8 (S:CompSc X.env.scope X.N scope N' cap)(ok:X.Ok):Se scope X.env=pure (wM X.env.cells scope.names []):=gX λy hy hk=>ok.has y.1 (S.free y hy hk)
theorem GD {pins:Aa (Af × Co)}{σ:_L.St}{SF:Sto}{acc:Af}{Q:VK}(c:pN X pins σ P1 α1 ds SF acc C s)(ok:OkV X P1 α1 Q (.lst ds) SF):EP X pins σ Q (.ref acc) s:=by
 obtain⟨H',P',α',vs,I,r,hn,e1,e2,rp,_⟩:=c;exact⟨.ref acc,_,I,rfl,xV r hn rp λv H2 P2 α2 r2 q1 q2 q3=>ok v H2 P2 α2 r2 (e1.trans q1) (e2.trans q2) q3⟩
end
end _D
section
namespace _D
open PySem PySem.Spec PyProof.Rows _L PySem.SeqAt
noncomputable def b01 (b:Aq):Al:=if b then 1 else 0
mutual
noncomputable def eqD:D->D->Aq
 |.non,.non=>true
 |.bl a,.bl b=>a == b
 |.bl a,.int b=>b01 a == b
 |.int a,.bl b=>a == b01 b
 |.int a,.int b=>a == b
 |.str a,.str b=>a == b
 |.tup xs,.tup ys=>w4 xs ys
 |.lst xs,.lst ys=>w4 xs ys
 |_,_=>false
noncomputable def w4:Aa D->Aa D->Aq
 |[],[]=>true
 |x::xs,y::ys=>eqD x y&&w4 xs ys
 |_,_=>false
end
noncomputable def pl:Ai->D->Aq
 |_,.non=>true
 |_,.bl _=>true
 |_,.int _=>true
 |_,.str _=>true
 |n+1,.tup xs=>xs.all (pl n)
 |n+1,.lst xs=>xs.all (pl n)
 |_,_=>false
theorem QM (x y:D)(xs ys:Aa D):w4 (x::xs) (y::ys)=(eqD x y&&w4 xs ys):=rfl
theorem yL:∀ (xs ys:Aa D),w4 xs ys=((De (min xs.length ys.length)).all (λj=>eqD (xs.getD j .non) (ys.getD j .non))&&xs.length == ys.length)
 |[],[]=>rfl
 |[],y::ys=>rfl
 |x::xs,[]=>rfl
 |x::xs,y::ys=>by
  have ih:=yL xs ys;rw[QM,ih,Bj,Bj,Nat.succ_min_succ,Ks,Mc,Ni,Bool.and_assoc];have e:(xs.length+1 == ys.length+1)=(xs.length == ys.length):=by simp
  rw[e];rfl
theorem YA {xs ys:Aa D}(h:xs.length≠ys.length):w4 xs ys=false:=by
 rw[yL];simp[h]
theorem mY (xs ys:Aa D):eqD (.tup xs) (.tup ys)=w4 xs ys:=rfl
theorem mX (xs ys:Aa D):eqD (.lst xs) (.lst ys)=w4 xs ys:=rfl
section
variable {X:Cx}{pins:Aa (Af × Co)}{σ : _L.St}{H P:Hp}{α : Aa Af}{S:Sto}{s:Ag}
inductive Kd (X:Cx)(P:Hp)(α : Aa Af)(s:Ag):D->Ac->Prop where
 |non:Kd X P α s .non .none
 |bl (b:Aq):Kd X P α s (.bl b) (.bool b)
 |int (i:Al) (t:Qt):Kd X P α s (.int i) (.int i t)
 |str (x:Ap) (t:Qt):Kd X P α s (.str x) (.str x t)
 |tup (a:Af) (xs:Aa D) (its:Aa Ac) (vs:Aa V) (rp:qE X.K P α xs vs) (rv:qK vs its) (h:s.heap.IsTuple a its.toArray) (q:SqT X.K P a vs):Kd X P α s (.tup xs) (.ref a)
 |lst (a:Af) (xs:Aa D) (its:Aa Ac) (vs:Aa V) (rp:qE X.K P α xs vs) (rv:qK vs its) (h:s.heap.IsList a its.toArray) (q:SqX X.K P a vs):Kd X P α s (.lst xs) (.ref a)
theorem yG (I:Inv X pins σ H s)(r:Rel X.K H P α S){n:Ai}{d:D}{v:V}{u:Ac}(h:pl n d=true)(p:Rep X.K P α d v)(rv:qL v u):Kd X P α s d u:=by
 cases d with
 |non=>simp only[Rep] at p;subst p;cases rv;exact .non
 |bl b=>simp only[Rep] at p;subst p;cases rv;exact .bl b
 |int i=>simp only[Rep] at p;subst p;obtain⟨t,rfl⟩:=rv;exact .int i t
 |str x=>simp only[Rep] at p;subst p;obtain⟨t,rfl⟩:=rv;exact .str x t
 |tup xs =>
  simp only[Rep] at p;obtain⟨a,vs,rfl,q,t⟩:=p;cases rv;obtain⟨its,r1,p1,_⟩:=I.tuple (xI r.sub q);exact .tup a xs its vs t r1 p1 q
 |lst xs =>
  simp only[Rep] at p;obtain⟨a,vs,rfl,q,t⟩:=p;cases rv;obtain⟨its,r1,p1,_⟩:=I.list ((xE r.sub q).l);exact .lst a xs its vs t r1 p1.isList q
 |_=>cases n <;> exact Hf h
theorem w8 {ds:Aa D}{vs:Aa V}{its:Aa Ac}(rp:qE X.K P α ds vs)(rv:qK vs its){j:Ai}(h:j<its.toArray.size):∃ v,Rep X.K P α (ds.getD j .non) v/\qL v its.toArray[j]/\ds.getD j .non∈ds:=by
 have l1:=rp.length;have l2:=rv.length;have hj:j<its.length:=by simpa using h
 have hd:j<ds.length:=by lia
 obtain⟨v,e1,p⟩:=rp.get (Ar hd);obtain⟨u,e2,q⟩:=rv.get e1;have e3:its.toArray[j]=u:=by
  have:its[j]? = Ab its[j]:=Ar hj;rw[this] at e2;simpa using Ct e2
 have e4:ds.getD j .non=ds[j]:=by simp[Kh,hd]
 rw[e3,e4];exact⟨v,p,q,Sf hd⟩
theorem xW {n:Ai}{ds:Aa D}(h:ds.all (pl n)=true){d:D}(hd:d∈ds):pl n d=true:=Cn.mp h d hd
theorem cF {h:Bq}{a:Af}{xs ys:Ax Ac}(h1:h.IsTuple a xs)(h2:h.IsTuple a ys):xs=ys:=by
 obtain⟨o,e,_,n,d⟩:=h1;obtain⟨o',e',_,n',d'⟩:=h2;cases e.symm.trans e';cases d.symm.trans d';rfl
theorem cE {h:Bq}{a:Af}{xs ys:Ax Ac}(h1:h.IsList a xs)(h2:h.IsList a ys):xs=ys:=by
 obtain⟨o,e,_,n,d⟩:=h1;obtain⟨o',e',_,n',d'⟩:=h2;cases e.symm.trans e';cases d.symm.trans d';rfl
theorem iR {h:Bq}{a:Af}{xs ys:Ax Ac}(h1:h.IsTuple a xs)(h2:h.IsList a ys):Fh:=by
 obtain⟨o,e,c,_⟩:=h1;obtain⟨o',e',c',_⟩:=h2;cases e.symm.trans e';exact absurd (c.symm.trans c') (by decide)
inductive Seqs (X:Cx)(P:Hp)(α : Aa Af)(xs ys:Aa D)(its its2:Aa Ac):Prop
 |mk (vs ws:Aa V) (rp:qE X.K P α xs vs) (rv:qK vs its) (rp2:qE X.K P α ys ws) (rv2:qK ws its2):Seqs X P α xs ys its its2
theorem Seqs.len1 {xs ys:Aa D}{its its2:Aa Ac}(q:Seqs X P α xs ys its its2):xs.length=its.length:=by
 obtain⟨vs,ws,rp,rv,_,_⟩:=q;exact rp.length.trans rv.length
theorem Seqs.len2 {xs ys:Aa D}{its its2:Aa Ac}(q:Seqs X P α xs ys its its2):ys.length=its2.length:=by
 obtain⟨vs,ws,_,_,rp,rv⟩:=q;exact rp.length.trans rv.length
inductive SameR (X:Cx)(P:Hp)(α : Aa Af):D->D->Prop
 |eq {d d':D} (h:eqD d d'=true):SameR X P α d d'
 |tt (xs ys:Aa D) (its:Aa Ac) (q:Seqs X P α xs ys its its):SameR X P α (.tup xs) (.tup ys)
 |ll (xs ys:Aa D) (its:Aa Ac) (q:Seqs X P α xs ys its its):SameR X P α (.lst xs) (.lst ys)
theorem aH {d d':D}{u:Ac}(k1:Kd X P α s d u)(k2:Kd X P α s d' u):SameR X P α d d':=by
 cases k1 with
 |non=>cases k2;exact .eq rfl
 |bl b=>cases k2;exact .eq (Gk _)
 |int i t=>cases k2;exact .eq (Gk _)
 |str x t=>cases k2;exact .eq (Gk _)
 |tup a xs its vs rp rv h q =>
  cases k2 with
  |tup _ ys its2 ws rp2 rv2 h2 q2 =>
   cases cF h h2;exact .tt xs ys its ⟨vs,ws,rp,rv,rp2,rv2⟩
  |lst _ ys its2 ws rp2 rv2 h2 q2=>exact(iR h h2).elim
 |lst a xs its vs rp rv h q =>
  cases k2 with
  |lst _ ys its2 ws rp2 rv2 h2 q2 =>
   cases cE h h2;exact .ll xs ys its ⟨vs,ws,rp,rv,rp2,rv2⟩
  |tup _ ys its2 ws rp2 rv2 h2 q2=>exact(iR h2 h).elim
theorem nZ (I:Inv X pins σ H s)(r:Rel X.K H P α S){m:Ai}(ih:∀ (d d':D) (u:Ac),pl m d=true->pl m d'=true->Kd X P α s d u->Kd X P α s d' u->eqD d d'=true){xs ys:Aa D}{its:Aa Ac}(h1:xs.all (pl m)=true)(h2:ys.all (pl m)=true)(q:Seqs X P α xs ys its its):w4 xs ys=true:=by
 obtain⟨vs,ws,rp,rv,rp2,rv2⟩:=q;have l1:=rp.length.trans rv.length;have l2:=rp2.length.trans rv2.length;rw[yL,l1,l2,Xe,Az];refine⟨Cn.mpr λj hj=>?_,BEq.rfl⟩;have hj:j<its.toArray.size:=Fk.mp hj;obtain⟨w1,y1,z1,m1⟩:=w8 rp rv hj;obtain⟨w2,y2,z2,m2⟩:=w8 rp2 rv2 hj;exact ih _ _ _ (xW h1 m1) (xW h2 m2) (yG I r (xW h1 m1) y1 z1) (yG I r (xW h2 m2) y2 z2)
theorem hZ (I:Inv X pins σ H s)(r:Rel X.K H P α S):∀ (n:Ai) (d d':D) (u:Ac),pl n d=true->pl n d'=true->Kd X P α s d u->Kd X P α s d' u->eqD d d'=true:=by
 intro n
 induction n with
 |zero =>
  intro d d' u h1 h2 k1 k2;cases aH k1 k2 with
  |eq h=>exact h
  |tt=>exact Hf h1
  |ll=>exact Hf h1
 |succ m ih =>
  intro d d' u h1 h2 k1 k2;cases aH k1 k2 with
  |eq h=>exact h
  |tt xs ys its q=>exact(mY xs ys).trans (nZ I r ih h1 h2 q)
  |ll xs ys its q=>exact(mX xs ys).trans (nZ I r ih h1 h2 q)
structure E3 (A:Bt)(s:Ag)(u u':Ac)(b:Aq):Prop where
 eq:EqAt A s u u' b
 rc:RcAt A s u u' b
 ne:RcNeAt A s u u' (!b)
inductive EqR (X:Cx)(P:Hp)(α : Aa Af)(A:Bt)(s:Ag):D->D->Ac->Ac->Prop
 |of {d d':D} {u u':Ac} (b:Aq) (e:eqD d d'=b) (h:E3 A s u u' b):EqR X P α A s d d' u u'
 |tt (a b:Af) (xs ys:Aa D) (its its2:Aa Ac) (ha:s.heap.IsTuple a its.toArray) (hb:s.heap.IsTuple b its2.toArray) (q:Seqs X P α xs ys its its2):EqR X P α A s (.tup xs) (.tup ys) (.ref a) (.ref b)
 |ll (a b:Af) (xs ys:Aa D) (its its2:Aa Ac) (ha:s.heap.IsList a its.toArray) (hb:s.heap.IsList b its2.toArray) (q:Seqs X P α xs ys its its2):EqR X P α A s (.lst xs) (.lst ys) (.ref a) (.ref b)
theorem UT {A:Bt}{d d':D}{u u':Ac}(hu:A.units<Fi)(k1:Kd X P α s d u)(k2:Kd X P α s d' u'):EqR X P α A s d d' u u':=by
 cases k1 with
 |non  =>
  cases k2 with
  |non  => exact .of _ rfl ⟨Aa3 _,RcAt.none_none,RcNeAt.none_none⟩
  |bl b=>exact .of _ rfl ⟨EqAt.none_bool b,RcAt.none_bool b,RcNeAt.none_bool b⟩
  |int b tb=>exact .of _ rfl ⟨EqAt.none_int b tb,RcAt.none_int b tb,RcNeAt.none_int b tb⟩
  |str b tb=>exact .of _ rfl ⟨EqAt.none_str b tb,RcAt.none_str b tb,RcNeAt.none_str b tb⟩
  |tup b ys its2 ws rp2 rv2 hb qb=>exact .of _ rfl ⟨EqAt.none_tuple hb hu,RcAt.none_tuple hb hu,RcNeAt.none_tuple hb hu⟩
  |lst b ys its2 ws rp2 rv2 hb qb=>exact .of _ rfl ⟨EqAt.none_list hb hu,RcAt.none_list hb hu,RcNeAt.none_list hb hu⟩
 |bl a =>
  cases k2 with
  |non  => exact .of _ rfl ⟨EqAt.bool_none a,RcAt.bool_none a,RcNeAt.bool_none a⟩
  |bl b=>exact .of _ rfl ⟨EqAt.bool_bool a b,RcAt.bool_bool a b,RcNeAt.bool_bool a b⟩
  |int b tb=>exact .of _ rfl ⟨EqAt.bool_int a b tb,RcAt.bool_int a b tb,RcNeAt.bool_int a b tb⟩
  |str b tb=>exact .of _ rfl ⟨EqAt.bool_str a b tb,RcAt.bool_str a b tb,RcNeAt.bool_str a b tb⟩
  |tup b ys its2 ws rp2 rv2 hb qb=>exact .of _ rfl ⟨EqAt.bool_tuple a hb hu,RcAt.bool_tuple a hb hu,RcNeAt.bool_tuple a hb hu⟩
  |lst b ys its2 ws rp2 rv2 hb qb=>exact .of _ rfl ⟨EqAt.bool_list a hb hu,RcAt.bool_list a hb hu,RcNeAt.bool_list a hb hu⟩
 |int a ta =>
  cases k2 with
  |non  => exact .of _ rfl ⟨EqAt.int_none a ta,RcAt.int_none a ta,RcNeAt.int_none a ta⟩
  |bl b=>exact .of _ rfl ⟨EqAt.int_bool a ta b,RcAt.int_bool a ta b,RcNeAt.int_bool a ta b⟩
  |int b tb=>exact .of _ rfl ⟨EqAt.int_int a ta b tb,RcAt.int_int a ta b tb,RcNeAt.int_int a ta b tb⟩
  |str b tb=>exact .of _ rfl ⟨EqAt.int_str a ta b tb,RcAt.int_str a ta b tb,RcNeAt.int_str a ta b tb⟩
  |tup b ys its2 ws rp2 rv2 hb qb=>exact .of _ rfl ⟨EqAt.int_tuple a ta hb hu,RcAt.int_tuple a ta hb hu,RcNeAt.int_tuple a ta hb hu⟩
  |lst b ys its2 ws rp2 rv2 hb qb=>exact .of _ rfl ⟨EqAt.int_list a ta hb hu,RcAt.int_list a ta hb hu,RcNeAt.int_list a ta hb hu⟩
 |str a ta =>
  cases k2 with
  |non  => exact .of _ rfl ⟨EqAt.str_none a ta,RcAt.str_none a ta,RcNeAt.str_none a ta⟩
  |bl b=>exact .of _ rfl ⟨EqAt.str_bool a ta b,RcAt.str_bool a ta b,RcNeAt.str_bool a ta b⟩
  |int b tb=>exact .of _ rfl ⟨EqAt.str_int a ta b tb,RcAt.str_int a ta b tb,RcNeAt.str_int a ta b tb⟩
  |str b tb=>exact .of _ rfl ⟨EqAt.str_str a ta b tb,RcAt.str_str a ta b tb,RcNeAt.str_str a ta b tb⟩
  |tup b ys its2 ws rp2 rv2 hb qb=>exact .of _ rfl ⟨EqAt.str_tuple a ta hb hu,RcAt.str_tuple a ta hb hu,RcNeAt.str_tuple a ta hb hu⟩
  |lst b ys its2 ws rp2 rv2 hb qb=>exact .of _ rfl ⟨EqAt.str_list a ta hb hu,RcAt.str_list a ta hb hu,RcNeAt.str_list a ta hb hu⟩
 |tup a xs its vs rp rv ha qa =>
  cases k2 with
  |non  => exact .of _ rfl ⟨EqAt.tuple_none ha hu,RcAt.tuple_none ha hu,RcNeAt.tuple_none ha hu⟩
  |bl b=>exact .of _ rfl ⟨EqAt.tuple_bool b ha hu,RcAt.tuple_bool b ha hu,RcNeAt.tuple_bool b ha hu⟩
  |int b tb=>exact .of _ rfl ⟨EqAt.tuple_int b tb ha hu,RcAt.tuple_int b tb ha hu,RcNeAt.tuple_int b tb ha hu⟩
  |str b tb=>exact .of _ rfl ⟨EqAt.tuple_str b tb ha hu,RcAt.tuple_str b tb ha hu,RcNeAt.tuple_str b tb ha hu⟩
  |tup b ys its2 ws rp2 rv2 hb qb=>exact .tt a b xs ys its its2 ha hb ⟨vs,ws,rp,rv,rp2,rv2⟩
  |lst b ys its2 ws rp2 rv2 hb qb=>exact .of _ rfl ⟨EqAt.tuple_list ha hb hu,RcAt.tuple_list ha hb hu,RcNeAt.tuple_list ha hb hu⟩
 |lst a xs its vs rp rv ha qa =>
  cases k2 with
  |non  => exact .of _ rfl ⟨EqAt.list_none ha hu,RcAt.list_none ha hu,RcNeAt.list_none ha hu⟩
  |bl b=>exact .of _ rfl ⟨EqAt.list_bool b ha hu,RcAt.list_bool b ha hu,RcNeAt.list_bool b ha hu⟩
  |int b tb=>exact .of _ rfl ⟨EqAt.list_int b tb ha hu,RcAt.list_int b tb ha hu,RcNeAt.list_int b tb ha hu⟩
  |str b tb=>exact .of _ rfl ⟨EqAt.list_str b tb ha hu,RcAt.list_str b tb ha hu,RcNeAt.list_str b tb ha hu⟩
  |tup b ys its2 ws rp2 rv2 hb qb=>exact .of _ rfl ⟨EqAt.list_tuple ha hb hu,RcAt.list_tuple ha hb hu,RcNeAt.list_tuple ha hb hu⟩
  |lst b ys its2 ws rp2 rv2 hb qb=>exact .ll a b xs ys its its2 ha hb ⟨vs,ws,rp,rv,rp2,rv2⟩
theorem E3.cast {A:Bt}{u u':Ac}{b c:Aq}(e:c=b)(h:E3 A s u u' b):E3 A s u u' c:=e▸h
theorem RL {A:Bt}{a b:Af}{xs ys:Aa D}{its its2:Aa Ac}(hu:A.units<Fi)(ha:s.heap.IsTuple a its.toArray)(hb:s.heap.IsTuple b its2.toArray)(l1:xs.length=its.length)(l2:ys.length=its2.length)
  (sub:∀ j (h1:j<its.toArray.size) (h2:j<its2.toArray.size),EqAt A.in1 s its.toArray[j] its2.toArray[j] (eqD (xs.getD j .non) (ys.getD j .non))) (same:a=b->w4 xs ys=true):E3 A s (.ref a) (.ref b) (w4 xs ys):=by
 have e:w4 xs ys=((De (min its.toArray.size its2.toArray.size)).all (λj=>eqD (xs.getD j .non) (ys.getD j .non))&&its.toArray.size == its2.toArray.size):=by rw[yL,l1,l2];rfl
 have R1:=RcAt.tuples ha hb hu sub;have R2:=RcNeAt.tuples ha hb hu sub;rw[<- e] at R1 R2;refine⟨?_,R1,R2⟩;by_cases hab:a=b
 .rw[same hab,hab]
  exact Aa3 _
 .exact EqAt.of_refs hab R1
theorem RK {A:Bt}{a b:Af}{xs ys:Aa D}{its its2:Aa Ac}(hu:A.units<Fi)(ha:s.heap.IsList a its.toArray)(hb:s.heap.IsList b its2.toArray)(l1:xs.length=its.length)(l2:ys.length=its2.length)
  (sub:∀ j (h1:j<its.toArray.size) (h2:j<its2.toArray.size),EqAt A.in1 s its.toArray[j] its2.toArray[j] (eqD (xs.getD j .non) (ys.getD j .non))) (same:a=b->w4 xs ys=true):E3 A s (.ref a) (.ref b) (w4 xs ys):=by
 have R:RcAt A s (.ref a) (.ref b) (w4 xs ys)/\RcNeAt A s (.ref a) (.ref b) (!w4 xs ys):=by
  by_cases hl:its.length=its2.length
  .have e:w4 xs ys=(De its.toArray.size).all (λj=>eqD (xs.getD j .non) (ys.getD j .non)):=by rw[yL,l1,l2,<- hl,Xe,BEq.rfl,Aa4];rfl
   rw[e];exact⟨RcAt.lists ha hb hl hu sub,RcNeAt.lists ha hb hl hu sub⟩
  .rw[YA (by rw[l1,l2];exact hl)]
   have hn:(its.toArray.size != its2.toArray.size)=true:=bne_iff_ne.mpr hl;exact⟨RcAt.lists_lengths ha hb hn hu,RcNeAt.lists_lengths ha hb hn hu⟩
 refine⟨?_,R.1,R.2⟩;by_cases hab:a=b
 .rw[same hab,hab]
  exact Aa3 _
 .exact EqAt.of_refs hab R.1
theorem sH (I:Inv X pins σ H s)(r:Rel X.K H P α S):∀ (n:Ai) (A:Bt) (d d':D) (u u':Ac),A.units+n<Fi->pl n d=true->pl n d'=true->Kd X P α s d u->Kd X P α s d' u'->E3 A s u u' (eqD d d'):=by
 intro n
 induction n with
 |zero =>
  intro A d d' u u' hu h1 h2 k1 k2;cases UT hu k1 k2 with
  |of b e h=>exact h.cast e
  |tt=>exact Hf h1
  |ll=>exact Hf h1
 |succ m ih =>
  intro A d d' u u' hu h1 h2 k1 k2;have hu0:A.units<Fi:=Mz (Hy _ _) hu;have hu1:A.in1.units+m<Fi:=by show A.units+1+m<Fi;lia
  have sub:∀ {xs ys:Aa D} {its its2:Aa Ac},xs.all (pl m)=true->ys.all (pl m)=true->Seqs X P α xs ys its its2 ->
    ∀ j (h1:j<its.toArray.size) (h2:j<its2.toArray.size),EqAt A.in1 s its.toArray[j] its2.toArray[j] (eqD (xs.getD j .non) (ys.getD j .non)):=λ{xs ys its its2} a1 a2 ⟨vs,ws,b1,b2,c1,c2⟩ j g1 g2=>by
   obtain⟨w1,y1,z1,m1⟩:=w8 b1 b2 g1;obtain⟨w2,y2,z2,m2⟩:=w8 c1 c2 g2;exact(ih A.in1 _ _ _ _ hu1 (xW a1 m1) (xW a2 m2) (yG I r (xW a1 m1) y1 z1) (yG I r (xW a2 m2) y2 z2)).eq
  cases UT hu0 k1 k2 with
  |of b e h=>exact h.cast e
  |tt a b xs ys its its2 ha hb q=>exact(RL hu0 ha hb q.len1 q.len2 (sub h1 h2 q) λe=>by subst e;exact(mY xs ys).symm.trans (hZ I r (m+1) _ _ _ h1 h2 k1 k2)).cast (mY xs ys)
  |ll a b xs ys its its2 ha hb q=>exact(RK hu0 ha hb q.len1 q.len2 (sub h1 h2 q) λe=>by subst e;exact(mX xs ys).symm.trans (hZ I r (m+1) _ _ _ h1 h2 k1 k2)).cast (mX xs ys)
noncomputable def zW:Ai:=30
noncomputable def gEq:G2:=λa b S=>if pl zW a&&pl zW b then .ok (.bl (eqD a b)) S else .bad
noncomputable def gNe:G2:=λa b S=>if pl zW a&&pl zW b then .ok (.bl (!eqD a b)) S else .bad
set_option tactic.hygienic true in
theorem E6 (hu:X.A.units+64<Fi):OpD X (Cy .Eq) gEq:=by
 intro pins σ H s P α S v u vv uu a b Q I r rv ru pa pb af;unfold gEq at af
 split at af
 .rename_i h
  rw[Az] at h;exact(sH I r zW X.A a b vv uu (by unfold zW;lia) h.1 h.2 (yG I r h.1 pa rv) (yG I r h.2 pb ru)).rc _ _ _ _ ⟨.bl _,H,I,rfl,xr af r (by simp only[Rep])⟩
 .exact An af
set_option tactic.hygienic true in
theorem EB (hu:X.A.units+64<Fi):OpD X (Cy .NotEq) gNe:=by
 intro pins σ H s P α S v u vv uu a b Q I r rv ru pa pb af;unfold gNe at af
 split at af
 .rename_i h
  rw[Az] at h;exact(sH I r zW X.A a b vv uu (by unfold zW;lia) h.1 h.2 (yG I r h.1 pa rv) (yG I r h.2 pb ru)).ne _ _ _ _ ⟨.bl _,H,I,rfl,xr af r (by simp only[Rep])⟩
 .exact An af
end
end _D
end
namespace _D
open PySem PySem.Spec PyProof.Rows _L
variable {pins:Aa (Af × Co)}{kvs:Aa (Key × D)}{its us:Aa Ac}{xs ds:Aa D}{vs:Aa V}{f:Ac->Ac->Ky Ac}{s:Ag}{d:D}{v:V}{Q:VK}{σ:_L.St}
section
variable {X:Cx}
noncomputable def i2 (C:Al->Al->Aq)(f:Al->Al->D):G2:=λa b S=>match a,b with
 |.int i,.int j=>if C i j then .ok (f i j) S else .bad
 |_,_=>.bad
theorem UX {C:Al->Al->Aq}{f:Al->Al->D}{a b:D}{S:Sto}{P:Hp}{α:Aa Af}{Ok:D->Sto->Prop}(h:qJ X P α (i2 C f a b S) Ok):∃ i j,a=.int i/\b=.int j/\C i j=true/\Ok (f i j) S:=by
 cases a with
 |int i =>
  cases b with
  |int j =>
   obtain⟨hc,h⟩:=xK (X:=X) h;exact⟨i,j,rfl,rfl,hc,h⟩
  |_=>exact An h
 |_=>exact An h
theorem xB {P:Hp}{α:Aa Af}{i:Al}(r:Rep X.K P α (.int i) v):v=.int i:=by simpa only [Rep] using r
theorem mC {C':Al->Al->Prop}{v:Al->Al->V}{C:Al->Al->Aq}{d:Al->Al->D}(h:OpR X f (rI C' v))(hC:∀ i j,C i j=true->C' i j)(hv:∀ P α i j,Rep X.K P α (d i j) (v i j)):OpD X f (i2 C d):=
 OpD.of h λH P α S x y a b Q r p1 p2 af=>by
  obtain⟨i,j,rfl,rfl,hc,ok⟩:=UX af;exact⟨i,j,xB p1,xB p2,hC i j hc,xr ok r (hv P α i j)⟩
theorem pI {v:Al->Al->V}{d:Al->Al->D}(h:OpR X f (rI0 v))(hv:∀ P α i j,Rep X.K P α (d i j) (v i j)):OpD X f (i2 (λ_ _=>true) d):=
 OpD.of h λH P α S x y a b Q r p1 p2 af=>by
  obtain⟨i,j,rfl,rfl,_,ok⟩:=UX af;exact⟨i,j,xB p1,xB p2,xr ok r (hv P α i j)⟩
noncomputable def yX:G2:=i2 (λ_ _=>true) λi j=>.int (i-j)
theorem LC:OpD X (Fa .Sub) yX:=pI LQ λP α i j=>by simp only[Rep]
noncomputable def dU (i j:Al):Aq:=decide (-(2 ^ 64)<i/\i<2 ^ 64)||decide (-(2 ^ 64)<j/\j<2 ^ 64)
theorem B6:OpD X (Fa .Mult) (i2 dU λi j=>.int (i*j)):=mC LO (λi j h=>by
 unfold dU at h;rw[OV] at h;rcases h with h|h
 .exact .inl (Cw h)
 .exact .inr (Cw h)) λP α i j=>by simp only[Rep]
noncomputable def M9 (i j:Al):Aq:=decide (0<j/\j<1073741824)
noncomputable def t8:G2:=i2 M9 λi j=>.int (i/j)
theorem L8:OpD X (Fa .FloorDiv) t8:=mC BA (λi j h=>(Cw h:0<j/\j<1073741824)) λP α i j=>by simp only[Rep]
noncomputable def u7:G2:=i2 (λ_ j=>decide (0<j)) λi j=>.int (i % j)
theorem LA:OpD X (Fa .Mod) u7:=mC LN (λi j h=>Cw h) λP α i j=>by simp only[Rep]
noncomputable def CF (i j:Al):Aq:=decide (0<=j/\j<=1000000/\i.natAbs<2 ^ 64)
noncomputable def kZ:G2:=i2 CF λi j=>.int (i ^ j.toNat)
theorem LB:OpD X (Fa .Pow) kZ:=mC LP (λi j h=>(Cw h:0<=j/\j<=1000000/\i.natAbs<2 ^ 64)) λP α i j=>by simp only[Rep]
noncomputable def gLt:G2:=i2 (λ_ _=>true) λi j=>.bl (decide (i<j))
noncomputable def gLe:G2:=i2 (λ_ _=>true) λi j=>.bl (decide (i<=j))
noncomputable def gGt:G2:=i2 (λ_ _=>true) λi j=>.bl (decide (j<i))
noncomputable def gGe:G2:=i2 (λ_ _=>true) λi j=>.bl (decide (j<=i))
theorem JJ:OpD X (Cy .Lt) gLt:=pI EF λP α i j=>by simp only[Rep]
theorem EA:OpD X (Cy .LtE) gLe:=pI EE λP α i j=>by simp only[Rep]
theorem E8:OpD X (Cy .Gt) gGt:=pI ED λP α i j=>by simp only[Rep]
theorem E7:OpD X (Cy .GtE) gGe:=pI EC λP α i j=>by simp only[Rep]
noncomputable def pD:D->Sto->Res D:=λa S=>match a with
 |.int i=>.ok (.int (-i)) S
 |_=>.bad
theorem SM:UnD X (Yl .USub) pD:=by
 intro pins σ H s P α S v vv a Q I r rv p af;cases a with
 |int i=>exact SN pins s σ H v vv Q I rv ⟨i,xB p,xr af r (by simp only[Rep])⟩
 |_=>exact An af
noncomputable def gIs:G2:=λa b S=>match b with
 |.non=>match a with
  |.non=>.ok (.bl true) S
  |_=>.ok (.bl false) S
 |_=>.bad
theorem PZ {P:Hp}{α:Aa Af}(r:Rep X.K P α d v):decide (v=.non)=(match d with|.non=>true|_=>false):=by
 cases d <;> simp only[Rep] at r
 case non=>subst r;rfl
 case bl=>subst r;rfl
 case int=>subst r;rfl
 case str=>subst r;rfl
 case ty=>subst r;rfl
 case clo=>obtain⟨rfl,_⟩:=r;rfl
 case obj=>obtain⟨rfl,_⟩:=r;rfl
 case tup=>obtain⟨a,vs,rfl,_⟩:=r;rfl
 case lst=>obtain⟨a,vs,rfl,_⟩:=r;rfl
 case dct0=>obtain⟨a,rfl,_⟩:=r;rfl
 case loc=>obtain⟨a,rfl,_⟩:=r;rfl
 case exn=>obtain⟨a,rfl,_⟩:=r;rfl
 case fd=>obtain⟨a,o,vs,rfl,_⟩:=r;rfl
theorem E9:OpD X (Cy .Is) gIs:=OpD.of LL λH P α S x y a b Q r p1 p2 af=>by
 cases b with
 |non =>
  simp only[Rep] at p2;refine⟨p2,?_⟩;rw[PZ p1];cases a <;> exact xr af r (by simp only[Rep])
 |_=>exact An af
noncomputable def zC:G2:=λa b S=>match a,b with
 |.int i,.int j=>.ok (.int (i+j)) S
 |.str x,.str y=>if x.length+y.length<=lim then .ok (.str (x++y)) S else .bad
 |.tup xs,.tup ys=>if xs.length+ys.length<=lim then .ok (.tup (xs++ys)) S else .bad
 |.lst xs,.lst ys=>if xs.length+ys.length<=lim then .ok (.lst (xs++ys)) S else .bad
 |_,_=>.bad
theorem vZ {H P:Hp}{α:Aa Af}{S:Sto}(I:Inv X pins σ H s)(r:Rel X.K H P α S)(p:Rep X.K P α (.tup xs) v) :
  ∃ a vs its,v=.ref a/\SqT X.K P a vs/\qE X.K P α xs vs/\qK vs its/\Sm s.heap a its.toArray/\xs.length=its.length/\xs.length<=lim:=by
 simp only[Rep] at p;obtain⟨a,vs,rfl,q,t⟩:=p;obtain⟨its,rv,p1,z⟩:=I.tuple (xI r.sub q);exact⟨a,vs,its,rfl,q,t,rv,p1,by rw[t.length,rv.length],by rw[t.length,zQ];exact z⟩
theorem yZ {H P:Hp}{α:Aa Af}{S:Sto}(I:Inv X pins σ H s)(r:Rel X.K H P α S)(p:Rep X.K P α (.lst xs) v) :
  ∃ a vs its n,v=.ref a/\SqX X.K P a vs/\qE X.K P α xs vs/\qK vs its/\s.heap.get? a=Ab { cls:=.type "list",data:=.seq its.toArray n } /\ xs.length=its.length/\xs.length<=lim:=by
 simp only[Rep] at p;obtain⟨a,vs,rfl,q,t⟩:=p;have:∃ its n,qK vs its/\s.heap.get? a=Ab { cls:=.type "list",data:=.seq its.toArray n } /\ vs.length<=sizeLine:=by
  rcases q with q|⟨its,n,e,z,rv⟩
  .obtain⟨z,its,n,rv,e⟩:=(aD r.sub q).ok I.hok
   exact⟨its,n,rv,e,z⟩
  .exact⟨its,n,rv,I.kIn _ _ e,z⟩
 obtain⟨its,n,rv,e,z⟩:=this;exact⟨a,vs,its,n,rfl,q,t,rv,e,by rw[t.length,rv.length],by rw[t.length,zQ];exact z⟩
theorem YV {H P:Hp}{α:Aa Af}{S:Sto}(I:Inv X pins σ H s)(r:Rel X.K H P α S)(t:qE X.K P α xs vs)(rv:qK vs its)(hz:xs.length<=lim)
  (ok:OkV X P α Q (.tup xs) S):EP X pins σ Q (.ref s.heap.objs.size) { s with heap:=s.heap.push { cls:=.type "tuple",data:=.seq its.toArray } }:=by
 refine⟨.ref s.heap.objs.size,_,I.laid (t':=s.toks) (o:=.tup vs) (λb ob q=>Ah _ q) (Au _) ⟨by rw[<- t.length,<- zQ];exact hz,its,rv,Uc _ _⟩,rfl,jC r (I.hok.fresh (Au _)) t ok⟩
theorem sX {H P:Hp}{α:Aa Af}{S:Sto}(I:Inv X pins σ H s)(r:Rel X.K H P α S)(t:qE X.K P α xs vs)(rv:qK vs its)(hz:xs.length<=lim)
  (ok:OkV X P α Q (.lst xs) S):EP X pins σ Q (.ref s.heap.objs.size) { s with heap:=s.heap.push { cls:=.type "list",data:=.seq its.toArray } }:=by
 refine⟨.ref s.heap.objs.size,_,I.laid (t':=s.toks) (o:=.lst vs) (λb ob q=>Ah _ q) (Au _) ⟨by rw[<- t.length,<- zQ];exact hz,its,0,rv,Ba _ rfl⟩,rfl,xV r (I.hok.fresh (Au _)) t ok⟩
theorem M5 {H P:Hp}{α:Aa Af}{S:Sto}{ys:Aa D}{u:V}{vv uu:Ac}(I:Inv X pins σ H s)(r:Rel X.K H P α S)(rv:qL v vv)(ru:qL u uu)(pa:Rep X.K P α (.tup xs) v)(pb:Rep X.K P α (.tup ys) u)(hl:xs.length+ys.length<=lim)(af:OkV X P α Q (.tup (xs++ys)) S) :
  Ao (As X.prog X.w) X.A (Fa .Add vv uu) (EP X pins σ Q) X.xe s:=by
 obtain⟨a,vs,its,rfl,q1,t1,rv1,h1,l1,_⟩:=vZ I r pa;obtain⟨b,ws,its2,rfl,q2,t2,rv2,h2,l2,_⟩:=vZ I r pb;cases rv;cases ru;by_cases hx:its=[]
 .obtain⟨⟨cls,dd,data,sl⟩,ho,hc,n,hd⟩:=id h1
  obtain⟨⟨cls2,dd2,data2,sl2⟩,ho2,hc2,n2,hd2⟩:=id h2;simp only at hc hd hc2 hd2;subst hc hd hc2 hd2;have hxs:xs=[]:=Nh.mp (by rw[l1,hx];rfl)
  subst hxs;exact WF ⟨_,ho,rfl⟩ ⟨_,ho2,rfl⟩ Sb Vs Ny Nd (Mw _ _) (tuple_addW0 a b its.toArray its2.toArray n n2 dd dd2 sl sl2 (by simp[hx]))
   ⟨ho,ho2,⟨.ref b,H,I,rfl,xr af r pb⟩⟩
 .refine _H.cat_tup h1 h2 hx (λz=>⟨.ref a,H,I,rfl,xr af r ?_⟩) (λz=>?_) (by rw[<- l1,<- l2,<- zQ];exact hl)
  .have hys:ys=[]:=Nh.mp (by rw[l2,z];rfl)
   rw[hys,Fx];exact pa
  .exact YV I r (t1.append t2) (rv1.append rv2) (by rw[Cj];exact hl) af
theorem M4 {H P:Hp}{α:Aa Af}{S:Sto}{ys:Aa D}{u:V}{vv uu:Ac}(I:Inv X pins σ H s)(r:Rel X.K H P α S)(rv:qL v vv)(ru:qL u uu)(pa:Rep X.K P α (.lst xs) v)(pb:Rep X.K P α (.lst ys) u)(hl:xs.length+ys.length<=lim)(af:OkV X P α Q (.lst (xs++ys)) S) :
  Ao (As X.prog X.w) X.A (Fa .Add vv uu) (EP X pins σ Q) X.xe s:=by
 obtain⟨a,vs,its,n,rfl,q1,t1,rv1,h1,l1,_⟩:=yZ I r pa;obtain⟨b,ws,its2,n2,rfl,q2,t2,rv2,h2,l2,_⟩:=yZ I r pb;cases rv;cases ru;refine PySem.P.add_list h1 h2 ?_ (by rw[Bf,Bf,<- l1,<- l2,<- zQ];exact hl)
 rw[List.append_toArray];exact sX I r (t1.append t2) (rv1.append rv2) (by rw[Cj];exact hl) af
inductive AddV (a b:D)(S:Sto):Prop
 |bad (e:zC a b S=.bad)
 |int (i j:Al) (ea:a=.int i) (eb:b=.int j)
 |str (x y:Ap) (ea:a=.str x) (eb:b=.str y)
 |tup (x y:Aa D) (ea:a=.tup x) (eb:b=.tup y)
 |lst (x y:Aa D) (ea:a=.lst x) (eb:b=.lst y)
theorem CB (a b:D)(S:Sto):AddV a b S:=by
 cases a with
 |int i=>cases b with
  |int j=>exact .int i j rfl rfl
  |_=>exact .bad rfl
 |str i=>cases b with
  |str j=>exact .str i j rfl rfl
  |_=>exact .bad rfl
 |tup i=>cases b with
  |tup j=>exact .tup i j rfl rfl
  |_=>exact .bad rfl
 |lst i=>cases b with
  |lst j=>exact .lst i j rfl rfl
  |_=>exact .bad rfl
 |_=>exact .bad rfl
theorem L7:OpD X (Fa .Add) zC:=by
 intro pins σ H s P α S v u vv uu a b Q I r rv ru pa pb af;cases CB a b S with
 |bad e=>rw[e] at af;exact An af
 |int i j ea eb =>
  subst ea eb;exact LK pins s σ H v u vv uu Q I rv ru ⟨i,j,xB pa,xB pb,xr af r (by simp only[Rep])⟩
 |str x y ea eb =>
  subst ea eb;obtain⟨hl,af⟩:=xK (X:=X) af;simp only[Rep] at pa pb;exact o8 pins s σ H v u vv uu Q I rv ru ⟨x,y,pa,pb,by rw[<- zQ];exact hl,xr af r (by simp only[Rep])⟩
 |tup xs ys ea eb =>
  subst ea eb;obtain⟨hl,af⟩:=xK (X:=X) af;exact M5 I r rv ru pa pb hl af
 |lst xs ys ea eb =>
  subst ea eb;obtain⟨hl,af⟩:=xK (X:=X) af;exact M4 I r rv ru pa pb hl af
noncomputable def gIx:G2:=λa b S=>match b with
 |.int k=>match a with
  |.tup xs=>vQ (atI xs k) S
  |.lst xs=>vQ (atI xs k) S
  |.loc i=>match S[i]? with
   |some (.lst xs)=>vQ (atI xs k) S
   |_=>.bad
  |_=>.bad
 |_=>.bad
theorem mQ {P:Hp}{α:Aa Af}{k:Al}(rp:qE X.K P α ds vs)(h:atI ds k=Ab d):∃ v,atI vs k=Ab v/\Rep X.K P α d v:=by
 unfold atI at h ⊢;rw[<- rp.length];cases q:ixN ds.length k with
 |none=>rw[q] at h;cases h
 |some j =>
  rw[q] at h;obtain⟨v,h1,h2⟩:=rp.get (show ds[j]? = Ab d from h)
  exact⟨v,h1,h2⟩
theorem CU:IxD X gIx:=by
 intro value slice pins σ H s P α S v u vv uu a b Q I r rv ru pa pb af hs;cases b with
 |int k =>
  have hk:=xB pb;cases a with
  |tup xs =>
   obtain⟨d,e,ok⟩:=vR (X:=X) af;simp only[Rep] at pa;obtain⟨p,vs,rfl,q,t⟩:=pa;obtain⟨w,e1,rw'⟩:=mQ t e;exact NC value slice pins s σ H _ u vv uu Q I rv ru ⟨p,vs,k,w,rfl,hk,xI r.sub q,e1,xr ok r rw'⟩ hs
  |lst xs =>
   obtain⟨d,e,ok⟩:=vR (X:=X) af;simp only[Rep] at pa;obtain⟨p,vs,rfl,q,t⟩:=pa;obtain⟨w,e1,rw'⟩:=mQ t e;exact cJ value slice pins s σ H _ u vv uu Q I rv ru ⟨p,vs,k,w,rfl,hk,(xE r.sub q).l,e1,xr ok r rw'⟩ hs
  |loc i =>
   obtain⟨xs,hS,af⟩:=gK (X:=X) (f:=λxs=>vQ (atI xs k) S) af;obtain⟨d,e,ok⟩:=vR (X:=X) af;simp only[Rep] at pa;obtain⟨p,rfl,q⟩:=pa;obtain⟨vs,z,t⟩:=r.at' i p _ q hS;obtain⟨w,e1,rw'⟩:=mQ t e;exact cJ value slice pins s σ H _ u vv uu Q I rv ru ⟨p,vs,k,w,rfl,hk,.of z,e1,xr ok r rw'⟩ hs
  |_=>exact An af
 |_=>exact An af
noncomputable def tB:G3:=λo i d S=>match o,i with
 |.loc n,.int k=>match S[n]? with
  |some (.lst xs)=>match ixN xs.length k with
   |some j=>.ok () (S.set n (.lst (xs.set j d)))
   |none=>.bad
  |_=>.bad
 |_,_=>.bad
theorem H0:dJ X (dH X tB):=by
 intro pins s σ H o i v ov iv u Q I ro ri rv h;obtain⟨P,α,S,a,b,d,r,pa,pb,pd,af⟩:=h;cases a with
 |loc n =>
  cases b with
  |int k =>
   obtain⟨xs,hS,af⟩:=gK (X:=X) (f:=λxs=>match ixN xs.length k with|some j=>.ok () (S.set n (.lst (xs.set j d)))|none=>.bad) af
   cases hj:ixN xs.length k with
   |none=>rw[hj] at af;exact An af
   |some j =>
    rw[hj] at af;simp only[Rep] at pa;obtain⟨p,rfl,q⟩:=pa;obtain⟨vs,z,t⟩:=r.at' n p _ q hS;refine U6 pins s σ H _ i v ov iv u Q I ro ri rv ⟨p,vs,k,j,rfl,xB pb,z,by rw[<- t.length];exact hj,?_⟩
    refine af _ P α (r.put (m':=.lst (xs.set j d)) q hS (by intro z;cases z) ⟨vs.set j v,qU,t.set pd j⟩) (qG.refl _) (Bn _)
  |_=>exact An af
 |_=>exact An af
noncomputable def iV:D->Sto->Ak Ai
 |.tup xs,_=>Ab xs.length
 |.lst xs,_=>Ab xs.length
 |.str x,_=>if x.length<=lim then Ab x.length else none
 |.dct0,_=>Ab 0
 |.loc i,S=>match S[i]? with
  |some (.lst xs)=>Ab xs.length
  |_=>none
 |_,_=>none
noncomputable def sO:DF:=λds S=>match ds with
 |[d]=>match iV d S with
  |some n=>.ok (.int n) S
  |none=>.bad
 |_=>.bad
end
section
variable {X:Cx}
theorem vC {P:Hp}{α:Aa Af}(rp:qE X.K P α [d] vs)(rv:qK vs us):∃ v u,vs=[v]/\us=[u]/\Rep X.K P α d v/\qL v u:=by
 obtain⟨v,ws,rfl,p,t⟩:=rp.cons_inv;have:=t.nil_inv;subst this;obtain⟨u,rfl,q⟩:=uJ rv;exact⟨v,u,rfl,rfl,p,q⟩
theorem jT {P:Hp}{α:Aa Af}{e:D}(rp:qE X.K P α [d,e] vs)(rv:qK vs us):∃ v w u x,vs=[v,w]/\us=[u,x]/\Rep X.K P α d v/\Rep X.K P α e w/\qL v u/\qL w x:=by
 obtain⟨v,ws,rfl,p,t⟩:=rp.cons_inv;obtain⟨w,ws,rfl,p',t⟩:=t.cons_inv;have:=t.nil_inv;subst this;obtain⟨u,x,rfl,q,q'⟩:=mI rv;exact⟨v,w,u,x,rfl,rfl,p,p',q,q'⟩
noncomputable def iU (d:D)(S:Sto):Ak Ai:=match d with
 |.dct0=>none
 |_=>iV d S
theorem NP {H P:Hp}{α:Aa Af}{S:Sto}{n:Ai}(r:Rel X.K H P α S)(p:Rep X.K P α d v)(hn:iU d S=Ab n):FZ X.K v H n:=by
 cases d with
 |str x =>
  cases (show v=.str x from p)
  obtain⟨hl,rfl⟩:=j7 hn;exact⟨by rw[<- zQ];exact hl,rfl⟩
 |tup xs =>
  simp only[Rep] at p;obtain⟨a,ws,rfl,sq,t⟩:=p;cases hn;exact .inr ⟨ws,xI r.sub sq,t.length⟩
 |lst xs =>
  simp only[Rep] at p;obtain⟨a,ws,rfl,sq,t⟩:=p;cases hn;exact .inl ⟨ws,(xE r.sub sq).l,t.length⟩
 |loc i =>
  simp only[Rep] at p;obtain⟨a,rfl,e⟩:=p;obtain⟨xs,hS,hn⟩:=NT (f:=λxs=>Ab xs.length) hn;cases hn;obtain⟨ws,z,t⟩:=r.at' i a _ e hS;exact .inl ⟨ws,.of z,t.length⟩
 |_=>exact nn hn
inductive LenD1 (ds:Aa D)(S:Sto)(r:Res D):Prop
 |bad (e:r=.bad)
 |of (d:D) (n:Ai) (ed:ds=[d]) (hn:iU d S=Ab n) (e:r=.ok (.int n) S)
theorem RW (ds:Aa D)(S:Sto):LenD1 ds S (match ds with|[.dct0]=>.bad|_=>sO ds S):=by
 cases ds with
 |nil=>exact .bad rfl
 |cons d ds =>
  cases ds with
  |cons _ _=>cases d <;> exact .bad rfl
  |nil =>
   have z:(match [d] with|[D.dct0]=>Res.bad|_=>sO [d] S)=(match iU d S with|some n=>Res.ok (D.int n) S|none=>.bad):=by cases d <;> rfl
   rw[z];cases hn:iU d S with
   |none=>exact .bad rfl
   |some n=>exact .of d n rfl hn rfl
theorem MC (hD:Od):w5 X (.builtin "len") (λds S=>match ds with|[.dct0]=>.bad|_=>sO ds S):=by
 intro pins σ H s P α S vs us ds Q I r rv rp af;have af1:qJ X P α (match ds with|[D.dct0]=>Res.bad|_=>sO ds S) (OkV X P α Q):=af
 clear af;cases RW ds S with
 |bad e=>rw[e] at af1;exact An af1
 |of d n ed hn e =>
  rw[e] at af1;subst ed;obtain⟨v,u,rfl,rfl,p,q⟩:=vC rp rv;exact WE pins s σ H _ _ Q I rv ⟨v,n,rfl,NP r p hn,xr af1 r (by simp only[Rep])⟩
noncomputable def tyD:D->Sto->Ak Dx
 |.non,_=>Ab "NoneType"
 |.bl _,_=>Ab "bool"
 |.int _,_=>Ab "int"
 |.str _,_=>Ab "str"
 |.tup _,_=>Ab "tuple"
 |.lst _,_=>Ab "list"
 |.dct0,_=>Ab "dict"
 |.loc i,S=>match S[i]? with
  |some (.lst _)=>Ab "list"
  |some (.dct _)=>Ab "dict"
  |_=>none
 |_,_=>none
noncomputable def w6 (a b:Dx):Aq:=a == b||(a == "bool" && b == "int")
noncomputable def jB (b:Dx):Aq:=b == "int" || b == "bool" || b == "tuple" || b == "list" || b == "str" || b == "dict"
noncomputable def NJ (a b:Dx):Ak Aq:=if (Hb a == Hb b)=true then Ab true else if PySem.W.kitMeta b=true then (fastBuiltinMro a).map (·.contains (.type b)) else none
noncomputable def tyL:Aa Dx:=["NoneType","bool","int","str","tuple","list","dict"]
noncomputable def okL:Aa Dx:=["int","bool","tuple","list","str","dict"]
theorem P7:(tyL.all λa=>okL.all λb=>decide (NJ a b=Ab (w6 a b)))=true:=by decide +kernel
theorem LH {b:Dx}(hb:jB b=true):b∈okL:=by simpa [jB,okL,or_assoc] using hb
theorem tK {K:Aj}{a b:Dx}(ha:a∈tyL)(hb:jB b=true):Li K (.type a) (.type b)=Ab (w6 a b):=
 Cw (p:=NJ a b=Ab (w6 a b)) (Cn.mp (Cn.mp P7 a ha) b (LH hb))
noncomputable def zY:DF:=λds S=>match ds with
 |[d,.ty b]=>if jB b then match tyD d S with
   |some a=>.ok (.bl (w6 a b)) S
   |none=>.bad
  else .bad
 |_=>.bad
inductive TyV (X:Cx)(H:Hp)(v:V)(a:Dx):Prop
 |of (t:TyOf X.K H v (.type a))
 |tup (p:Af) (vs:Aa V) (e:v=.ref p) (q:SqT X.K H p vs) (ea:a = "tuple")
 |lst (p:Af) (vs:Aa V) (e:v=.ref p) (q:SqL X.K H p vs) (ea:a = "list")
theorem rV {S:Sto}{a:Dx}(h:tyD d S=Ab a):a∈tyL:=by
 cases d with
 |non=>cases h;exact .head _
 |bl b=>cases h;exact .tail _ (.head _)
 |int i=>cases h;exact .tail _ (.tail _ (.head _))
 |str x=>cases h;exact .tail _ (.tail _ (.tail _ (.head _)))
 |tup xs=>cases h;exact .tail _ (.tail _ (.tail _ (.tail _ (.head _))))
 |lst xs=>cases h;exact .tail _ (.tail _ (.tail _ (.tail _ (.tail _ (.head _)))))
 |dct0=>cases h;exact .tail _ (.tail _ (.tail _ (.tail _ (.tail _ (.tail _ (.head _))))))
 |loc i =>
  rcases tQ (f:=λ_=>Ab "list") (g:=λ_=>Ab "dict") h with⟨_,_,h⟩|⟨_,_,h⟩
  .cases h;exact .tail _ (.tail _ (.tail _ (.tail _ (.tail _ (.head _)))))
  .cases h;exact .tail _ (.tail _ (.tail _ (.tail _ (.tail _ (.tail _ (.head _))))))
 |_=>exact nn h
theorem JV {H P:Hp}{α:Aa Af}{S:Sto}{a:Dx}(r:Rel X.K H P α S)(p:Rep X.K P α d v)(h:tyD d S=Ab a):TyV X H v a:=by
 cases d with
 |non=>cases h;cases (show v=.non from p);exact .of .non
 |bl b=>cases h;cases (show v=.bl b from p);exact .of (.bl b)
 |int i=>cases h;cases (show v=.int i from p);exact .of (.int i)
 |str x=>cases h;cases (show v=.str x from p);exact .of (.str x)
 |tup xs =>
  cases h;simp only[Rep] at p;obtain⟨a,vs,e,q,t⟩:=p;exact .tup a vs e (xI r.sub q) rfl
 |lst xs =>
  cases h;simp only[Rep] at p;obtain⟨a,vs,e,q,t⟩:=p;exact .lst a vs e (xE r.sub q).l rfl
 |dct0 =>
  cases h;simp only[Rep] at p;obtain⟨a,rfl,q⟩:=p;exact .of (.dK (r.sub _ _ q))
 |loc i =>
  simp only[Rep] at p;obtain⟨a,rfl,q⟩:=p;rcases tQ (f:=λ_=>Ab "list") (g:=λ_=>Ab "dict") h with⟨xs,hS,h⟩|⟨kvs,hS,h⟩
  .cases h
   obtain⟨vs,z,t⟩:=r.at' i a _ q hS;exact .of (.lst z)
  .cases h
   obtain⟨vs,z,t⟩:=r.at' i a _ q hS;exact .of (.dK z)
 |_=>exact nn h
inductive IsiV (ds:Aa D)(S:Sto):Prop
 |bad (e:zY ds S=.bad)
 |of (d:D) (b a:Dx) (ed:ds=[d,.ty b]) (hb:jB b=true) (ha:tyD d S=Ab a) (e:zY ds S=.ok (.bl (w6 a b)) S)
theorem CT (ds:Aa D)(S:Sto):IsiV ds S:=by
 cases ds with
 |nil=>exact .bad rfl
 |cons d ds =>
  cases ds with
  |nil=>exact .bad rfl
  |cons e ds =>
   cases ds with
   |cons _ _=>cases e <;> exact .bad rfl
   |nil =>
    cases e with
    |ty b =>
     have z:zY [d,.ty b] S=if jB b then (match tyD d S with|some a=>.ok (.bl (w6 a b)) S|none=>.bad) else .bad:=rfl
     by_cases hb:jB b=true
     .rw[Bl hb] at z
      cases ha:tyD d S with
      |none=>rw[ha] at z;exact .bad z
      |some a=>rw[ha] at z;exact .of d b a rfl hb ha z
     .rw[Bm hb] at z
      exact .bad z
    |_=>exact .bad rfl
theorem oZ:w5 X (.builtin "isinstance") zY:=by
 intro pins σ H s P α S vs us ds Q I r rv rp af;cases CT ds S with
 |bad e=>rw[e] at af;exact An af
 |of d b a ed hb ha e =>
  subst ed;rw[e] at af;obtain⟨v,w,u,x,rfl,rfl,p,p',q,q'⟩:=jT rp rv;simp only[Rep] at p';subst p';cases (show x=Hb b from q')
  have kit:=tK (K:=X.K) (rV ha) hb;have fin:∀ tk,EP X pins σ Q (.bool (w6 a b)) { s with toks:=tk }:=λtk=>⟨.bl _,H,I.tok tk,rfl,xr af r (by simp only[Rep])⟩
  cases JV r p ha with
  |of ht=>exact Z2 I q ht kit fin
  |tup p' ws e sq ea =>
   subst e ea;cases (show u=Ce p' from q)
   obtain⟨its,rv',⟨o,h1,h2,_⟩,_⟩:=I.tuple sq;exact Ek My I.kIn ⟨o,h1,h2⟩ kit (λz=>nomatch z) fin
  |lst p' ws e sq ea =>
   subst e ea;cases (show u=Ce p' from q)
   obtain⟨its,rv',⟨o,_,h1,h2,_⟩,_⟩:=I.list sq;exact Ek Jn I.kIn ⟨o,h1,h2⟩ kit (λz=>nomatch z) fin
noncomputable def x5:Aa D->Ak (Aa Aq)
 |[]=>Ab []
 |.bl b::r=>(x5 r).map (b::·)
 |_=>none
theorem yV {P:Hp}{α:Aa Af}:∀ {ds:Aa D} {bs:Aa Aq} {vs:Aa V} {us:Aa Ac},x5 ds=Ab bs->qE X.K P α ds vs->qK vs us->us=bs.map Fp
 |[],bs,vs,us,h,rp,rv=>by
  cases h;have:=rp.nil_inv;subst this;cases rv;rfl
 |d::ds,bs,vs,us,h,rp,rv=>by
  cases d with
  |bl b =>
   obtain⟨bs',q,rfl⟩:=Do.mp (show (x5 ds).map (b::·)=Ab bs from h)
   obtain⟨w,ws,rfl,p,t⟩:=rp.cons_inv;simp only[Rep] at p;subst p;cases rv with
   |cons q1 q2 =>
    cases (show _=Fp b from q1)
    rw[yV q t q2];rfl
  |_=>exact nn h
noncomputable def kX (any:Aq):DF:=λds S=>match ds with
 |[d]=>match (zT d).bind x5 with
  |some bs=>.ok (.bl (if any then bs.any id else bs.all id)) S
  |none=>.bad
 |_=>.bad
theorem lF (bs:Aa Aq):((De bs.length).all λi=>bs.getD i false)=bs.all id:=by
 induction bs with
 |nil=>rfl
 |cons b bs ih =>
  rw[Bj,Ks,Mc,Ni,Mc,<- ih];rfl
theorem lG (bs:Aa Aq):((De bs.length).any λi=>bs.getD i false)=bs.any id:=by
 induction bs with
 |nil=>rfl
 |cons b bs ih =>
  rw[Bj,Ks,Jq,Sr,Jq,<- ih];rfl
theorem Z3 {H:Hp}{o:Co}{h':Bq}{tk:Ai}(I:Inv X pins σ H s)(k:∀ b ob,b ∉ [s.heap.objs.size]->(s.heap.push o).get? b=Ab ob->h'.get? b=Ab ob):Inv X pins σ H { s with heap:=h',toks:=tk }:=
 I.kept λb u e=>k b u (by simp;exact Ci (Ay e)) (Ah _ e)
theorem jU {bs:Aa Aq}(hi:its=bs.map Fp){A:Bt}:TruthOf X.prog X.w A (λi v=>its.toArray[i]? = Ab v) (λi=>bs.getD i false):=λi v s' Q' E' hv hQ=>by
 subst hi;have hv':(bs.map Fp)[i]? = Ab v:=by simpa using hv
 rw[Dp] at hv';cases e:bs[i]? with
 |none=>rw[e] at hv';exact nn hv'
 |some b =>
  rw[e] at hv';cases Ct hv';have:bs.getD i false=b:=by simp[Kh,e]
  have hQ':Q' (bs.getD i false) s':=hQ;rw[this] at hQ';exact Xo hQ'
theorem GK {any:Aq}{S:Sto}{P:Hp}{α:Aa Af}{Ok:D->Sto->Prop}(h:qJ X P α (kX any ds S) Ok):∃ d xs bs,ds=[d]/\ItV d xs/\x5 xs=Ab bs/\Ok (.bl (if any then bs.any id else bs.all id)) S:=by
 obtain⟨d,rfl,h1⟩:=rB (X:=X) (β:=D) (g:=λd=>match (zT d).bind x5 with|some bs=>.ok (D.bl (if any then bs.any id else bs.all id)) S|none=>.bad) h
 cases hb:(zT d).bind x5 with
 |none=>rw[hb] at h1;exact An h1
 |some bs =>
  rw[hb] at h1;obtain⟨xs,hx,hbs⟩:=Ei.mp hb;exact⟨d,xs,bs,rfl,itV hx,hbs,h1⟩
theorem MA (any:Aq)(hc:X.calm=true):w5 X (.builtin (if any then "any" else "all")) (kX any):=by
 intro pins σ H s P α S vs us ds Q I r rv rp af;obtain⟨d,xs,bs,ed,hd,hbs,ok⟩:=GK af;clear af;subst ed;obtain⟨v,u,rfl,rfl,p,q⟩:=vC rp rv;clear rp;have fin:∀ {o:Co} (h':Bq) (tk:Ai),(∀ b ob,b ∉ [s.heap.objs.size]->(s.heap.push o).get? b=Ab ob->h'.get? b=Ab ob)->EP X pins σ Q (.bool (if any then bs.any id else bs.all id)) { s with heap:=h',toks:=tk }:=
  λ{o} h' tk k=>⟨.bl _,H,Z3 I k,rfl,xr ok r (by simp only[Rep])⟩
 clear rv ok;have hh:X.A.in1.handled=none:=I.ok.hd hc;cases hd with
 |tup ed =>
  subst ed;obtain⟨a,ws,its,rfl,sq,t,rvi,ht,hl,_⟩:=vZ I r p;cases (show u=Ce a from q)
  have hi:=yV hbs t rvi;have hlen:its.toArray.size=bs.length:=by rw[hi];simp
  have hne:a≠s.heap.objs.size:=by obtain⟨o,e,_⟩:=ht;exact Ci (Ay e)
  have W:=Walks.tuple (prog:=X.prog) (w:=X.w) hh s.heap.objs.size a hne its.toArray;have hT:∀ o,(s.heap.push o).IsTuple a its.toArray:=λo=>by obtain⟨o,e,c⟩:=ht;exact⟨o,Ah _ e,c⟩
  have ht':s.heap.IsTuple a its.toArray:=ht;cases any with
  |false =>
   refine call_all_walk (Gz ht' ⟨s.heap.objs.size,_,_,_,_,_,_,rfl,W,⟨⟨_,Ba _ rfl,rfl,rfl⟩,hT _⟩,jU hi,λh' tk k=>?_⟩);rw[hlen,lF];exact fin h' tk k
  |true =>
   refine call_any_walk (Gz ht' ⟨s.heap.objs.size,_,_,_,_,_,_,rfl,W,⟨⟨_,Ba _ rfl,rfl,rfl⟩,hT _⟩,jU hi,λh' tk k=>?_⟩);rw[hlen,lG];exact fin h' tk k
 |lst ed =>
  subst ed;obtain⟨a,ws,its,n,rfl,sq,t,rvi,ht,hl,_⟩:=yZ I r p;cases (show u=Ce a from q)
  have hL:s.heap.IsList a its.toArray:=⟨_,ht,rfl,n,rfl⟩;have hi:=yV hbs t rvi;have hlen:its.toArray.size=bs.length:=by rw[hi];simp
  have hne:a≠s.heap.objs.size:=Ci (Ay ht);have W:=Walks.list (prog:=X.prog) (w:=X.w) hh s.heap.objs.size a hne its.toArray;have hL':∀ o,(s.heap.push o).IsList a its.toArray:=λo=>⟨_,Ah _ ht,rfl,n,rfl⟩;cases any with
  |false =>
   refine call_all_walk (Gp hL ⟨s.heap.objs.size,_,_,_,_,_,_,rfl,W,⟨⟨_,Ba _ rfl,rfl,rfl⟩,hL' _⟩,jU hi,λh' tk k=>?_⟩);rw[hlen,lF];exact fin h' tk k
  |true =>
   refine call_any_walk (Gp hL ⟨s.heap.objs.size,_,_,_,_,_,_,rfl,W,⟨⟨_,Ba _ rfl,rfl,rfl⟩,hL' _⟩,jU hi,λh' tk k=>?_⟩);rw[hlen,lG];exact fin h' tk k
noncomputable def iO:DF:=λds S=>match ds with
 |[.int i]=>.ok (.int i) S
 |[.bl b]=>.ok (.int (b01 b)) S
 |_=>.bad
inductive IntV (ds:Aa D)(S:Sto):Prop
 |bad (e:iO ds S=.bad)
 |int (i:Al) (e:ds=[.int i])
 |bl (b:Aq) (e:ds=[.bl b])
theorem CP (ds:Aa D)(S:Sto):IntV ds S:=by
 cases ds with
 |nil=>exact .bad rfl
 |cons d ds =>
  cases ds with
  |cons _ _=>cases d <;> exact .bad rfl
  |nil =>
   cases d with
   |int i=>exact .int i rfl
   |bl b=>exact .bl b rfl
   |_=>exact .bad rfl
theorem MB:w5 X (.type "int") iO:=by
 intro pins σ H s P α S vs us ds Q I r rv rp af;cases CP ds S with
 |bad e=>rw[e] at af;exact An af
 |int i e =>
  subst e;obtain⟨v,u,rfl,rfl,p,q⟩:=vC rp rv;exact nV pins s σ H _ _ Q I rv (.inl ⟨_,by rw[xB p],xr af r (by simp only[Rep])⟩)
 |bl b e =>
  subst e;obtain⟨v,u,rfl,rfl,p,q⟩:=vC rp rv;simp only[Rep] at p;subst p;exact nV pins s σ H _ _ Q I rv (.inr ⟨_,rfl,xr af r (by simp only[Rep];rfl)⟩)
noncomputable def uX:DF:=λds S=>match ds with
 |[d]=>match zT d with
  |some xs=>.ok (.tup xs) S
  |none=>.bad
 |_=>.bad
theorem WI:w5 X (.type "tuple") uX:=by
 intro pins σ H s P α S vs us ds Q I r rv rp af;obtain⟨d,rfl,af1⟩:=rB (X:=X) (β:=D) (g:=λd=>match zT d with|some xs=>.ok (D.tup xs) S|none=>.bad) af
 obtain⟨xs,hx,af2⟩:∃ xs,zT d=Ab xs/\OkV X P α Q (.tup xs) S:=by
  cases hx:zT d with
  |none=>rw[hx] at af1;exact An af1
  |some xs=>rw[hx] at af1;exact⟨xs,rfl,af1⟩
 obtain⟨v,u,rfl,rfl,p,q⟩:=vC rp rv;cases itV hx with
 |tup e =>
  subst e;have p0:=p;simp only[Rep] at p;obtain⟨a,ws,rfl,sq,t⟩:=p;exact gW pins s σ H _ _ Q I rv ⟨a,ws,rfl,.inr ⟨xI r.sub sq,xr af2 r p0⟩⟩
 |lst e =>
  subst e;simp only[Rep] at p;obtain⟨a,ws,rfl,sq,t⟩:=p;exact gW pins s σ H _ _ Q I rv ⟨a,ws,rfl,.inl ⟨(xE r.sub sq).l,λl hl=>jC r hl t af2⟩⟩
noncomputable def lY:DF:=λds S=>match ds with
 |[d]=>match zT d with
  |some xs=>.ok (.lst xs) S
  |none=>.bad
 |_=>.bad
theorem K5:w5 X (.type "list") lY:=by
 intro pins σ H s P α S vs us ds Q I r rv rp af;obtain⟨d,rfl,af1⟩:=rB (X:=X) (β:=D) (g:=λd=>match zT d with|some xs=>.ok (D.lst xs) S|none=>.bad) af
 obtain⟨xs,hx,af2⟩:∃ xs,zT d=Ab xs/\OkV X P α Q (.lst xs) S:=by
  cases hx:zT d with
  |none=>rw[hx] at af1;exact An af1
  |some xs=>rw[hx] at af1;exact⟨xs,rfl,af1⟩
 obtain⟨v,u,rfl,rfl,p,q⟩:=vC rp rv;cases itV hx with
 |tup e =>
  subst e;simp only[Rep] at p;obtain⟨a,ws,rfl,sq,t⟩:=p;exact p8 pins s σ H _ _ Q I rv ⟨a,ws,rfl,.inr (xI r.sub sq),λl hl=>xV r hl t af2⟩
 |lst e =>
  subst e;simp only[Rep] at p;obtain⟨a,ws,rfl,sq,t⟩:=p;exact p8 pins s σ H _ _ Q I rv ⟨a,ws,rfl,.inl ((xE r.sub sq).l),λl hl=>xV r hl t af2⟩
end
section
variable {X:Cx}
structure ClsK (K:Aj)(cl:Aa Af):Prop where
 ex:∀ C∈cl,ExnK K C
 one:∀ C∈cl,∀ B∈cl,Li K (.ref C) (.ref B)=Ab (C == B)
 ve:∀ C∈cl,Li K (.ref C) (.type "ValueError")=Ab true
noncomputable def zP (cl:Aa Af):DF:=λds S=>match ds with
 |[.exn (.ref C),.obj B]=>if cl.contains C&&cl.contains B then .ok (.bl (C == B)) S else .bad
 |[.exn (.ref C),.ty b]=>if cl.contains C&&(b == "ValueError") then .ok (.bl true) S else .bad
 |_=>zY ds S
theorem QN {H P:Hp}{α:Aa Af}{S:Sto}{C:Af}{u:Ac}(I:Inv X pins σ H s)(r:Rel X.K H P α S)(p:Rep X.K P α (.exn (.ref C)) v)(q:qL v u):∃ a,u=.ref a/\vT a C s.heap:=by
 simp only[Rep] at p;obtain⟨a,rfl,z⟩:=p;obtain⟨y,_⟩:=I.hok a _ (r.sub _ _ z);exact⟨a,q,y⟩
inductive IsiE (cl:Aa Af)(ds:Aa D)(S:Sto):Prop
 |bad (e:zP cl ds S=.bad)
 |old (e:zP cl ds S=zY ds S)
 |obj (C B:Af) (ed:ds=[.exn (.ref C),.obj B]) (h1:C∈cl) (h2:B∈cl) (e:zP cl ds S=.ok (.bl (C == B)) S)
 |ve (C:Af) (ed:ds=[.exn (.ref C),.ty "ValueError"]) (h1:C∈cl) (e:zP cl ds S=.ok (.bl true) S)
theorem RU (cl:Aa Af)(C:Af)(d:D)(S:Sto):IsiE cl [.exn (.ref C),d] S:=by
 cases d with
 |obj B =>
  have z:zP cl [.exn (.ref C),.obj B] S=if (cl.contains C&&cl.contains B)=true then .ok (.bl (C == B)) S else .bad:=rfl
  by_cases h:(cl.contains C&&cl.contains B)=true
  .rw[Bl h] at z
   have h':=EQ.mp h;exact .obj C B rfl (Ex.mp h'.1) (Ex.mp h'.2) z
  .rw[Bm h] at z
   exact .bad z
 |ty b =>
  have z:zP cl [.exn (.ref C),.ty b] S=if (cl.contains C&&(b == "ValueError"))=true then .ok (.bl true) S else .bad:=rfl
  by_cases h:(cl.contains C&&(b == "ValueError"))=true
  .rw[Bl h] at z
   have h':=EQ.mp h;cases (Oa.mp h'.2);exact .ve C rfl (Ex.mp h'.1) z
  .rw[Bm h] at z
   exact .bad z
 |_=>exact .old rfl
theorem CS (cl:Aa Af)(ds:Aa D)(S:Sto):IsiE cl ds S:=by
 cases ds with
 |nil=>exact .old rfl
 |cons a ds =>
  cases a with
  |exn c =>
   cases c with
   |ref C =>
    cases ds with
    |nil=>exact .old rfl
    |cons b ds =>
     cases ds with
     |nil=>exact RU cl C b S
     |cons _ _=>cases b <;> exact .old rfl
   |_=>exact .old rfl
  |_=>exact .old rfl
theorem K1 {cl:Aa Af}(hK:ClsK X.K cl):w5 X (.builtin "isinstance") (zP cl):=by
 intro pins σ H s P α S vs us ds Q I r rv rp af;cases CS cl ds S with
 |bad e=>rw[e] at af;exact An af
 |old e=>rw[e] at af;exact oZ pins σ H s P α S vs us ds Q I r rv rp af
 |obj C B ed h1 h2 e =>
  rw[e] at af;subst ed;obtain⟨v,w,u,x,rfl,rfl,p,p',q,q'⟩:=jT rp rv;simp only[Rep] at p';obtain⟨rfl,_⟩:=p';cases (show x=Ce B from q')
  obtain⟨a,rfl,ha⟩:=QN I r p q;exact Ek (sW (hK.ex C h1)) I.kIn ha (hK.one C h1 B h2) (λz=>nomatch z) λtk=>⟨.bl _,H,I.tok tk,rfl,xr af r (by simp only[Rep])⟩
 |ve C ed h1 e =>
  rw[e] at af;subst ed;obtain⟨v,w,u,x,rfl,rfl,p,p',q,q'⟩:=jT rp rv;simp only[Rep] at p';subst p';cases (show x=Hb "ValueError" from q')
  obtain⟨a,rfl,ha⟩:=QN I r p q;exact Ek (sW (hK.ex C h1)) I.kIn ha (hK.ve C h1) (λz=>nomatch z) λtk=>⟨.bl _,H,I.tok tk,rfl,xr af r (by simp only[Rep])⟩
def MtD (X:Cx)(id:Dx)(g:D->Aa D->Sto->Res D):Prop:=
 ∀ (pins:Aa (Af × Co)) (σ : _L.St) (H:Hp) (s:Ag) (P:Hp) (α : Aa Af) (S:Sto) (v:V) (vv:Ac) (vs:Aa V) (us:Aa Ac) (a:D) (ds:Aa D) (Q:VK),Inv X pins σ H s->Rel X.K H P α S->qL v vv->Rep X.K P α a v->qK vs us->qE X.K P α ds vs->qV X P α (g a ds S) Q ->
  Ao (As X.prog X.w) X.A (call (.builtin id) (vv::us)) (EP X pins σ Q) X.xe s
noncomputable def dBm (T:Dx)(g:D->Aa D->Sto->Res D)(fo:DE)(fa:DA):DE:=λenv S=>(fo env S).bind λa S1=>if (tyD a S1 == Ab T)=true then (fa env S1).bind λds S2=>g a ds S2 else .bad
theorem XZ {H P:Hp}{α:Aa Af}{S:Sto}{a:D}{T:Dx}(r:Rel X.K H P α S)(p:Rep X.K P α a v)(h:tyD a S=Ab T)(hT:T = "list" \/ T = "dict" \/ T = "int" \/ T = "str"):tyV X.K T v H:=by
 cases a with
 |int i=>cases h;simp only[Rep] at p;subst p;rfl
 |str x=>cases h;simp only[Rep] at p;subst p;rfl
 |lst xs =>
  cases h;simp only[Rep] at p;obtain⟨b,vs,rfl,q,t⟩:=p;exact .inl ⟨rfl,vs,(xE r.sub q).l⟩
 |dct0 =>
  cases h;simp only[Rep] at p;obtain⟨b,rfl,q⟩:=p;exact .inr (.inr (.inl ⟨rfl,.inl ⟨[],r.sub _ _ q⟩⟩))
 |loc i =>
  simp only[Rep] at p;obtain⟨b,rfl,q⟩:=p;rcases tQ (f:=λ_=>Ab "list") (g:=λ_=>Ab "dict") h with⟨xs,hS,h⟩|⟨kvs,hS,h⟩
  .cases h
   obtain⟨vs,z,t⟩:=r.at' i b _ q hS;exact .inl ⟨rfl,vs,SqL.of z⟩
  .cases h
   obtain⟨vs,z,t⟩:=r.at' i b _ q hS;exact .inr (.inr (.inl ⟨rfl,.inl ⟨vs,z⟩⟩))
 |non=>cases h;exact absurd hT (by decide)
 |bl b=>cases h;exact absurd hT (by decide)
 |tup xs=>cases h;exact absurd hT (by decide)
 |_=>exact nn h
variable {o e:Bw}{es:Aa Bw}{fo:DE}{fa:DA}{name:Ap}{apos cpos:Fl}{T id:Dx}{g:D->Aa D->Sto->Res D}
theorem ML {P:Hp}{α:Aa Af}{a:D}{S:Sto}{β:Type}{k:Res β}{Ok:β->Sto->Prop}(h:qJ X P α (if (tyD a S == Ab T)=true then k else .bad) Ok):tyD a S=Ab T/\qJ X P α k Ok:=by
 by_cases z:(tyD a S == Ab T)=true
 .rw[Bl z] at h;exact⟨Oa.mp z,h⟩
 .rw[Bm z] at h;exact An h
theorem R8 (pa:PlainAttrs T)(slot:Slot T name id)(hty:typeOf (.builtin id)=pure (.type "method_descriptor"))(hT:T = "list" \/ T = "dict" \/ T = "int" \/ T = "str")(hm:MtD X id g)(ho:PE X o (tD X fo))(ha:PA X (e::es) (tDA X fa))
  (hbase:Rb o name X.env (eval o X.env)=eval o X.env:=by rfl)
  (hfew:((Gc cpos (Be (e::es) X.env)).all (λx=>!x.1)&&(backToKw cpos (keywordEach [] X.env)).all (λx=>x.1.isSome)
   && decide ((e::es).length+([]:Aa Keyword).length+(if ([] : Aa Keyword).isEmpty then 0 else 1)<30))=true:=by rfl)
  (hline:(apos.endLine == cpos.line)=true:=by rfl) (hs:Be (e::es) X.env=(false,eval e X.env)::Be es X.env:=by rfl) (hplain:(Gc cpos (Be es X.env)).any (·.1)=false:=by rfl) :
  PE X (.Call (.Attribute o name apos) (e::es) [] cpos) (tD X (dBm T g fo fa)):=by
 intro pins s σ H Q I h;obtain⟨P,α,env,S,r,re,af⟩:=h;refine wpAny_Call_method_late hbase hfew hline rfl (thn (zR ho I r re af) λvv s1 ⟨v,H1,P1,α1,d,S1,G1,af1⟩=>?_);obtain⟨ht,af2⟩:=ML af1;obtain⟨h1,h2⟩:=XY G1.inv G1.val (XZ G1.rel G1.rep ht hT);refine⟨T,id,pa,slot,hty,h1,h2,?_⟩;have hA:=wD ha G1.inv G1.rel G1.env (P:=P1) (α:=α1) (Ok:=OkV X P1 α1 Q) (qV.base G1.same G1.pre (r:=(fa env S1).bind λds S2=>g d ds S2) af2) cpos;rw[hs] at hA ⊢;refine To (by show (false||(Gc cpos (Be es X.env)).any (·.1))=false;rw[hplain] <;> rfl) (Vf ?_)
 exact thn hA λus s2 ⟨vs,H2,P2,α2,ds,S2,I2,rv,r2,re2,rp2,e1,e2,af3⟩=>hm pins σ H2 s2 P2 α2 S2 v vv vs us d ds Q I2 r2 G1.val (Rep.mono e1 e2 _ _ G1.rep) rv rp2 (qV.base e1 e2 af3)
noncomputable def wJ:D->Aa D->Sto->Res D:=λa ds S=>match a,ds with
 |.loc i,[d]=>match S[i]? with
  |some (.lst xs)=>if xs.length<lim then .ok .non (S.set i (.lst (xs++[d]))) else .bad
  |_=>.bad
 |_,_=>.bad
inductive ApV (a:D)(ds:Aa D)(S:Sto):Prop
 |bad (e:wJ a ds S=.bad)
 |of (i:Ai) (d:D) (xs:Aa D) (ea:a=.loc i) (ed:ds=[d]) (hS:S[i]? = Ab (.lst xs)) (hl:xs.length<lim) (e:wJ a ds S=.ok .non (S.set i (.lst (xs++[d]))))
theorem apV (a:D)(ds:Aa D)(S:Sto):ApV a ds S:=by
 cases a with
 |loc i =>
  cases ds with
  |nil=>exact .bad rfl
  |cons d ds =>
   cases ds with
   |cons _ _=>exact .bad rfl
   |nil =>
    have z:wJ (.loc i) [d] S=(match S[i]? with|some (.lst xs)=>(if xs.length<lim then .ok .non (S.set i (.lst (xs++[d]))) else .bad)|_=>.bad):=rfl
    cases hS:S[i]? with
    |none=>rw[hS] at z;exact .bad z
    |some m =>
     rw[hS] at z;cases m with
     |lst xs =>
      by_cases hl:xs.length<lim
      .exact .of i d xs rfl rfl hS hl (z.trans (Bl hl))
      .exact .bad (z.trans (Bm hl))
     |_=>exact .bad z
 |_=>exact .bad rfl
theorem ZH:MtD X "list.append" wJ:=by
 intro pins σ H s P α S v vv vs us a ds Q I r rv p rvs rps af;cases apV a ds S with
 |bad e=>rw[e] at af;exact An af
 |of i d xs ea ed hS hl e =>
  rw[e] at af;subst ea ed;obtain⟨w,u,rfl,rfl,p',q'⟩:=vC rps rvs;simp only[Rep] at p;obtain⟨b,rfl,q⟩:=p;obtain⟨ws,z,t⟩:=r.at' i b _ q hS;refine ZM pins s σ H (.ref b) [w] vv [u] Q I rv (.cons q' .nil) ⟨b,ws,w,rfl,rfl,z,by rw[<- t.length,<- zQ];exact hl,?_⟩
  exact xr af (r.put (m':=.lst (xs++[d])) q hS (by intro z;cases z) ⟨ws++[w],qU,t.append (.cons p' .nil)⟩) (by simp only[Rep])
end
noncomputable def yY:D->Ak Key
 |.int i=>Ab (.inl i)
 |.str x=>Ab (.inr x)
 |_=>none
noncomputable def wA (kvs:Aa (Key × D))(k:Key):Ak D:=(kvs.find? λkv=>decide (kv.1=k)).map (·.2)
noncomputable def yM (kvs:Aa (Key × D))(k:Key)(v:D):Aa (Key × D):=
 if (kvs.any λkv=>decide (kv.1=k))=true then kvs.map (λkv=>if kv.1=k then (kv.1,v) else kv) else kvs++[(k,v)]
section
variable {K:Aj}{P:Hp}{α : Aa Af}
theorem cK {vs:Aa (Key × V)}(r:KVs K P α kvs vs):kvs.length=vs.length:=Paired.length r
theorem cN {k:Key}:∀ {kvs:Aa (Key × D)} {vs:Aa (Key × V)},KVs K P α kvs vs->(∀ d,wA kvs k=Ab d->∃ v,yQ vs k=Ab v/\Rep K P α d v)/\(wA kvs k=none->yQ vs k=none)
 |_,_,.nil=>⟨λd h=>by simp[wA] at h,λ_=>rfl⟩
 |(k1,d1)::kvs,(k2,v2)::vs,.cons z t=>by
  obtain⟨e,r⟩:=z;dsimp only at e r;subst e;obtain⟨h1,h2⟩:=cN (k:=k) t;unfold wA yQ at *;by_cases hk:k1=k
  .subst hk
   constructor
   .intro d h
    simp at h;subst h;exact⟨v2,by simp,r⟩
   .intro h
    simp at h
  .constructor
   .intro d h
    rw[Tp (by simpa using hk)] at h ⊢
    exact h1 d h
   .intro h
    rw[Tp (by simpa using hk)] at h ⊢
    exact h2 h
theorem P8 {k:Key}{vs:Aa (Key × V)}(h:KVs K P α kvs vs):(kvs.any λkv=>decide (kv.1=k))=(vs.any λkv=>decide (kv.1=k)):=by
 induction h with
 |nil=>rfl
 |cons z t ih=>rw[Jq,Jq,ih,z.1]
theorem PB {k:Key}(q:Rep K P α d v){kvs:Aa (Key × D)}{vs:Aa (Key × V)}(h:KVs K P α kvs vs):KVs K P α (kvs.map λkv=>if kv.1=k then (kv.1,d) else kv) (vs.map λkv=>if kv.1=k then (kv.1,v) else kv):=by
 induction h with
 |nil=>exact .nil
 |cons z t ih =>
  rw[Dv,Dv];refine .cons ?_ ih;rw[<- z.1]
  split
  .exact⟨rfl,q⟩
  .exact z
theorem P9 {k:Key}(q:Rep K P α d v){kvs:Aa (Key × D)}{vs:Aa (Key × V)}(h:KVs K P α kvs vs):KVs K P α (kvs++[(k,d)]) (vs++[(k,v)]):=by
 induction h with
 |nil=>exact .cons ⟨rfl,q⟩ .nil
 |cons z t ih=>exact .cons z ih
theorem cL {k:Key}(q:Rep K P α d v){kvs:Aa (Key × D)}{vs:Aa (Key × V)}(r:KVs K P α kvs vs):KVs K P α (yM kvs k d) (yN vs k v):=by
 unfold yM yN;rw[P8 r]
 split
 .exact PB q r
 .exact P9 q r
theorem Z4 {k:Key}(h:yY d=Ab k)(r:Rep K P α d v):v=kV k:=by
 cases d with
 |int i=>cases h;simp only[Rep] at r;exact r
 |str x=>cases h;simp only[Rep] at r;exact r
 |_=>cases h
end
section
variable {X:Cx}{o i e:Bw}{pos:Fl}{fo fi:DE}
noncomputable def iI:DE:=λ_ S=>.ok (.loc S.length) (S++[.dct []])
theorem MR:PE X (.Dict [] [] pos) (tD X iI):=by
 refine peW rD λσ H Q ⟨P,α,env,S,r,re,af⟩ p hp=>?_;have hpre:α<+:α++[p]:=Jc _ _;have r1:=r.new (o:=.dK []) (m:=.dct []) hp ⟨[],qU,.nil⟩;refine af _ _ _ _ r1 (qG.refl _) hpre ?_;simp only[Rep];exact⟨p,rfl,by rw[<- r.len];simp⟩
noncomputable def fL:DE:=λ_ S=>.ok .dct0 S
theorem KJ:PE X (.Dict [] [] pos) (tD X fL):=by
 refine peW rD λσ H Q ⟨P,α,env,S,r,re,af⟩ p hp=>?_;obtain⟨r1,e1⟩:=r.pure (o:=.dK []) hp;refine af _ _ _ α r1 e1 (Bn _) ?_;simp only[Rep];exact⟨p,rfl,qU⟩
noncomputable def vU:G3:=λo i d S=>match o with
 |.loc n=>match S[n]? with
  |some (.dct kvs)=>match yY i with
   |some k=>if kvs.length<lim then .ok () (S.set n (.dct (yM kvs k d))) else .bad
   |none=>.bad
  |_=>tB o i d S
 |_=>tB o i d S
inductive Set2V (a b d:D)(S:Sto):Prop
 |bad (e:vU a b d S=.bad)
 |old (e:vU a b d S=tB a b d S)
 |of (n:Ai) (kvs:Aa (Key × D)) (k:Key) (ea:a=.loc n) (hS:S[n]? = Ab (.dct kvs)) (hk:yY b=Ab k) (hl:kvs.length<lim) (e:vU a b d S=.ok () (S.set n (.dct (yM kvs k d))))
theorem EZ (a b d:D)(S:Sto):Set2V a b d S:=by
 cases a with
 |loc n =>
  have z:vU (.loc n) b d S=(match S[n]? with|some (.dct kvs)=>(match yY b with|some k=>(if kvs.length<lim then .ok () (S.set n (.dct (yM kvs k d))) else .bad)|none=>.bad)|_=>tB (.loc n) b d S):=rfl
  cases hS:S[n]? with
  |none=>rw[hS] at z;exact .old z
  |some m =>
   rw[hS] at z;cases m with
   |dct kvs =>
    cases hk:yY b with
    |none=>rw[hk] at z;exact .bad z
    |some k =>
     rw[hk] at z;by_cases hl:kvs.length<lim
     .exact .of n kvs k rfl hS hk hl (z.trans (Bl hl))
     .exact .bad (z.trans (Bm hl))
   |_=>exact .old z
 |_=>exact .old rfl
theorem SE (hu:X.A.units+1<Fi):dJ X (dH X vU):=by
 intro pins s σ H o i v ov iv u Q I ro ri rv h;obtain⟨P,α,S,a,b,d,r,pa,pb,pd,af⟩:=h;cases EZ a b d S with
 |bad e=>rw[e] at af;exact An af
 |old e =>
  rw[e] at af;exact H0 pins s σ H o i v ov iv u Q I ro ri rv ⟨P,α,S,a,b,d,r,pa,pb,pd,af⟩
 |of n kvs k ea hS hk hl e =>
  rw[e] at af;subst ea;simp only[Rep] at pa;obtain⟨p,rfl,q⟩:=pa;obtain⟨vs,z,t⟩:=r.at' n p _ q hS;cases Z4 hk pb;cases (show ov=Ce p from ro)
  refine Q6 hu I (mL.k (v:=v) z (by rw[<- cK t,<- zQ];exact hl)) ri rv λs' I'=>⟨_,I',?_⟩
  exact af _ P α (r.put (m':=.dct (yM kvs k d)) q hS (by intro z;cases z) ⟨_,qU,cL pd t⟩) (qG.refl _) (Bn _)
noncomputable def IS:D->Aa D->Sto->Res D:=λa ds S=>match a,ds with
 |.loc n,[i,x]=>match S[n]? with
  |some (.dct kvs)=>match yY i with
   |some k=>.ok ((wA kvs k).getD x) S
   |none=>.bad
  |_=>.bad
 |_,_=>.bad
noncomputable def fQ:D->Aa D->Sto->Res D:=λa ds S=>match a,ds with
 |.lst xs,[.bl k]=>match x5 xs with
  |some bs=>.ok (.int (bs.countP (· == k):Ai)) S
  |none=>.bad
 |_,_=>.bad
noncomputable def tF (k:Aq):Aa Aq->Ak Ai
 |[]=>none
 |b::r=>if b=k then Ab 0 else (tF k r).map (· + 1)
noncomputable def fR:D->Aa D->Sto->Res D:=λa ds S=>match a,ds with
 |.lst xs,[.bl k]=>match (x5 xs).bind (tF k) with
  |some j=>.ok (.int j) S
  |none=>.bad
 |_,_=>.bad
theorem sI (k:Aq){bs:Aa Aq}{y:Ac}(hy:y∈(bs.map Fp).toArray):AaE y (.bool k) (Tq k y):=by
 have hy':y∈bs.map Fp:=by rwa [List.mem_toArray] at hy
 obtain⟨b,_,rfl⟩:=Dc.mp hy';exact λprog w A E s Q h=>xL b k prog w E Q h
theorem eE (k:Aq)(bs:Aa Aq):(bs.map Fp).countP (Tq k)=bs.countP (· == k):=by
 rw[List.countP_map];rfl
theorem dM {β:Type}{r:Res β}{P:Hp}{α:Aa Af}{Ok:β->Sto->Prop}(e:r=.bad)(h:qJ X P α r Ok):Fh:=by
 rw[e] at h;exact h
inductive BlV (a:D)(ds:Aa D):Prop
 |no (h:∀ (g:Aa D->Aq->Res D),(match a,ds with|.lst xs,[.bl k]=>g xs k|_,_=>.bad)=.bad)
 |of (xs:Aa D) (k:Aq) (ea:a=.lst xs) (ed:ds=[.bl k])
theorem blV (a:D)(ds:Aa D):BlV a ds:=by
 cases a with
 |lst xs =>
  cases ds with
  |nil=>exact .no λ_=>rfl
  |cons d ds =>
   cases ds with
   |cons _ _=>cases d <;> exact .no λ_=>rfl
   |nil =>
    cases d with
    |bl k=>exact .of xs k rfl rfl
    |_=>exact .no λ_=>rfl
 |_=>exact .no λ_=>rfl
theorem V3:MtD X "list.count" fQ:=by
 intro pins σ H s P α S v vv vs us a ds Q I r rv p rvs rps af;cases blV a ds with
 |no h=>exact(dM (X:=X) (r:=fQ a ds S) (h _) af).elim
 |of xs k ea ed =>
  subst ea ed;have af:qJ X P α (match x5 xs with|some bs=>Res.ok (D.int (bs.countP (· == k):Ai)) S|none=>.bad) (OkV X P α Q):=af
  cases hb:x5 xs with
  |none=>rw[hb] at af;exact An af
  |some bs =>
   rw[hb] at af;obtain⟨vx,ux,rfl,rfl,px,qx⟩:=vC rps rvs;simp only[Rep] at px;subst px;cases (show ux=Fp k from qx)
   obtain⟨b,ws,its,n,rfl,sq,t,rvi,ht,hl,_⟩:=yZ I r p;cases (show vv=Ce b from rv)
   have hi:=yV hb t rvi;subst hi;refine Pg Ss ⟨_,ht,rfl⟩ PySem.F.entry_list_count (PySem.F.args_list_count_2 _ _) (PySem.SeqAt.list_countAt b (bs.map Fp).toArray n none #[] (.bool k) (Tq k)) ⟨ht,λy hy=>(sI k hy).at _ _,?_⟩;refine⟨.int _,H,I.tok _,⟨_,rfl⟩,?_⟩;rw[show (bs.map Fp).toArray.toList=bs.map Fp from rfl,eE]
   exact xr af r (by simp only[Rep])
theorem cA {k:Aq}:∀ {bs:Aa Aq} {j:Ai},tF k bs=Ab j->∃ h:j<bs.length,bs[j]=k/\∀ m (hm:m<bs.length),m<j->bs[m]≠k
 |[],j,h=>by cases h
 |b::r,j,h=>by
  unfold tF at h;by_cases hb:b=k
  .rw[Bl hb] at h
   cases h;exact⟨by simp,by simpa using hb,λm hm z=>absurd z (Nat.not_lt_zero _)⟩
  .rw[Bm hb] at h
   obtain⟨i,hi,rfl⟩:=Do.mp h;obtain⟨h1,h2,h3⟩:=cA hi;refine⟨by simp;lia,by simpa using h2,λm hm hl=>?_⟩
   cases m with
   |zero=>simpa using hb
   |succ m=>simpa using h3 m (by simp at hm;lia) li
theorem V4:MtD X "list.index" fR:=by
 intro pins σ H s P α S v vv vs us a ds Q I r rv p rvs rps af;cases blV a ds with
 |no h=>exact(dM (X:=X) (r:=fR a ds S) (h _) af).elim
 |of xs k ea ed =>
  subst ea ed;have af:qJ X P α (match (x5 xs).bind (tF k) with|some j=>Res.ok (D.int j) S|none=>.bad) (OkV X P α Q):=af
  cases hj:(x5 xs).bind (tF k) with
  |none=>rw[hj] at af;exact An af
  |some j =>
   rw[hj] at af;obtain⟨bs,hb,hi⟩:=Ei.mp hj;obtain⟨vx,ux,rfl,rfl,px,qx⟩:=vC rps rvs;simp only[Rep] at px;subst px;cases (show ux=Fp k from qx)
   obtain⟨b,ws,its,n,rfl,sq,t,rvi,ht,hl,hz⟩:=yZ I r p;cases (show vv=Ce b from rv)
   have hi':=yV hb t rvi;subst hi';obtain⟨h1,h2,h3⟩:=cA hi;have hlen:bs.length<=sizeLine:=by
    have e1:=t.length;have e2:=rvi.length;rw[Av] at e2;rw[zQ] at hz
    lia
   refine Pg Su ⟨_,ht,rfl⟩ PySem.F.entry_list_index (PySem.F.args_list_index_2 _ _) (Aa5 b (bs.map Fp).toArray n (.bool k) (Tq k) (λy hy=>sI k hy) j (by simpa using h1) ?_ ?_ ?_) ⟨ht,?_⟩
   .rw[Ej] at hlen;lia
   .simp[Tq,h2]
   .intro m hm hl'
    have hm':m<bs.length:=by simpa using hm
    have:=h3 m hm' hl';simp[Tq,this]
   .exact⟨.int _,H,I.tok _,⟨_,rfl⟩,xr af r (by simp only[Rep])⟩
end
noncomputable def uB (S:Sto):Sto:=S.map λ_=>.dead
noncomputable def iB:D->Aq
 |.non=>true
 |.bl _=>true
 |.int _=>true
 |.str _=>true
 |_=>false
noncomputable def mapO {β γ:Type}(f:β->Ak γ) : Aa β -> Ak (Aa γ)
 |[]=>Ab []
 |b::r=>match f b,mapO f r with
  |some c,Ab cs=>Ab (c::cs)
  |_,_=>none
noncomputable def vP:Ai->Sto->D->Ak D
 |n+1,S,.tup xs=>(mapO (vP n S) xs).map .tup
 |n+1,S,.lst xs=>(mapO (vP n S) xs).map .lst
 |n+1,S,.loc i=>match S[i]? with
  |some (.lst xs)=>(mapO (vP n S) xs).map .lst
  |_=>none
 |_,_,.non=>Ab .non
 |_,_,.bl b=>Ab (.bl b)
 |_,_,.int i=>Ab (.int i)
 |_,_,.str x=>Ab (.str x)
 |_,_,.ty n=>Ab (.ty n)
 |_,_,.obj a=>Ab (.obj a)
 |_,_,.dct0=>Ab .dct0
 |_,_,.exn c=>Ab (.exn c)
 |_,_,_=>none
noncomputable def vN (H P:Hp)(α : Aa Af):Hp:=λb=>if (P b).isSome then P b else if b∈α then H b else none
section
variable {K:Aj}{H P:Hp}{α : Aa Af}{S:Sto}
theorem uY (H P:Hp)(α : Aa Af):qG P (vN H P α):=λb o e=>by
 unfold vN;rw[e];rfl
theorem YF (r:Rel K H P α S):qG (vN H P α) H:=λb o e=>by
 unfold vN at e
 split at e
 .exact r.sub b o e
 .split at e
  .exact e
  .cases e
theorem t7 {a:Af}(h:P a=none)(ha:a∈α):vN H P α a=H a:=by
 unfold vN;rw[h];simp[ha]
theorem Rel.frz (r:Rel K H P α S):Rel K H (vN H P α) α (uB S) where
 tb:=r.tb.keep (λ_ _ q _=>q) λb u q _ p n=>⟨by unfold vN;rw[p];simp[n],n⟩
 sub:=YF r
 len:=by rw[r.len];simp[uB]
 nd:=r.nd
 sep:=λi a o h1 h2 h3=>by
  unfold uB at h2;rw[Dp] at h2;cases q:S[i]? with
  |none=>rw[q] at h2;cases h2
  |some m=>rw[q] at h2;cases h2;exact absurd rfl h3
 at':=λi a o h1 h2=>by
  unfold uB at h2;rw[Dp] at h2;cases q:S[i]? with
  |none=>rw[q] at h2;cases h2
  |some m=>rw[q] at h2;cases h2;trivial
 own:=r.own
theorem Rel.unfrz {H' P1:Hp}{α1:Aa Af}{S1:Sto}(r:Rel K H P α S)(r1:Rel K H' P1 α1 S1)(e:qG (vN H P α) P1):Rel K H' P α S:=by
 have mem:∀ i a,α[i]? = Ab a->a∈α:=λi a h=>Bp h;have kp:∀ (i:Ai) (a:Af) (o:MO) (u:HO),α[i]? = Ab a->S[i]? = Ab o->o≠MO.dead->H a=Ab u->H' a=Ab u:=λi a o u h1 h2 h3 h4 =>
  r1.sub a u (e a u (by rw[t7 (r.sep i a o h1 h2 h3) (mem i a h1)];exact h4))
 refine⟨λx hx c T h=>let ⟨ps,e,_,_,ok,cd⟩:=r1.tb x hx c T h;let ⟨_,_,pn,an,_,_⟩:=r.tb x hx c T h;⟨ps,e,pn,an,ok,cd⟩,(uY H P α).trans (e.trans r1.sub),r.len,r.nd,r.sep,λi a o h1 h2=>?_,λi a h1=>?_⟩
 .have m:=r.at' i a o h1 h2
  cases o with
  |dead=>trivial
  |lst ds=>obtain⟨vs,q,t⟩:=m;exact⟨vs,kp i a _ _ h1 h2 (by intro z;cases z) q,t⟩
  |dct kvs=>obtain⟨vs,q,t⟩:=m;exact⟨vs,kp i a _ _ h1 h2 (by intro z;cases z) q,t⟩
  |ins C fs=>obtain⟨dx,vs,q,t⟩:=m;exact⟨dx,vs,kp i a _ _ h1 h2 (by intro z;cases z) q,t⟩
 .have h:=r.own i a h1
  cases q:H a with
  |none=>exact absurd q h
  |some u =>
   have z:∃ u',vN H P α a=Ab u':=by
    cases q2:P a with
    |none=>exact⟨u,by rw[t7 q2 (mem i a h1)];exact q⟩
    |some u'=>exact⟨u',uY H P α a u' q2⟩
   obtain⟨u',z⟩:=z;rw[r1.sub a u' (e a u' z)];intro w;cases w
set_option tactic.hygienic true in
theorem qE.mapO {f:D->Ak D}{P':Hp}(h:∀ d t v,f d=Ab t->Rep K P α d v->Rep K P' α t v):∀ {ds ts:Aa D} {vs:Aa V},_D.mapO f ds=Ab ts->qE K P α ds vs->qE K P' α ts vs
 |[],ts,vs,e,r=>by cases e;rw[r.nil_inv];exact .nil
 |d::ds,ts,vs,e,r=>by
  obtain⟨w,ws,rfl,r1,r2⟩:=r.cons_inv;unfold _D.mapO at e
  split at e
  .rename_i c cs h1 h2
   cases e;exact .cons (h d c w h1 r1) (qE.mapO h h2 r2)
  .cases e
theorem aE (r:Rel K H P α S):∀ (n:Ai) (d t:D) (v:V),vP n S d=Ab t->Rep K P α d v->Rep K (vN H P α) α t v:=by
 have mono:∀ (d:D) (v:V),Rep K P α d v->Rep K (vN H P α) α d v:=λd v=>Rep.mono (uY H P α) (Bn _) d v;intro n
 induction n with
 |zero =>
  intro d t v h p;cases d <;> first|(cases h;exact mono _ _ p)|exact nn h
 |succ n ih =>
  intro d t v h p;cases d with
  |tup xs =>
   obtain⟨ts,h1,rfl⟩:=Do.mp h;simp only[Rep] at p ⊢;obtain⟨a,vs,rfl,q,t⟩:=p;exact⟨a,vs,rfl,yO (uY H P α) q,qE.mapO (λd t v=>ih d t v) h1 t⟩
  |lst xs =>
   obtain⟨ts,h1,rfl⟩:=Do.mp h;simp only[Rep] at p ⊢;obtain⟨a,vs,rfl,q,t⟩:=p;exact⟨a,vs,rfl,xE (uY H P α) q,qE.mapO (λd t v=>ih d t v) h1 t⟩
  |loc i =>
   have h:(match S[i]? with|some (.lst xs)=>(_D.mapO (vP n S) xs).map D.lst|_=>none)=Ab t:=h
   cases hS:S[i]? with
   |none=>rw[hS] at h;exact nn h
   |some m =>
    rw[hS] at h;cases m with
    |lst xs =>
     obtain⟨ts,h1,rfl⟩:=Do.mp h;simp only[Rep] at p ⊢;obtain⟨a,rfl,q⟩:=p;obtain⟨vs,z,t⟩:=r.at' i a _ q hS;refine⟨a,vs,rfl,.inl (.inl ?_),qE.mapO (λd t v=>ih d t v) h1 t⟩;rw[t7 (r.sep i a _ q hS (by intro z;cases z)) (Bp q)]
     exact z
    |_=>exact nn h
  |fd ks ds=>exact nn h
  |clo a vs ds=>exact nn h
  |_=>cases h;exact mono _ _ p
theorem WC {P':Hp}{α':Aa Af}(h:iB d=true)(p:Rep K P α d v):Rep K P' α' d v:=by
 cases d with
 |non=>simpa only [Rep] using p
 |bl b=>simpa only [Rep] using p
 |int i=>simpa only [Rep] using p
 |str x=>simpa only [Rep] using p
 |_=>cases h
end
noncomputable def bU:Ai:=20
noncomputable def iW (r:Res D)(S:Sto):Res D:=match r with
 |.ok d _=>if iB d then .ok d S else .bad
 |_=>.bad
theorem iX {X:Cx}{H P:Hp}{α:Aa Af}{S:Sto}{r:Res D}(rl:Rel X.K H P α S)(af:qV X P α (iW r S) Q):qV X (vN H P α) α r Q:=by
 cases r with
 |ok d S' =>
  obtain⟨ha,af⟩:=xK (X:=X) af;exact λv H' P' α' r' e1 e2 rp=>af v H' P α (rl.unfrz r' e1) (qG.refl _) (Bn _) (WC ha rp)
 |ex c x S'=>exact An af
 |bad=>exact An af
section
variable {X:Cx}
noncomputable def pX (g:G2):G2:=λa b S=>match vP bU S a,vP bU S b with
 |some x,Ab y=>iW (g x y (uB S)) S
 |_,_=>.bad
set_option tactic.hygienic true in
theorem OpD.look {g:G2}(h:OpD X f g):OpD X f (pX g):=by
 intro pins σ H s P α S v u vv uu a b Q I r rv ru pa pb af;unfold pX at af
 split at af
 .rename_i x y hx hy
  exact h pins σ H s _ α (uB S) v u vv uu x y Q I r.frz rv ru (aE r bU a x v hx pa) (aE r bU b y u hy pb) (iX r af)
 .exact An af
variable {cm:Aq}{k:Ai}{f:Af}{fd:Fw}{ps:Aa Ap}{F:DF}{x:Ap}{p pos:Fl}{e:Bw}{es:Aa Bw}{fa:DA}{n:Ai}
end
section
variable {X:Cx}{a b c e:Bw}{pos:Fl}{fa fe:DE}
noncomputable def OD (i:Ai)(g:G2)(fe:DE):DS:=λenv S=>match env[i]? with
 |some (Ab x)=>(fe env S).toS env λy S1=>(g x y S1).toS env λz S2=>.nx (env.set i (Ab z)) S2
 |_=>.bad
noncomputable def zX (xs:Aa D)(lo hi:Ak Al):Aa D:=(xs.drop (_H.sIx xs.length 0 lo)).take (_H.sIx xs.length xs.length hi-_H.sIx xs.length 0 lo)
abbrev DO:=qF->Sto->Res (Ak Al)
def OkO (X:Cx)(P:Hp)(α : Aa Af)(Q:Ak Al->Hp->Prop)(o:Ak Al)(S':Sto):Prop:=∀ H' P' α',Rel X.K H' P' α' S'->qG P P'->α<+:α'->Q o H'
def tDO (X:Cx)(f:DO):TO:=λσ H Q=>∃ P α env S,Rel X.K H P α S/\qZ X.K P α σ env/\qJ X P α (f env S) (OkO X P α Q)
noncomputable def xZ:DO:=λ_ S=>.ok none S
noncomputable def x8 (f:DE):DO:=λenv S=>(f env S).bind λd S1=>match d with
 |.int i=>.ok (Ab i) S1
 |_=>.bad
theorem KY:PO X none (tDO X xZ):=λpins s σ H Q I ⟨P,α,env,S,r,re,af⟩=>BI pins s σ H Q I (af H P α r (qG.refl _) (Bn _))
theorem KZ (he:PE X e (tD X fe)):PO X (Ab e) (tDO X (x8 fe)):=by
 intro pins s σ H Q I h;obtain⟨P,α,env,S,r,re,af⟩:=h;refine BJ (te:=tD X fe) he pins s σ H Q I ⟨P,α,env,S,r,re,?_⟩;have af':qJ X P α ((fe env S).bind λd S1=>match d with|.int i=>.ok (Ab i) S1|_=>.bad) (OkO X P α Q):=af
 cases q:fe env S with
 |bad=>rw[q] at af';exact af'
 |ex c x S'=>rw[q] at af';exact af'
 |ok d S1 =>
  rw[q] at af';intro v H1 P1 α1 r1 e1 e2 rp;cases d with
  |int i=>exact⟨i,xB rp,af' H1 P1 α1 r1 e1 e2⟩
  |_=>exact An af'
theorem qE.cut {K:Aj}{P:Hp}{α:Aa Af}(r:qE K P α ds vs)(lo hi:Ak Al):qE K P α (zX ds lo hi) (pA vs lo hi):=by
 unfold zX pA;rw[r.length];exact(r.drop _).take _
noncomputable def gSl (d:D)(lo hi:Ak Al)(S:Sto):Res D:=match d with
 |.lst xs=>.ok (.lst (zX xs lo hi)) S
 |.loc i=>match S[i]? with
  |some (.lst xs)=>.ok (.lst (zX xs lo hi)) S
  |_=>.bad
 |.tup xs=>.ok (.tup (zX xs lo hi)) S
 |_=>.bad
noncomputable def dSl (fe:DE)(fl fh:DO):DE:=λenv S=>(fe env S).bind λd S1=>(fl env S1).bind λlo S2=>(fh env S2).bind λhi S3=>gSl d lo hi S3
end
end _D
namespace _D
open PySem PySem.Spec PyProof.Rows _L _H
section
variable {prog:Bd}{w:Bz}{A:Bt}{E:Ac->Ag->Prop}{s:Ag}
theorem p5 {t sl:Af}{items:Ax Ac}{vl vu:Ac}{lo hi:Ak Al}{Q:Ac->Ag->Prop}(ht:Sm s.heap t items)(hs:s.heap.IsSliceOf sl vl vu .none)(pl:Qj vl lo)(pu:Qj vu hi)
  (hw:sIx items.size 0 lo=0/\sIx items.size items.size hi=items.size) (h:Q (.ref t) s):Ao (As prog w) A (Qx (.ref t) (.ref sl)) Q E s:=by
 obtain⟨ob,hob,hcb,_⟩:=id hs;have hTs:s.TypeIs (.ref sl) "slice":=⟨ob,hob,hcb⟩;unfold Qx
 try with_reducible refine Ee ?_
 first|refine Ad (Am ?_)|skip
 refine Ad (Xs ht.typeIs (by decide) ?_)
 refine Ad (Eh (name:=Il "__getitem__") ht.typeIs Ft
  (Em Ft ht.typeIs Vt ?_ (Wp _ _)))
 show Ao _ _ (Ql (.ref t) >>= _) _ _ s;refine Ad (tupleItemsOf_ ht ?_);refine Ad (Ng hTs ?_);rw[Bl (by decide)]
 refine Ad (jF hs pl pu ?_);show Ao _ _ (if (((sIx items.size 0 lo:Ai):Al) == 0&&(1:Al) == 1&&(sIx items.size items.size hi-sIx items.size 0 lo) == items.size)=true then _ else _) _ _ s
 rw[hw.1,hw.2,Bl (by simp)]
 unfold x0;refine Ad (Ad (Ng ht.typeIs (Am ?_)));rw[Bl (by decide)]
 exact Ad (Hd (Am ⟨_,rfl,Am h⟩))
end
section
variable {X:Cx}{e:Bw}{fe:DE}{pos p2:Fl}
def A9 (X:Cx):V->Ak Al->Ak Al->Hp->VK->Prop:=λx lo hi H Q=>∃ P α S d,Rel X.K H P α S/\Rep X.K P α d x/\qV X P α (gSl d lo hi S) Q
theorem AC:SlR X (A9 X):=by
 intro pins s σ H x v vl vu lo hi sl Q I rx hs pl pu h;obtain⟨P,α,S,d,r,p,af⟩:=h;cases d with
 |lst xs =>
  simp only[Rep] at p;obtain⟨a,vs,rfl,q,t⟩:=p;exact aL pins s σ H _ v vl vu lo hi sl Q I rx hs pl pu ⟨a,vs,rfl,(xE r.sub q).l,λb hb=>xV r hb (qE.cut t lo hi) af⟩
 |loc i =>
  obtain⟨xs,hS,af⟩:=gK (X:=X) (f:=λxs=>Res.ok (D.lst (zX xs lo hi)) S) af;simp only[Rep] at p;obtain⟨a,rfl,q⟩:=p;obtain⟨vs,z,t⟩:=r.at' i a _ q hS;exact aL pins s σ H _ v vl vu lo hi sl Q I rx hs pl pu ⟨a,vs,rfl,SqL.of z,λb hb=>xV r hb (qE.cut t lo hi) af⟩
 |tup xs =>
  have p0:=p;simp only[Rep] at p;obtain⟨a,vs,rfl,q,t⟩:=p;by_cases hw:sIx vs.length 0 lo=0/\sIx vs.length vs.length hi=vs.length
  .cases rx
   obtain⟨its,rv,ht,hz⟩:=I.tuple (xI r.sub q);have hlen:its.toArray.size=vs.length:=by rw[Bf];exact rv.length.symm
   refine⟨"tuple",_,Ft.lookup,ht.typeIs,p5 ht hs pl pu (by rw[hlen];exact hw) ⟨.ref a,H,I,rfl,xr af r ?_⟩⟩
   have e:zX xs lo hi=xs:=by
    unfold zX;rw[t.length,hw.1,hw.2,<- t.length];simp
   rw[e];exact p0
  .exact SG pins s σ H _ v vl vu lo hi sl Q I rx hs pl pu ⟨a,vs,rfl,xI r.sub q,hw,λb hb=>jC r hb (qE.cut t lo hi) af⟩
 |_=>exact An af
theorem WV {lo hi:Ak Bw}{fl fh:DO}(he:PE X e (tD X fe))(hl:PO X lo (tDO X fl))(hu:PO X hi (tDO X fh)):PE X (.Subscript e (.Slice lo hi none p2) pos) (tD X (dSl fe fl fh)):=
 peW (VG AC he hl hu) λσ H Q ⟨P,α,env,S,r,re,af⟩=>by
  refine⟨P,α,env,S,r,re,?_⟩;have af':qJ X P α ((fe env S).bind λd S1=>(fl env S1).bind λlo S2=>(fh env S2).bind λhi S3=>gSl d lo hi S3) (OkV X P α Q):=af;cases q:fe env S with
  |bad=>rw[q] at af';exact af'
  |ex c x S'=>rw[q] at af';exact af'
  |ok d S1 =>
   rw[q] at af';intro v H1 P1 α1 r1 e1 e2 rp;refine⟨P1,α1,env,S1,r1,re.mono e1 e2,?_⟩;have af2:qJ X P1 α1 ((fl env S1).bind λlo S2=>(fh env S2).bind λhi S3=>gSl d lo hi S3) (OkV X P1 α1 Q):=qV.base e1 e2 af';cases q2:fl env S1 with
   |bad=>rw[q2] at af2;exact af2
   |ex c x S'=>rw[q2] at af2;exact af2
   |ok l S2 =>
    rw[q2] at af2;intro H2 P2 α2 r2 e3 e4;refine⟨P2,α2,env,S2,r2,(re.mono e1 e2).mono e3 e4,?_⟩;have af3:qJ X P2 α2 ((fh env S2).bind λhi S3=>gSl d l hi S3) (OkV X P2 α2 Q):=qV.base e3 e4 af2;cases q3:fh env S2 with
    |bad=>rw[q3] at af3;exact af3
    |ex c x S'=>rw[q3] at af3;exact af3
    |ok u S3 =>
     rw[q3] at af3;intro H3 P3 α3 r3 e5 e6;exact⟨P3,α3,S3,d,r3,Rep.mono (e3.trans e5) (e4.trans e6) _ _ rp,qV.base e5 e6 af3⟩
noncomputable def jY (d:D)(S:Sto):Res D:=match d with
 |.int i=>if i.natAbs.log2<1920 then .ok (.str (toString i)) S else .bad
 |.str x=>if x.length<=lim then .ok (.str x) S else .bad
 |_=>.bad
set_option tactic.hygienic true in
theorem MS (he:PE X e (tD X fe)):PE X (.FormattedValue e (-1) none pos) (tD X (d1 jY fe)):=by
 intro pins s σ H Q I h;obtain⟨P,α,env,S,r,re,af⟩:=h;refine FormattedValue_plain (thn (zR he I r re af) λvv s1 ⟨v,H1,P1,α1,d,S1,G1,af1⟩=>?_);have p:=G1.rep;have rv:=G1.val;have af2:=qV.base G1.same G1.pre af1;cases d with
 |int i =>
  simp only[jY] at af2
  split at af2
  .rename_i hd
   simp only[Rep] at p;subst p;obtain⟨t,rfl⟩:=rv;exact formatField_int_small hd ⟨.str _,H1,G1.inv.tok _,⟨_,rfl⟩,xr af2 G1.rel (by simp only[Rep])⟩
  .exact An af2
 |str x =>
  simp only[jY] at af2
  split at af2
  .rename_i hd
   simp only[Rep] at p;subst p;obtain⟨t,rfl⟩:=rv;exact formatField_str (λt' tk=>⟨.str _,H1,G1.inv.tok _,⟨_,rfl⟩,xr af2 G1.rel (by simp only[Rep])⟩) (by rw[<- zQ];exact hd)
  .exact An af2
 |_=>exact An af2
noncomputable def gC (out:Ap):Aa DE->qF->Sto->Res D
 |[],_,S=>if out.length<=lim then .ok (.str out) S else .bad
 |p::ps,env,S=>(p env S).bind λd S1=>match d with
  |.str y=>if (out++y).length<=lim then gC (out++y) ps env S1 else .bad
  |_=>.bad
def PJ (X:Cx)(es:Aa Bw)(fs:Aa DE):Prop:=
 ∀ (out:Ap) (pins:Aa (Af × Co)) (s:Ag) (σ : _L.St) (H P:Hp) (α : Aa Af) (env:qF) (S:Sto) (Q:VK),Inv X pins σ H s->Rel X.K H P α S->qZ X.K P α σ env->qV X P α (gC out fs env S) Q ->
  Ao (As X.prog X.w) X.A (joinParts out (evalEach es X.env)) (EP X pins σ Q) X.xe s
theorem D0:PJ X [] []:=by
 intro out pins s σ H P α env S Q I r re af;obtain⟨hl,af⟩:=xK (X:=X) af;exact joinParts_nil ⟨.str _,H,I.tok _,⟨_,rfl⟩,xr af r (by simp only[Rep])⟩ (by rw[<- zQ];exact hl)
theorem BG {es:Aa Bw}{fs:Aa DE}(he:PE X e (tD X fe))(hr:PJ X es fs):PJ X (e::es) (fe::fs):=by
 intro out pins s σ H P α env S Q I r re af;have af:qJ X P α ((fe env S).bind λd S1=>match d with|.str y=>if (out++y).length<=lim then gC (out++y) fs env S1 else .bad|_=>.bad) (OkV X P α Q):=af
 refine joinParts_cons (thn (zR he I r re af) λvv s1 ⟨v,H1,P1,α1,d,S1,G1,af1⟩=>?_);cases d with
 |str y =>
  have p:=G1.rep;simp only[Rep] at p;subst p;obtain⟨t,rfl⟩:=G1.val;obtain⟨hl,af1⟩:=xK (X:=X) af1;exact⟨by rw[<- zQ];exact hl,hr (out++y) pins s1 σ H1 P1 α1 env S1 Q G1.inv G1.rel G1.env (qV.base G1.same G1.pre af1)⟩
 |_=>exact An af1
noncomputable def lW (fs:Aa DE):DE:=λenv S=>gC Lz fs env S
theorem KL {v₁ v₂:Bw}{rest:Aa Bw}{fs:Aa DE}(h:PJ X (v₁::v₂::rest) fs):PE X (.JoinedStr (v₁::v₂::rest) pos) (tD X (lW fs)):=by
 intro pins s σ H Q I hq;obtain⟨P,α,env,S,r,re,af⟩:=hq;exact JoinedStr_many (h Lz pins s σ H P α env S Q I r re af)
end
end _D
namespace _D
open PySem PySem.Spec PyProof.Rows _L
variable {α:Aa Af}{N:Aa Ap}{its ds dsF:Aa D}{body:Aa Fj}{vs:Aa V}{Q:Ac->Ag->Prop}{C:Af}{Qa Qd:Ag->Prop}{m:Ai}{o':Ak (Ai × MO)}{tp:Aq}{xs ys:Ax Ac}{h':Bq}{R:It->Hp->Prop}{S SF:Sto}{env envF:qF}
def zF (tp:Aq)(h:Bq)(it l:Af)(k:Ai):Prop:=if tp then h.IsTupleIter it l k else h.IsListIter it l k
def xP (tp:Aq)(h:Bq)(l:Af)(xs:Ax Ac):Prop:=if tp then h.IsTuple l xs else h.IsList l xs
theorem zF.keep {h:Bq}{it l:Af}{k:Ai}(x:zF tp h it l k)(q:∀ o,h.get? it=Ab o->h'.get? it=Ab o):zF tp h' it l k:=by
 cases tp <;> (obtain⟨o,e,r⟩:=x;exact⟨o,q o e,r⟩)
theorem xP.keep {h:Bq}{l:Af}(x:xP tp h l xs)(q:∀ o,h.get? l=Ab o->h'.get? l=Ab o):xP tp h' l xs:=by
 cases tp <;> (obtain⟨o,e,r⟩:=x;exact⟨o,q o e,r⟩)
theorem zF.there {h:Bq}{it l:Af}{k:Ai}(x:zF tp h it l k):∃ o,h.get? it=Ab o/\∀ v,o.data≠.cell v:=by
 cases tp <;> (obtain⟨o,e,_,d⟩:=x;exact⟨o,e,λv z=>by rw[d] at z;cases z⟩)
section
variable {prog:Bd}{w:Bz}{A:Bt}{E:Ac->Ag->Prop}{s:Ag}
theorem V8 {it t:Af}{i:Ai}{items:Ax Ac}{x:Ac}(hit:s.heap.IsTupleIter it t i)(ht:s.heap.IsTuple t items)(hx:items[i]? = Ab x)
  (hQ:∀ h',h'.IsTupleIter it t (i+1)->Fe it s.heap h'->Q x { s with heap:=h' }) : Ao (As prog w) A (Ea (.ref it)) Q E s:=by
 obtain⟨o,e,c,d⟩:=id hit;obtain⟨u,eu,_,m,du⟩:=ht;unfold Ea;refine Ad (Eh (name:=Il "__next__") hit.typeIs Jf (Em Jf hit.typeIs Pr ?_ (Pi _)));show Ao _ _ (field (.ref it) 0 >>= _) _ _ s;refine Ad (Eg e d (x:=.ref t) rfl ?_);show Ao _ _ (if (Ce t == Dm)=true then _ else _) _ _ s;rw[Bm (show ¬ ((Ce t == Dm)=true) from Gy)]
 show Ao _ _ (field (.ref it) 1 >>= _) _ _ s;refine Ad (Eg e d (x:=.int i 0) rfl ?_);show Ao _ _ (seqItems? (.ref t) >>= _) _ _ s;refine Ad (Hk eu du ?_);simp only[Ez,hx];refine Ad (No e d (by simp) (Am ⟨x,rfl,Am (hQ _ ⟨_,Gd _ e (Obj.isFreed_of_fields (Wu d _)),(Obj.cls_mapFields ..).trans c,?_⟩ (Ho ..))⟩))
 rw[Wu d];simp[Gj]
theorem sZ {it t:Af}{i:Ai}{items:Ax Ac}{Q:Ac->Ag->Prop}(hh:A.handled=none)(hit:s.heap.IsTupleIter it t i)(ht:s.heap.IsTuple t items)(hx:items[i]? = none)
  (hE:∀ h' e,Heap.ExtBut it s.heap h'->(∃ o,h'.get? e=Ab o/\o.cls=.type "StopIteration")->E (.ref e) { s with heap:=h' }) : Ao (As prog w) A (Ea (.ref it)) Q E s:=by
 obtain⟨o,e,c,d⟩:=id hit;obtain⟨u,eu,_,m,du⟩:=ht;unfold Ea;refine Ad (Eh (name:=Il "__next__") hit.typeIs Jf (Em Jf hit.typeIs Pr ?_ (Pi _)));show Ao _ _ (field (.ref it) 0 >>= _) _ _ s;refine Ad (Eg e d (x:=.ref t) rfl ?_);show Ao _ _ (if (Ce t == Dm)=true then _ else _) _ _ s;rw[Bm (show ¬ ((Ce t == Dm)=true) from Gy)]
 show Ao _ _ (field (.ref it) 1 >>= _) _ _ s;refine Ad (Eg e d (x:=.int i 0) rfl ?_);show Ao _ _ (seqItems? (.ref t) >>= _) _ _ s;refine Ad (Hk eu du ?_);simp only[Ez,hx];refine Ad (Hd (Ad (No e d (by simp) ?_)))
 show Ao _ _ (newExc (.type "StopIteration") [] >>= _) _ _ _;refine Ad ?_;simp only[newExc,newTuple];refine Ad (Eo ?_ (by size_fits))
 refine Ad (m:=Ps _ _) (Qn (a:=Dm) (by first|rfl|(simp only[Ps];rfl)) (Eo ?_ (by size_fits)))
 simp only[raiseNew];refine Ad (wpAny_handled ?_)
 first|rw[show A.in1.handled=none from hh]|rw[hh]
 exact Ad (Am (wpAny_throw (hE _ _ (((Ho ..).extBut.push _).push _) ⟨_,Ba _ rfl,rfl⟩)))
theorem gJ {it l:Af}{k:Ai}{x:Ac}(hit:zF tp s.heap it l k)(hl:xP tp s.heap l xs)(hx:xs[k]? = Ab x)
  (hQ:∀ h',zF tp h' it l (k+1)->Fe it s.heap h'->Q x { s with heap:=h' }) : Ao (As prog w) A (Ea (.ref it)) Q E s:=by
 cases tp with
 |false=>exact wpAny_nextOf_list_item hit hl hx hQ
 |true=>exact V8 hit hl hx hQ
theorem jA {it l:Af}{k:Ai}{Q:Ac->Ag->Prop}(hh:A.handled=none)(hit:zF tp s.heap it l k)(hl:xP tp s.heap l xs)(hx:xs[k]? = none)
  (hE:∀ h' e,Heap.ExtBut it s.heap h'->(∃ o,h'.get? e=Ab o/\o.cls=.type "StopIteration")->E (.ref e) { s with heap:=h' }) : Ao (As prog w) A (Ea (.ref it)) Q E s:=by
 cases tp with
 |false=>exact wpAny_nextOf_list_end hh hit hl hx hE
 |true=>exact sZ hh hit hl hx hE
structure ZA (z I O i j:Af):Prop where
 Iz:I≠z
 Oz:O≠z
 iz:i≠z
 jz:j≠z
 IO:I≠O
 Ii:I≠i
 Ij:I≠j
 Oi:O≠i
 Oj:O≠j
 ij:i≠j
structure Off (z O i j a:Af):Prop where
 z:a≠z
 O:a≠O
 i:a≠i
 j:a≠j
abbrev WA (z O i j:Af)(h h':Bq):Prop:=∀ c o,c≠z->c≠O->c≠i->c≠j->h.get? c=Ab o->h'.get? c=Ab o
theorem UK {tq:Aq}{z I O i j a b:Af}{k:Ai}{x y p q:Ac}(D:ZA z I O i j)(Da:Off z O i j a)(Db:Off z O i j b)
  (hz:Pu s.heap z I O .none) (hI:Jg s.heap I (.ref i) (.ref j)) (hO:Jg s.heap O p q) (h1:zF tp s.heap i a k) (h2:zF tq s.heap j b k) (ha:xP tp s.heap a xs) (hb:xP tq s.heap b ys) (hx:xs[k]? = Ab x) (hy:ys[k]? = Ab y)
  (hQ:∀ h',Pu h' z I O (Gj s.heap.objs.size)->Jg h' O x y->zF tp h' i a (k+1)->zF tq h' j b (k+1)->Jg h' s.heap.objs.size x y->h'.objs.size=s.heap.objs.size+1->WA z O i j s.heap h'->Q (.ref s.heap.objs.size) { s with heap:=h' }) :
  Ao (As prog w) A (Hn.«zip.__next__» ⟨[.ref z],[]⟩) (λfin s'=>∃ v,fin=.done (.ret v)/\Q v s') E s:=by
 show Ao _ _ (field (.ref z) 2 >>= _) _ _ _;refine Ad (Eg hz rfl (x:=.bool false) rfl ?_);show Ao _ _ (field (.ref z) 3 >>= _) _ _ _;refine Ad (Eg hz rfl (x:=.ref I) rfl (Ad (Hk hI rfl ?_)));show Ao _ _ (Ev (.ref z) >>= _) _ _ _;refine Ad ?_;unfold Ev;refine Ad (Eg hz rfl (x:=.none) rfl (Am ?_));simp only[Dw];refine Ad (Hd (Ad (Eg hz rfl (x:=.ref O) rfl (Ad (Ff hz (by simp) λg1 z1 s1=>?_)))))
 replace z1:Pu g1 z I O .ellipsis:=z1
 refine Ad ?_;simp only[Sg,Zl,Mn,Nn];refine Ad (Ad (Rc ?_));show Ao _ _ (Ea (.ref i) >>= _) _ _ _;refine Ad (gJ (h1.keep λo e=>s1.extBut _ _ D.iz e) (ha.keep λo e=>s1.extBut _ _ Da.z e) hx λg2 i2 s2=>Am ?_);have O2:Jg g2 O p q:=s2.extBut _ _ D.Oi (s1.extBut _ _ D.Oz hO);refine Ad (Hk O2 rfl (Ad (ON O2 λg3 O3 s3=>Ad (Ug (Am ?_)))))
 replace O3:Jg g3 O x q:=O3
 refine Ad (Ad (Rc ?_));show Ao _ _ (Ea (.ref j) >>= _) _ _ _;refine Ad (gJ (h2.keep λo e=>s3.extBut _ _ D.Oj.symm (s2.extBut _ _ D.ij.symm (s1.extBut _ _ D.jz e))) (hb.keep λo e=>s3.extBut _ _ Db.O (s2.extBut _ _ Db.i (s1.extBut _ _ Db.z e))) hy λg4 j4 s4=>Am ?_);have O4:Jg g4 O x q:=s4.extBut _ _ D.Oj O3;refine Ad (Hk O4 rfl (Ad (ON O4 λg5 O5 s5=>Ad (Ug (Am (Am ?_))))))
 replace O5:Jg g5 O x y:=O5
 refine Ad (Hk O5 rfl (Ad (Uw ?_)));have sz:g5.objs.size=s.heap.objs.size:=by rw[s5.1,s4.1,s3.1,s2.1,s1.1]
 have z5:Pu g5 z I O .ellipsis:=s5.extBut _ _ D.Oz.symm (s4.extBut _ _ D.jz.symm (s3.extBut _ _ D.Oz.symm (s2.extBut _ _ D.iz.symm z1)));have k5:WA z O i j s.heap g5:=λc o c1 c2 c3 c4 e=>s5.extBut _ _ c2 (s4.extBut _ _ c4 (s3.extBut _ _ c2 (s2.extBut _ _ c3 (s1.extBut _ _ c1 e))));have i5:zF tp g5 i a (k+1):=i2.keep λo e=>s5.extBut _ _ D.Oi.symm (s4.extBut _ _ D.ij (s3.extBut _ _ D.Oi.symm e));have j5:zF tq g5 j b (k+1):=j4.keep λo e=>s5.extBut _ _ D.Oj.symm e;have zl:z<g5.objs.size:=Ay z5;show Ao _ _ (Gv (.ref z) (.ref g5.objs.size) >>= _) _ _ _;refine Ad ?_;unfold Gv;have z6:Pu (g5.push { cls:=.type "tuple",data:=.seq #[x,y] }) z I O .ellipsis:=Ah _ z5;refine Ad (Ff z6 (by simp) λg7 z7 s7=>?_)
 replace z7:Pu g7 z I O (Gj g5.objs.size):=z7
 refine Ff z7 (by simp) λg8 z8 s8=>?_
 replace z8:Pu g8 z I O (Gj g5.objs.size):=z8
 have up:∀ c o,c≠z->g5.get? c=Ab o->g8.get? c=Ab o:=λc o c1 e=>s8.extBut _ _ c1 (s7.extBut _ _ c1 (Ah _ e));have T8:Jg g8 g5.objs.size x y:=s8.extBut _ _ (Gi zl) (s7.extBut _ _ (Gi zl) (Ba _ rfl));have sz8:g8.objs.size=g5.objs.size+1:=by rw[s8.1,s7.1,Dz]
 rw[sz] at z8 T8 sz8;refine Am ⟨_,rfl,?_⟩;show Q (.ref g5.objs.size) _;rw[sz];exact hQ g8 z8 (up _ _ D.Oz O5) (i5.keep λo e=>up _ o D.iz e) (j5.keep λo e=>up _ o D.jz e) T8 sz8 λc o c1 c2 c3 c4 e=>up c o c1 (k5 c o c1 c2 c3 c4 e)
end
section
variable {prog:Bd}{w:Bz}{A:Bt}{E:Ac->Ag->Prop}{s:Ag}
theorem UM {tq:Aq}{z I O i j a b:Af}{k:Ai}{p q:Ac}{Q:Fin->Ag->Prop}(hh:A.handled=none)(D:ZA z I O i j)(Da:Off z O i j a)(Db:Off z O i j b)
  (hz:Pu s.heap z I O .none) (hI:Jg s.heap I (.ref i) (.ref j)) (hO:Jg s.heap O p q) (h1:zF tp s.heap i a k) (h2:zF tq s.heap j b k) (ha:xP tp s.heap a xs) (hb:xP tq s.heap b ys) (hend:xs[k]? = none\/ys[k]? = none)
  (hE:∀ h' e,WA z O i j s.heap h'->(∃ o,h'.get? e=Ab o/\o.cls=.type "StopIteration")->E (.ref e) { s with heap:=h' }) : Ao (As prog w) A (Hn.«zip.__next__» ⟨[.ref z],[]⟩) Q E s:=by
 show Ao _ _ (field (.ref z) 2 >>= _) _ _ _;refine Ad (Eg hz rfl (x:=.bool false) rfl ?_);show Ao _ _ (field (.ref z) 3 >>= _) _ _ _;refine Ad (Eg hz rfl (x:=.ref I) rfl (Ad (Hk hI rfl ?_)));show Ao _ _ (Ev (.ref z) >>= _) _ _ _;refine Ad ?_;unfold Ev;refine Ad (Eg hz rfl (x:=.none) rfl (Am ?_));simp only[Dw];refine Ad (Hd (Ad (Eg hz rfl (x:=.ref O) rfl (Ad (Ff hz (by simp) λg1 z1 s1=>?_)))))
 replace z1:Pu g1 z I O .ellipsis:=z1
 refine Ad ?_;simp only[Sg,Zl,Mn,Nn];refine Ad (Ad (Rc ?_));show Ao _ _ (Ea (.ref i) >>= _) _ _ _;have it1:zF tp g1 i a k:=h1.keep λo e=>s1.extBut _ _ D.iz e;have sq1:xP tp g1 a xs:=ha.keep λo e=>s1.extBut _ _ Da.z e;cases hx:xs[k]? with
 |none =>
  refine Ad (jA hh it1 sq1 hx λg2 e x2 he=>?_);obtain⟨oe,h3,h4⟩:=he;have z2:Pu g2 z I O .ellipsis:=x2 _ _ D.iz.symm z1;have ne:e≠z:=λy=>by subst y;rw[z2] at h3;cases h3;simp at h4
  exact Ff z2 (by simp) λg3 _ s3=>hE g3 e (λc o c1 _ c3 _ y=>s3.extBut _ _ c1 (x2 _ _ c3 (s1.extBut _ _ c1 y))) ⟨oe,s3.extBut _ _ ne h3,h4⟩
 |some x =>
  have hy:ys[k]? = none:=by
   rcases hend with y|y
   .rw[hx] at y;cases y
   .exact y
  refine Ad (gJ it1 sq1 hx λg2 i2 s2=>Am ?_);have O2:Jg g2 O p q:=s2.extBut _ _ D.Oi (s1.extBut _ _ D.Oz hO);refine Ad (Hk O2 rfl (Ad (ON O2 λg3 O3 s3=>Ad (Ug (Am ?_)))));refine Ad (Ad (Rc ?_));show Ao _ _ (Ea (.ref j) >>= _) _ _ _;refine Ad (jA hh (h2.keep λo e=>s3.extBut _ _ D.Oj.symm (s2.extBut _ _ D.ij.symm (s1.extBut _ _ D.jz e))) (hb.keep λo e=>s3.extBut _ _ Db.O (s2.extBut _ _ Db.i (s1.extBut _ _ Db.z e))) hy λg4 e x4 he=>?_);obtain⟨oe,h3,h4⟩:=he;have z4:Pu g4 z I O .ellipsis:=x4 _ _ D.jz.symm (s3.extBut _ _ D.Oz.symm (s2.extBut _ _ D.iz.symm z1));have ne:e≠z:=λy=>by subst y;rw[z4] at h3;cases h3;simp at h4
  exact Ff z4 (by simp) λg5 _ s5=>hE g5 e (λc o c1 c2 c3 c4 y=>s5.extBut _ _ c1 (x4 _ _ c4 (s3.extBut _ _ c2 (s2.extBut _ _ c3 (s1.extBut _ _ c1 y))))) ⟨oe,s5.extBut _ _ ne h3,h4⟩
noncomputable abbrev vW (tp:Aq)(l:Af):Co:={ cls:=.type (if tp then "tuple_iterator" else "list_iterator"),data:=.fields #[.ref l,.int 0 0] }
noncomputable abbrev zh1 (tp:Aq)(h:Bq)(a:Af):Bq:=h.push (vW tp a)
noncomputable abbrev zh2 (tp tq:Aq)(h:Bq)(a b:Af):Bq:=(zh1 tp h a).push (vW tq b)
noncomputable abbrev zh3 (tp tq:Aq)(h:Bq)(a b:Af):Bq:=(zh2 tp tq h a b).push { cls:=.type "tuple",data:=.seq #[.ref h.objs.size,.ref (zh1 tp h a).objs.size] }
noncomputable abbrev zh4 (tp tq:Aq)(h:Bq)(a b:Af):Bq:=(zh3 tp tq h a b).push { cls:=.type "tuple",data:=.seq #[.none,.none] }
noncomputable abbrev zh5 (tp tq:Aq)(h:Bq)(a b:Af):Bq:=(zh4 tp tq h a b).push { cls:=.type "zip",data:=.fields #[.none,.bool false,.bool false,.ref (zh2 tp tq h a b).objs.size,.ref (zh3 tp tq h a b).objs.size] }
set_option maxHeartbeats 4000000 in
theorem FW (tp:Aq)(a b:Af)(xs ys:Ax Ac) :
  Meets (Hn.«zip.__new__» ⟨[.type "zip",.ref a,.ref b],[]⟩) (λ_ R s=>xP tp s.heap a xs/\xP tp s.heap b ys/\R (.ok (.ret (.ref (zh4 tp tp s.heap a b).objs.size))) { s with heap:=zh5 tp tp s.heap a b }):=
 .of_wp λprog w A R s h=>by
  obtain⟨hp,g,d,tk,os⟩:=s;obtain⟨q1,q2,h⟩:=h;have hsub:=sub_zip;have e2:∀ ob:Co,xP tp (hp.push ob) b ys:=λob=>q2.keep λo e=>Ah _ e;cases tp
  .have l1:Yu (Ot ⟨hp,g,d,tk,os⟩) a xs:=q1
   have l2:Yu (Ot ⟨hp.push { cls:=.type "list_iterator",data:=.fields #[.ref a,.int 0 0] },g,d,tk,os⟩) b ys:=e2 _
   wp_walk using Gp l1,Gp l2
   exact⟨_,rfl,h⟩
  .have l1:Xf (Ot ⟨hp,g,d,tk,os⟩) a xs:=q1
   have l2:Xf (Ot ⟨hp.push { cls:=.type "tuple_iterator",data:=.fields #[.ref a,.int 0 0] },g,d,tk,os⟩) b ys:=e2 _
   wp_walk using Gz l1,Gz l2
   exact⟨_,rfl,h⟩
theorem gB {h:Bq}{it l:Af}(e:h.get? it=Ab (vW tp l)):zF tp h it l 0:=by
 cases tp
 .exact⟨_,e,rfl,rfl⟩
 .exact⟨_,e,rfl,rfl⟩
theorem WH {a b:Af}(ha:xP tp s.heap a xs)(hb:xP tp s.heap b ys)
  (h:∀ h',Pu h' (s.heap.objs.size+4) (s.heap.objs.size+2) (s.heap.objs.size+3) .none->Jg h' (s.heap.objs.size+2) (.ref s.heap.objs.size) (.ref (s.heap.objs.size+1)) ->
   Jg h' (s.heap.objs.size+3) .none .none->zF tp h' s.heap.objs.size a 0->zF tp h' (s.heap.objs.size+1) b 0->h'.objs.size=s.heap.objs.size+5->(∀ c o,s.heap.get? c=Ab o->h'.get? c=Ab o)->Q (.ref (s.heap.objs.size+4)) { s with heap:=h' }) :
  Ao (As prog w) A (call (.type "zip") [.ref a,.ref b]) Q E s:=by
 refine Xg F.called_zip (by decide) (F.typeCall_zip_2 _ _) (F.newCall_zip_2 _ _) (λobj=>F.args_object_init_3 obj _ _) F.entry_zip_new (FW tp a b xs ys) ⟨ha,hb,?_⟩
 have y1:(zh1 tp s.heap a).objs.size=s.heap.objs.size+1:=Dz ..;have y2:(zh2 tp tp s.heap a b).objs.size=s.heap.objs.size+2:=by rw[Dz,y1]
 have y3:(zh3 tp tp s.heap a b).objs.size=s.heap.objs.size+3:=by rw[Dz,y2]
 have y4:(zh4 tp tp s.heap a b).objs.size=s.heap.objs.size+4:=by rw[Dz,y3]
 have y5:(zh5 tp tp s.heap a b).objs.size=s.heap.objs.size+5:=by rw[Dz,y4]
 have g5:(zh5 tp tp s.heap a b).get? (zh4 tp tp s.heap a b).objs.size=Ab _:=Ba _ rfl;have g4:(zh5 tp tp s.heap a b).get? (zh3 tp tp s.heap a b).objs.size=Ab _:=Ah _ (Ba _ rfl);have g3:(zh5 tp tp s.heap a b).get? (zh2 tp tp s.heap a b).objs.size=Ab _:=Ah _ (Ah _ (Ba _ rfl));have g2:(zh5 tp tp s.heap a b).get? (zh1 tp s.heap a).objs.size=Ab (vW tp b):=Ah _ (Ah _ (Ah _ (Ba _ rfl)));have g1:(zh5 tp tp s.heap a b).get? s.heap.objs.size=Ab (vW tp a):=Ah _ (Ah _ (Ah _ (Ah _ (Ba _ rfl))));have kp:∀ c o,s.heap.get? c=Ab o->(zh5 tp tp s.heap a b).get? c=Ab o:=λc o e=>Ah _ (Ah _ (Ah _ (Ah _ (Ah _ e))));show _/\_;rw[y2,y3,y4] at g5;rw[y1,y2] at g3;rw[y3] at g4;rw[y1] at g2;rw[y4];exact⟨⟨_,g5,rfl⟩,h _ g5 g3 g4 (gB g1) (gB g2) y5 kp⟩
end
def Sq (tp:Aq)(K:Aj)(H:Hp)(a:Af)(xs:Aa V):Prop:=if tp then SqT K H a xs else SqL K H a xs
section
variable {X:Cx}{pins:Aa (Af × Co)}{σ : _L.St}{H:Hp}{s:Ag}
theorem Sq.at {a:Af}{xs:Aa V}(I:Inv X pins σ H s)(q:Sq tp X.K H a xs):∃ its,qK xs its/\xP tp s.heap a its.toArray:=by
 cases tp with
 |true =>
  obtain⟨its,rv,p,_⟩:=I.tuple q;exact⟨its,rv,p⟩
 |false =>
  obtain⟨its,rv,p,_⟩:=I.list q;exact⟨its,rv,p.isList⟩
theorem Sq.inj {a:Af}{xs ys:Aa V}(I:Inv X pins σ H s)(q:Sq tp X.K H a xs)(q':Sq tp X.K H a ys):xs=ys:=by
 cases tp with
 |true=>exact I.tuple_inj q q'
 |false=>exact I.list_inj q q'
theorem Sq.off {a b:Af}{xs:Aa V}(I:Inv X pins σ H s)(q:Sq tp X.K H a xs)(f:xC X pins H b):a≠b:=by
 have key:H a≠none\/∃ o,X.K.lookup a=Ab o:=by
  cases tp with
  |true =>
   rcases q with (q|⟨o,q⟩)|⟨o,_,_,q,_⟩
   .exact .inl (by rw[q];intro z;cases z)
   .exact .inl (by rw[q];intro z;cases z)
   .exact .inr ⟨_,q⟩
  |false =>
   rcases q with (q|⟨o,q⟩)|⟨o,_,_,q,_⟩
   .exact .inl (by rw[q];intro z;cases z)
   .exact .inl (by rw[q];intro z;cases z)
   .exact .inr ⟨_,q⟩
 rintro rfl;rcases key with k|⟨o,k⟩
 .exact k f.1
 .have e:=I.mod.kin a o k
  rcases f.2.2.2.1 with z|z
  .exact I.ok.noex a o e z
  .exact absurd (Ay (I.ok.bs a o e).1) (NE.mpr z)
theorem Inv.turnLay {fp:Aa Af}{T:Af}{xs:Aa V}{its:Aa Ac}(I:Inv X pins σ H s)(hf:∀ b∈fp,xC X pins H b)(k:∀ b o,b ∉ fp->s.heap.get? b=Ab o->h'.get? b=Ab o)(th:∀ b∈fp,∃ o,h'.get? b=Ab o)
  (hT:s.heap.objs.size<=T) (rv:qK xs its) (hx:Sm h' T its.toArray) (hz:xs.length<=sizeLine):Inv X pins σ (upd H T (.tup xs)) { s with heap:=h' }:=by
 have hn:H T=none:=I.hok.fresh hT;have ne:∀ b o,s.heap.get? b=Ab o->b≠T:=λb o e=>Ci (Bb (Ay e) hT);refine I.step (g':=s.gens) (d':=s.drawn) (t':=s.toks) (ch:=fp) (λb hb=>⟨(hf b hb).2.2.2.1,(hf b hb).2.1,(hf b hb).2.2.2.2.1,(hf b hb).2.2.2.2.2⟩) (λb o _ _ hc e _=>k b o hc e) (λb o _ _ hc e _=>⟨o.slots,k b o hc e⟩)
  (λb o _ e n=>by rw[qI (ne b o e)];exact n) (λb o hc e=>⟨o,k b o hc e⟩) (λb ys e=>by rw[qI (qT e hn)];exact e) (λb o u e=>by rw[qI (qT e hn)];exact e)
  (λb ps e=>⟨#[],by rw[qI (qT e hn),e];simp⟩) (λm hm=>?_) (λb u e=>?_) I.bare
 .obtain⟨o,es,ep,ho,r⟩:=hm
  exact⟨o,es,ep,k _ o (λz=>(hf _ z).2.1 rfl) ho,r⟩
 .by_cases hb:b=T
  .subst hb
   rw[qU] at e;cases e;exact⟨hz,its,rv,hx⟩
  .rw[qI hb] at e
   refine(I.hok b u e).stay (λc v hc q=>k c v (λz=>?_) q) (λc q=>by rw[qI (qT q hn)];exact q) λc ys q=>by rw[qI (qT q hn)];exact q
   have hcn:=(hf c z).1;rcases hc with rfl|hc
   .rw[hcn] at e;cases e
   .rw[hcn] at hc;cases hc
theorem Inv.turnL {fp:Aa Af}(I:Inv X pins σ H s)(hf:∀ b∈fp,xC X pins H b)(k:∀ b o,b ∉ fp->s.heap.get? b=Ab o->h'.get? b=Ab o):Inv X pins σ H { s with heap:=h' }:=by
 refine I.step (g':=s.gens) (d':=s.drawn) (t':=s.toks) (ch:=fp) (λb hb=>⟨(hf b hb).2.2.2.1,(hf b hb).2.1,(hf b hb).2.2.2.2.1,(hf b hb).2.2.2.2.2⟩) (λb o _ _ hc e _=>k b o hc e) (λb o _ _ hc e _=>⟨o.slots,k b o hc e⟩)
  (λb o _ e n=>n) (λb o hc e=>⟨o,k b o hc e⟩) (λb ys e=>e) (λb o u e=>e) (λb ps e=>⟨#[],by rw[e];simp⟩) (λm hm=>?_) (λb u e=>?_) I.bare
 .obtain⟨o,es,ep,ho,r⟩:=hm
  exact⟨o,es,ep,k _ o (λz=>(hf _ z).2.1 rfl) ho,r⟩
 .refine(I.hok b u e).stay (λc v hc q=>k c v (λz=>?_) q) (λc q=>q) λc ys q=>q
  have hcn:=(hf c z).1;rcases hc with rfl|hc
  .rw[hcn] at e;cases e
  .rw[hcn] at hc;cases hc
end
noncomputable def Itz (tp:Aq)(K:Aj)(a b:Af):It:=
  ⟨λi H=>∃ xs ys x y,Sq tp K H a xs/\Sq tp K H b ys/\xs[i]? = Ab x/\ys[i]? = Ab y,
   λi H v H'=>∃ T x y,v=.ref T/\H T=none/\H'=upd H T (.tup [x,y])/\(∀ xs,Sq tp K H a xs->xs[i]? = Ab x)/\∀ ys,Sq tp K H b ys->ys[i]? = Ab y,
   λi H=>∃ xs ys,Sq tp K H a xs/\Sq tp K H b ys/\(xs.length<=i\/ys.length<=i)⟩
def i9 (tp:Aq)(z I O i j a b:Af)(k:Ai)(h:Bq):Prop:=∃ p q,Pu h z I O .none/\Jg h I (.ref i) (.ref j)/\Jg h O p q/\zF tp h i a k/\zF tp h j b k
theorem pM {z I O i j a b:Af}{k:Ai}{h:Bq}(st:i9 tp z I O i j a b k h):∀ c∈[z,I,O,i,j],∃ o,h.get? c=Ab o/\∀ v,o.data≠.cell v:=λc hc=>by
 obtain⟨p,q,s1,s2,s3,s4,s5⟩:=st;simp only[Aw,Dl,Hg] at hc;rcases hc with rfl|rfl|rfl|rfl|rfl
 .exact⟨_,s1,λv y=>by cases y⟩
 .exact⟨_,s2,λv y=>by cases y⟩
 .exact⟨_,s3,λv y=>by cases y⟩
 .exact s4.there
 .exact s5.there
theorem JE {c z I O i j:Af}(h:c ∉ [z,I,O,i,j]):c≠z/\c≠O/\c≠i/\c≠j:=by
 simp only[Aw,Dl,Hg,Wk] at h;exact⟨h.1,h.2.2.1,h.2.2.2.1,h.2.2.2.2⟩
theorem UB {P:Bd}{w:Bz}{K:Aj}{elts:Aa Bw}{x1:Ai}{tpos:Fl}{z I O i j a b:Af}(D:ZA z I O i j):Turn P w K (.Tuple elts x1 tpos) (Itz tp K a b) [z,I,O,i,j] z (i9 tp z I O i j a b) where
 mem:=.head _
 obj:=λk h st=>pM st
 keep:=λk h h' st kp=>by
  obtain⟨p,q,s1,s2,s3,s4,s5⟩:=st;exact⟨p,q,kp z (.head _) _ s1,kp I (.tail _ (.head _)) _ s2,kp O (.tail _ (.tail _ (.head _))) _ s3,s4.keep λo e=>kp i (.tail _ (.tail _ (.tail _ (.head _)))) o e,s5.keep λo e=>kp j (.tail _ (.tail _ (.tail _ (.tail _ (.head _))))) o e⟩
 item:=by
  intro X hP hw hK hc k pins s σ H E Iv hf st hg;subst hP hw hK;obtain⟨p,q,s1,s2,s3,s4,s5⟩:=st;obtain⟨xs,ys,x,y,qa,qb,hx,hy⟩:=hg;obtain⟨ia,ra,ha⟩:=qa.at Iv;obtain⟨ib,rb,hb⟩:=qb.at Iv;obtain⟨u,hu,ru⟩:=ra.get hx;obtain⟨u',hu',ru'⟩:=rb.get hy;have off:∀ {c:Af} {zs:Aa V},Sq tp X.K H c zs->Off z O i j c:=λ{c zs} qc=>⟨qc.off Iv (hf z (.head _)),qc.off Iv (hf O (.tail _ (.tail _ (.head _)))),qc.off Iv (hf i (.tail _ (.tail _ (.tail _ (.head _))))),qc.off Iv (hf j (.tail _ (.tail _ (.tail _ (.tail _ (.head _))))))⟩;have hT:s.TypeIs (.ref z) "zip":=⟨_,s1,rfl⟩;unfold Nl;refine Ad (Iu (Eh (name:=Il "__next__") hT OW (Em OW hT Yv
   (UK D (off qa) (off qb) s1 s2 s3 s4 s5 ha hb (by simpa using hu) (by simpa using hu') λh' a1 a2 a3 a4 a5 a6 a7=>Am ?_) (Xz _))))
  refine⟨_,rfl,wpAny_letOwnedTupleGo_zip (s:={ s with heap:=h' }) a1 λh2 b1 b2=>?_⟩
  have up:∀ c o,c≠z->h'.get? c=Ab o->h2.get? c=Ab o:=λc o n e=>(b2.2 c n).trans e;have zl:z<s.heap.objs.size:=Ay s1;have T2:Jg h2 s.heap.objs.size u u':=up _ _ (Gi zl) a5;have st2:i9 tp z I O i j a b (k+1) h2:=⟨u,u',b1,up _ _ D.Iz (a7 I _ D.Iz D.IO D.Ii D.Ij s2),up _ _ D.Oz a2,a3.keep λo e=>up _ o D.iz e,a4.keep λo e=>up _ o D.jz e⟩;refine⟨.ref s.heap.objs.size,upd H s.heap.objs.size (.tup [x,y]),?_,rfl,⟨_,x,y,rfl,Iv.hok.fresh (Au _),rfl,λzs qz=>by rw[qz.inj Iv qa];exact hx,λzs qz=>by rw[qz.inj Iv qb];exact hy⟩,st2,λc hc=>?_⟩
  .show _L.Inv X pins σ (upd H s.heap.objs.size (.tup [x,y])) { s with heap:=h2 }
   refine Inv.turnLay (fp:=[z,I,O,i,j]) (its:=[u,u']) Iv hf (λc o hc e=>?_) (λc hc=>?_) (Au _) (.cons ru (.cons ru' .nil)) ⟨_,T2,rfl,_,rfl⟩ (by show 2<=sizeLine;decide)
   .have hc:=JE hc
    exact up c o hc.1 (a7 c o hc.1 hc.2.1 hc.2.2.1 hc.2.2.2 e)
   .obtain⟨o,e,_⟩:=pM st2 c hc
    exact⟨o,e⟩
  .have hn:=(hf c hc).1
   rw[qI ?_]
   .exact hn
   .rintro rfl
    obtain⟨o,e,_⟩:=pM ⟨p,q,s1,s2,s3,s4,s5⟩ _ hc;exact absurd (Ay e) (Et _)
 done:=by
  intro X hP hw hK hc k pins s σ H E Iv hf st hg;subst hP hw hK;obtain⟨p,q,s1,s2,s3,s4,s5⟩:=st;obtain⟨xs,ys,qa,qb,hend⟩:=hg;obtain⟨ia,ra,ha⟩:=qa.at Iv;obtain⟨ib,rb,hb⟩:=qb.at Iv;have off:∀ {c:Af} {zs:Aa V},Sq tp X.K H c zs->Off z O i j c:=λ{c zs} qc=>⟨qc.off Iv (hf z (.head _)),qc.off Iv (hf O (.tail _ (.tail _ (.head _)))),qc.off Iv (hf i (.tail _ (.tail _ (.tail _ (.head _))))),qc.off Iv (hf j (.tail _ (.tail _ (.tail _ (.tail _ (.head _))))))⟩;have hT:s.TypeIs (.ref z) "zip":=⟨_,s1,rfl⟩;have l1:=ra.length;have l2:=rb.length;unfold Nl;refine Ad (Iu (Eh (name:=Il "__next__") hT OW (Em OW hT Yv
   (UM (Iv.ok.hd hc) D (off qa) (off qb) s1 s2 s3 s4 s5 ha hb ?_ λh' e kp he=>?_) (Xz _))))
  .rcases hend with y|y
   .exact .inl (by simp;lia)
   .exact .inr (by simp;lia)
  .obtain⟨o,ho,hcl⟩:=he
   refine Ad (Ou (T:="StopIteration") (b:=true) ⟨o,ho,hcl⟩ Ux (Am ⟨rfl,Inv.turnL (fp:=[z,I,O,i,j]) Iv hf λc o hc e=>?_⟩));have hc:=JE hc;exact kp c o hc.1 hc.2.1 hc.2.2.1 hc.2.2.2 e
 self:=λ_ _ _ _ _ st h=>by
  obtain⟨p,q,s1,_⟩:=st;exact Yw s1 h
noncomputable def wY (xs ys:Aa D):Aa D:=List.zipWith (λx y=>D.tup [x,y]) xs ys
noncomputable def SZ (ds:Aa D):Ak (Aa D):=match ds with
 |[.tup xs,.tup ys]=>Ab (wY xs ys)
 |[.lst xs,.lst ys]=>Ab (wY xs ys)
 |_=>none
noncomputable def bT (f:DA):DI:=λenv S=>(f env S).bind λds S1=>vQ (SZ ds) S1
theorem UJ {xs ys:Aa D}{i:Ai}:(wY xs ys)[i]? = match xs[i]?,ys[i]? with|some x,Ab y=>Ab (D.tup [x,y])|_,_=>none:=by
 unfold wY;rw[List.getElem?_zipWith];cases xs[i]? <;> cases ys[i]? <;> rfl
theorem fJ (xs ys:Aa D):(wY xs ys).length=min xs.length ys.length:=by simp[wY]
section
variable {K:Aj}
theorem Sq.mono {P P':Hp}(e:qG P P'){a:Af}{xs:Aa V}(q:Sq tp K P a xs):Sq tp K P' a xs:=by
 cases tp with
 |true=>exact yO e q
 |false=>exact e.seq q
theorem GY {P:Hp}{a b:Af}{xs ys:Aa D}{ws:Aa V}(qa:Sq tp K P a vs)(qb:Sq tp K P b ws)(ta:qE K P α xs vs)(tb:qE K P α ys ws):ItD K (Itz tp K a b) P α (wY xs ys) where
 go:=λi H P1 α1 S hi r e _=>by
  rw[fJ] at hi;have h1:i<vs.length:=by rw[<- ta.length];lia
  have h2:i<ws.length:=by rw[<- tb.length];lia
  exact⟨vs,ws,vs[i],ws[i],qa.mono (e.trans r.sub),qb.mono (e.trans r.sub),by simp,by simp⟩
 yld:=λi H x H' P1 α1 S hi r e e2 y=>by
  obtain⟨T,u,w,rfl,hT,rfl,hu,hw⟩:=y;rw[fJ] at hi;have h1:i<xs.length:=by lia
  have h2:i<ys.length:=by lia
  obtain⟨v1,z1,p1⟩:=ta.get (Ar h1);obtain⟨v2,z2,p2⟩:=tb.get (Ar h2);have eu:=hu vs (qa.mono (e.trans r.sub));have ew:=hw ws (qb.mono (e.trans r.sub));rw[z1] at eu;cases eu;rw[z2] at ew;cases ew;obtain⟨r1,s1⟩:=r.pure (o:=.tup [u,w]) hT;refine⟨_,.tup [xs[i],ys[i]],?_,r1,s1,?_⟩
  .rw[UJ,Ar h1,Ar h2]
  .exact n9 (.of qU) (.cons (Rep.mono (e.trans s1) e2 _ _ p1) (.cons (Rep.mono (e.trans s1) e2 _ _ p2) .nil))
 stop:=λi H P1 α1 S hi r e _=>by
  rw[fJ] at hi;have l1:=ta.length;have l2:=tb.length;exact⟨vs,ws,qa.mono (e.trans r.sub),qb.mono (e.trans r.sub),by lia⟩
end
section
variable {X:Cx}{e1 e2:Bw}{elts:Aa Bw}{x1:Ai}{tpos:Fl}{f:DA}{p pos:Fl}
theorem W7 {pins:Aa (Af × Co)}{σ:_L.St}{H P:Hp}{s:Ag}{a b:Af}{xs ys:Aa D}{ws:Aa V}(I:Inv X pins σ H s)(r:Rel X.K H P α S)(qa:Sq tp X.K P a vs)(qb:Sq tp X.K P b ws)(ta:qE X.K P α xs vs)(tb:qE X.K P α ys ws)
  (q:OkI X P α R (wY xs ys) S):Ao (As X.prog X.w) X.A (call (.type "zip") [.ref a,.ref b]) (λv s1=>Ao (As X.prog X.w) X.A (Og v) (PIE X pins σ (.Tuple elts x1 tpos) R) X.xe s1) X.xe s:=by
 obtain⟨ia,ra,ha⟩:=(qa.mono r.sub).at I;obtain⟨ib,rb,hb⟩:=(qb.mono r.sub).at I;refine WH ha hb λh' z1 z2 z3 z4 z5 z6 z7=>?_;refine Yw (s:={ s with heap:=h' }) z1 ?_
 have D:ZA (s.heap.objs.size+4) (s.heap.objs.size+2) (s.heap.objs.size+3) s.heap.objs.size (s.heap.objs.size+1):=by constructor <;> (intro z;simp at z)
 refine⟨_,[s.heap.objs.size+4,s.heap.objs.size+2,s.heap.objs.size+3,s.heap.objs.size,s.heap.objs.size+1],_,_,H,rfl,I.kept (t':=s.toks) z7,UB (a:=a) (b:=b) D,⟨_,_,z1,z2,z3,z4,z5⟩,λc hc=>?_,q _ _ P α r (qG.refl _) (Bn _) (GY qa qb ta tb)⟩;have hl:s.heap.objs.size<=c:=by
  simp only[Aw,Dl,Hg] at hc;rcases hc with rfl|rfl|rfl|rfl|rfl <;> simp
 exact I.fpOk hl (I.hok.fresh hl)
inductive ZipV (ds:Aa D)(its:Aa D):Prop
 |tup (xs ys:Aa D) (ed:ds=[.tup xs,.tup ys]) (e:its=wY xs ys)
 |lst (xs ys:Aa D) (ed:ds=[.lst xs,.lst ys]) (e:its=wY xs ys)
theorem FV (h:SZ ds=Ab its):ZipV ds its:=by
 cases ds with
 |nil=>exact nn h
 |cons a ds =>
  cases a with
  |tup xs =>
   cases ds with
   |nil=>exact nn h
   |cons b ds =>
    cases b with
    |tup ys =>
     cases ds with
     |nil=>exact .tup xs ys rfl (Ct h).symm
     |cons _ _=>exact nn h
    |_=>exact nn h
  |lst xs =>
   cases ds with
   |nil=>exact nn h
   |cons b ds =>
    cases b with
    |lst ys =>
     cases ds with
     |nil=>exact .lst xs ys rfl (Ct h).symm
     |cons _ _=>exact nn h
    |_=>exact nn h
  |_=>exact nn h
theorem T7 (hg:Gl X "zip")(hm:X.mg "zip" = none)(ha:PA X [e1,e2] (tDA X f))(hs:Be [e1,e2] X.env=(false,eval e1 X.env)::Be [e2] X.env:=by rfl)(hpl:(Gc pos (Be [e2] X.env)).any (·.1)=false:=by rfl) :
  PI X (.Tuple elts x1 tpos) (.Call (.Name "zip" p) [e1,e2] [] pos) (tDI X (bT f)):=by
 intro pins s σ H R I h;obtain⟨P,α,env,S,r,re,af⟩:=h;refine Zk (wF I hg hm boot_zip (Ep (thn (wD ha I r re af pos) λus s1 ⟨vs,H1,P1,α1,ds,S1,I1,rv,r1,re1,rp,e1,e2,af1⟩=>?_) hs hpl));obtain⟨its,hi,q⟩:=vR af1;cases FV hi with
 |tup xs ys ed e =>
  subst ed e;obtain⟨v,w,u,x,rfl,rfl,p1,p2,q1,q2⟩:=jT rp rv;simp only[Rep] at p1 p2;obtain⟨a,va,rfl,qa,ta⟩:=p1;obtain⟨b,vb,rfl,qb,tb⟩:=p2;cases (show u=Ce a from q1)
  cases (show x=Ce b from q2)
  exact W7 (tp:=true) I1 r1 qa qb ta tb (q.base e1 e2)
 |lst xs ys ed e =>
  subst ed e;obtain⟨v,w,u,x,rfl,rfl,p1,p2,q1,q2⟩:=jT rp rv;simp only[Rep] at p1 p2;obtain⟨a,va,rfl,qa,ta⟩:=p1;obtain⟨b,vb,rfl,qb,tb⟩:=p2;cases (show u=Ce a from q1)
  cases (show x=Ce b from q2)
  exact W7 (tp:=false) I1 r1 qa.l qb.l ta tb (q.base e1 e2)
end
def Src (K:Aj)(mg:Ap->Ak Ac)(x:Ap)(st:Fj)(ps:Aa Ap):Prop:=∃ f fd,mg x=Ab (.ref f)/\Fun K x x st f fd/\vS K fd ps []
def Lk (K:Aj)(f:Af)(fd:Fw):Prop:=∃ oc od osl,K.lookup f=Ab ⟨oc,od,.func fd,osl⟩
theorem pW {K:Aj}{x q:Ap}{st:Fj}{f:Af}{fd:Fw}(F:Fun K x q st f fd):Lk K f fd:=by
 obtain⟨oc,od,kV,doc,pm,an,cdv,ct,osl,_,lk,_⟩:=F.ex;exact⟨oc,od,osl,lk⟩
theorem Lk.one {K:Aj}{f:Af}{fd fd':Fw}(h:Lk K f fd)(h':Lk K f fd'):fd=fd':=by
 obtain⟨oc,od,osl,e⟩:=h;obtain⟨oc',od',osl',e'⟩:=h';rw[e] at e';cases e';rfl
noncomputable def Def (P:Bd)(w:Bz)(K:Aj)(mg:Ap->Ak Ac)(base:Bq)(cm:Aq)(k:Ai)(x:Ap)(n:Ai)(F:DF):Prop:=
 ∃ f fd ps,ps.length=n/\mg x=Ab (.ref f)/\Fn K (.ref f)=true/\vS K fd ps [] /\ Lk K f fd/\FnX P w K mg base cm k f fd ps (spD K n F)
def dI (P:Bd)(w:Bz)(K:Aj)(mg:Ap->Ak Ac)(base:Bq)(cm:Aq)(k:Ai)(x:Ap)(ps:Aa Ap)(F:DF):Prop:=
 ∃ f fd,mg x=Ab (.ref f)/\Fn K (.ref f)=true/\vS K fd ps [] /\ Lk K f fd/\FnX P w K mg base cm k f fd ps (spD K ps.length F)
section
variable {P:Bd}{w:Bz}{K:Aj}{mg:Ap->Ak Ac}{base:Bq}{cm:Aq}
theorem UR {x:Ap}{f:Af}{fd:Fw}{cdv:Ac}(hm:mg x=Ab (.ref f))(lk:Lk K f fd)(h:fd.code=cdv/\Mod K mg base):kN K x cdv:=λc T e=>by
 obtain⟨oc,od,osl,lk⟩:=lk;rw[<- h.1];exact PySem.W.law_code h.2.kin h.2.glob e hm (h.2.kin _ _ lk) rfl
theorem T1 {x:Ap}{st:Fj}{ps:Aa Ap}{k:Ai}{g:DS}(h:Src K mg x st ps)(S:FnScope N ps (qH st))
  (hbody:∀ (f:Af) (cdv:Ac) (A:Bt) (outer:Aa Ja) (s:Ag) (H:Hp) (E:XK),kN K x cdv->RoomC cm k (A.deeper (Gn x (qH st) s.heap.objs.size f cdv)) ->
   PSs (cxC cm P w K mg base N x (qH st) f cdv A outer s H E) (zK st) (tDS (cxC cm P w K mg base N x (qH st) f cdv A outer s H E) g)):Def P w K mg base cm (k+1) x ps.length (qR N.length g):=by
 obtain⟨f,fd,hm,F,hb⟩:=h;exact⟨f,fd,ps,rfl,hm,F.kp,hb,pW F,fnX F S λcdv A outer s H E hc hr=>hbody f cdv A outer s H E (UR hm (pW F) hc) hr⟩
theorem KP {x:Ap}{st:Fj}{ps:Aa Ap}{k:Ai}{g:DS}(h:Src K mg x st ps)(S:FnScope N ps (qH st))
  (hbody:∀ (f:Af) (cdv:Ac) (A:Bt) (outer:Aa Ja) (s:Ag) (H:Hp) (E:XK),kN K x cdv->RoomC cm k (A.deeper (Gn x (qH st) s.heap.objs.size f cdv)) ->
   PSs (cxC cm P w K mg base N x (qH st) f cdv A outer s H E) (zK st) (tDS (cxC cm P w K mg base N x (qH st) f cdv A outer s H E) g)):dI P w K mg base cm (k+1) x ps (qR N.length g):=by
 obtain⟨f,fd,hm,F,hb⟩:=h;exact⟨f,fd,hm,F.kp,hb,pW F,fnX F S λcdv A outer s H E hc hr=>hbody f cdv A outer s H E (UR hm (pW F) hc) hr⟩
theorem Def.any {x:Ap}{k n:Ai}{F:DF}(h:Def P w K mg base false k x n F):Def P w K mg base cm k x n F:=by
 obtain⟨f,fd,ps,hn,hm,kp,hb,hl,X⟩:=h;exact⟨f,fd,ps,hn,hm,kp,hb,hl,X.any⟩
end
section
variable {X:Cx}{cm:Aq}{k n:Ai}{F:DF}{x:Ap}{p pos:Fl}{e:Bw}{es:Aa Bw}{fa:DA}
theorem dcN (G:Def X.prog X.w X.K X.mg X.base cm k x n F)(hr:RoomC cm k X.A)(hF:Fn1 X)(hg:Gl X x)(ha:PA X (e::es) (tDA X fa))(hdb:(x == ("__debug__" : Ap))=false:=by decide)(he:Be (e::es) X.env=(false,eval e X.env)::Be es X.env:=by rfl)(hpl:(Gc pos (Be es X.env)).any (·.1)=false:=by rfl) :
  PE X (.Call (.Name x p) (e::es) [] pos) (tD X (qO n F fa)):=by
 obtain⟨f,fd,ps,hn,hm,kp,hb,hl,G⟩:=G;exact KG G hr hF hg hm kp hb ha hdb he hpl
theorem MP (hg:Gl X x)(hm:X.mg x=Ab (.ref C))(hk:Fn X.K (.ref C)=true)(hd:(x == ("__debug__" : Ap))=false:=by decide):PE X (.Name x pos) (tD X (dC (.obj C))):=
 hW hg hm (v:=.ref C) rfl (λP α => by simp only[Rep];exact⟨trivial,hk⟩) hd
end
noncomputable def xA:DF:=λds S=>match ds with
 |[.dct0]=>.bad
 |_=>sO ds S
theorem K3 {X:Cx}:w5 X (.builtin "len") xA:=MC trivial
noncomputable def pB:DE:=λ_ _=>.bad
theorem MN {X:Cx}{e:Bw}:PE X e (tD X pB):=λ_ _ _ _ _ _ ⟨_,_,_,_,_,_,h⟩=>An h
theorem UP:∃ C:Al->Al->Aq,C=dU:=⟨_,rfl⟩
def UO:Al->Al->Aq:=Ov UP
theorem dW:UO=dU:=Ow UP
def xR:G2:=i2 UO λi j=>.int (i*j)
theorem cT {X:Cx}:OpD X (Fa .Mult) xR:=by
 unfold xR;rw[dW];exact B6
theorem hu1 {cm:Aq}{k:Ai}{A:Bt}(hr:RoomC cm k A):A.units+1<Fi:=by have:=hr.units;lia
theorem WD:Fc "tuple" = Ab (.type "tuple"):=by decide +kernel
theorem M8:Fc "len" = Ab (.builtin "len"):=by decide +kernel
noncomputable def okO (F:DF):DF:=λds S=>match F ds S with
 |.ok d S'=>.ok d S'
 |_=>.bad
theorem LD {F:DF}{S':Sto}{d:D}(h:F ds S=.ok d S'):okO F ds S=.ok d S':=by unfold okO;rw[h]
section
variable {X:Cx}{cm:Aq}{k n:Ai}{F:DF}{x:Ap}{p pos:Fl}{e:Bw}{es:Aa Bw}{fa:DA}{f:Af}{fd:Fw}{ps:Aa Ap}
theorem F7 {pins:Aa (Af × Co)}{σ:_L.St}{H:Hp}{s:Ag}{Q:VK}{us:Aa Ac}{P:Hp}(G:FnX X.prog X.w X.K X.mg X.base cm k f fd ps (spD X.K n F))(hr:RoomC cm k X.A)(hb:vS X.K fd ps [])
  (I:Inv X pins σ H s) (r:Rel X.K H P α S) (rv:qK vs us) (rp:qE X.K P α ds vs) (hn:ds.length=n) (af:qV X P α (okO F ds S) Q):Ao (As X.prog X.w) X.A (call (.ref f) us) (EP X pins σ Q) X.xe s:=by
 have hvn:vs.length=n:=by rw[<- rp.length];exact hn
 have hsp:spD X.K n F vs H Q λ_ _ _=>Fh:=by
  refine⟨hvn,P,α,ds,S,r,rp,?_⟩;unfold okO at af;cases q:F ds S with
  |ok d S'=>rw[q] at af;exact af
  |ex c x S'=>rw[q] at af;exact An af
  |bad=>rw[q] at af;exact af
 have hl:us.length=ps.length:=by rw[<- rv.length];exact G.len _ _ _ _ hsp
 have hb':=hb s us I.kIn (by rw[Fx];exact hl)
 rw[Fx] at hb';refine Ph (Ji (G.run X.A X.stack s H ⟨us,[]⟩ us vs Q _ hr I.env0 hb' rv hsp) λr s' hq=>?_);cases r with
 |error u =>
  obtain⟨_,_,_,_,_,_,_,_,_,_,_,_,z⟩:=hq;exact An z
 |ok fl =>
  cases fl with
  |ret u=>exact I.after hq
  |next=>exact An hq
  |brk=>exact An hq
  |cont=>exact An hq
theorem dcO (G:Def X.prog X.w X.K X.mg X.base cm k x n F)(hr:RoomC cm k X.A)(hg:Gl X x)(ha:PA X (e::es) (tDA X fa))(hdb:(x == ("__debug__" : Ap))=false:=by decide)(he:Be (e::es) X.env=(false,eval e X.env)::Be es X.env:=by rfl)(hpl:(Gc pos (Be es X.env)).any (·.1)=false:=by rfl) :
  PE X (.Call (.Name x p) (e::es) [] pos) (tD X (qO n (okO F) fa)):=by
 obtain⟨f,fd,ps,hn0,hm,hk,hb,hl,G⟩:=G;intro pins s σ H Q I h;obtain⟨P,α,env,S,r,re,af⟩:=h;refine Ha (uK I hg hm ?_ hdb);refine Qe (h₀:=X.base) I.ok.mod.kin hk (thn (wD ha I r re af pos) λus s1 ⟨vs,H1,P1,α1,ds,S1,I1,rv,r1,re1,rp,e1,e2,af1⟩=>⟨I1.kIn,?_⟩) he hpl;obtain⟨hn,af2⟩:=nX (env:=env) (S:=S) af1;exact F7 G hr hb I1 r1 rv rp hn (qV.base e1 e2 af2)
end
structure QE (X:Cx)(e:Bw)(f:DE):Prop where
 get:PE X e (tD X f)
structure QT (X:Cx)(e:Bw)(t:DT):Prop where
 get:PT X e (tDT X t)
structure QW (X:Cx)(e:Bw)(t:DT):Prop where
 get:PWD X e t
structure QA (X:Cx)(es:Aa Bw)(f:DA):Prop where
 get:PA X es (tDA X f)
structure QO (X:Cx)(e:Ak Bw)(f:DO):Prop where
 get:PO X e (tDO X f)
structure QG (X:Cx)(t:Bw)(g:DG):Prop where
 get:PG X t (tDG X g)
structure QGs (X:Cx)(ts:Aa Bw)(g:DGs):Prop where
 get:PGs X ts (rS X g)
structure QI (X:Cx)(tg it:Bw)(f:DI):Prop where
 get:PI X tg it (tDI X f)
structure QS (X:Cx)(s:Fj)(f:DS):Prop where
 get:PS X s (tDS X f)
structure QB (X:Cx)(ss:Aa Fj)(f:DS):Prop where
 get:PSs X ss (tDS X f)
structure QJ (X:Cx)(es:Aa Bw)(fs:Aa DE):Prop where
 get:PJ X es fs
structure ZOp (X:Cx)(f:Ac->Ac->Ky Ac)(g:G2):Prop where
 get:OpD X f g
structure ZUn (X:Cx)(f:Ac->Ky Ac)(g:D->Sto->Res D):Prop where
 get:UnD X f g
structure ZIx (X:Cx)(g:G2):Prop where
 get:IxD X g
structure ZCall (X:Cx)(f:Ac)(F:DF):Prop where
 get:w5 X f F
structure ZMt (X:Cx)(id:Dx)(g:D->Aa D->Sto->Res D):Prop where
 get:MtD X id g
structure ZSet (X:Cx)(g:G3):Prop where
 get:dJ X (dH X g)
structure ZPass (X:Cx):Prop where
 get:Ud (As X.prog X.w) X.A X.env X.xe
section
variable {X:Cx}{a b c e e1 e2 o i:Bw}{es rest:Aa Bw}{fa fb fc fe fo fi:DE}{ta tb:DT}{fA:DA}{f g:DS}{st:Fj}{sts:Aa Fj}{x:Ap}{p pos:Fl}{n k:Ai}{cm:Aq}{F:DF}{G2':G2}
theorem X8:QE X (.Constant .none j pos) (dC .non):=⟨MV⟩
theorem JL:QE X (.Constant (.bool v) j pos) (dC (.bl v)):=⟨R7⟩
theorem DH:QE X (.Constant (.int v) j pos) (dC (.int v)):=⟨MT⟩
theorem DN:QE X (.Constant (.str v) j pos) (dC (.str v)):=⟨MY⟩
theorem DP (m:Ai)(hN:X.N[m]? = Ab x)(hv:Vis X.env.scope x)(hd:(x == ("__debug__" : Ap))=false)(hcd:(x == ("__classdict__" : Ap))=false):QE X (.Name x pos) (qB m):=⟨dv m hN hv hd hcd⟩
theorem BN {nm:Dx}(hg:Gl X x)(hm:X.mg x=none)(hv:Fc x=Ab (.type nm))(hn:x ≠ "__name__")(hd:(x == ("__debug__" : Ap))=false):QE X (.Name x pos) (dC (.ty nm)):=⟨KE hg hm hv hn hd⟩
theorem DB (hg:Gl X x)(hm:X.mg x=Ab (.ref C))(hk:Fn X.K (.ref C)=true)(hd:(x == ("__debug__" : Ap))=false):QE X (.Name x pos) (dC (.obj C)):=⟨MP hg hm hk hd⟩
theorem BP {v:Al}(hg:Gl X x)(hm:∃ t,X.mg x=Ab (.int v t))(hd:(x == ("__debug__" : Ap))=false):QE X (.Name x pos) (dC (.int v)):=⟨let ⟨_,h⟩:=hm;hW (v:=.int v) hg h ⟨_,rfl⟩ (λ_ _=>by simp only[Rep]) hd⟩
theorem D9:QE X e pB:=⟨MN⟩
theorem EO {op:UnaryOp}{h:D->Sto->Res D}(ho:ZUn X (Yl op) h)(ha:QE X a fa):QE X (.UnaryOp op a pos) (d1 h fa):=⟨RC ho.1 ha.1⟩
theorem DM (ha:QE X a fa):QE X (.UnaryOp .Not a pos) (WQ fa):=⟨MW ha.1⟩
theorem EN {op:Operator}(ho:ZOp X (Fa op) G2')(ha:QE X a fa)(hb:QE X b fb):QE X (.BinOp a op b pos) (d2 G2' fa fb):=⟨RB ho.1 ha.1 hb.1⟩
theorem X7 {op:Vn}(ho:ZOp X (Cy op) G2')(ha:QE X a fa)(hb:QE X b fb)(hm:Ly op b=false:=by first|exact kH _|with_unfolding_all rfl):QE X (.Compare a [op] [b] pos) (d2 G2' fa fb):=⟨MQ ho.1 ha.1 hb.1 hm⟩
theorem VM {op op':Vn}{g':G2}(ho:ZOp X (Cy op) G2')(ho':ZOp X (Cy op') g')(ha:QE X a fa)(hb:QE X b fb)(hc:QE X c fc)(hm:Xw [op,op'] [b,c]=false:=by with_unfolding_all rfl):QE X (.Compare a [op,op'] [b,c] pos) (wC G2' g' fa fb fc):=⟨WT ho.1 ho'.1 ha.1 hb.1 hc.1 hm⟩
theorem X9  (h:QE X a fa):QE X (.BoolOp op [a] pos) fa:=⟨MX h.1⟩
theorem X5 (ha:QE X a fa)(hb:QE X (.BoolOp .And (b::rest) pos) fb):QE X (.BoolOp .And (a::b::rest) pos) (uS fa fb):=⟨MM ha.1 hb.1⟩
theorem EL (hc:QT X c ta)(ha:QE X a fa)(hb:QE X b fb):QE X (.IfExp c a b pos) (dIf ta fa fb):=⟨R9 hc.1 ha.1 hb.1⟩
theorem XA  (h:QA X es fA):QE X (.Tuple es x1 pos) (zV fA):=⟨MZ h.1⟩
theorem DJ (h:QA X es fA):QE X (.List es pos) (xD fA):=⟨MU h.1⟩
theorem BR (h:QA X es fA):QE X (.List es pos) (pQ fA):=⟨KM h.1⟩
theorem DC:QE X (.Dict [] [] pos) iI:=⟨MR⟩
theorem BO:QE X (.Dict [] [] pos) fL:=⟨KJ⟩
theorem EM (ho:ZIx X G2')(ha:QE X a fa)(hb:QE X b fb)(hs:mO b:=by intro _ _;rfl):QE X (.Subscript a b pos) (d2 G2' fa fb):=⟨RA ho.1 ha.1 hb.1 hs⟩
theorem VO {lo hi:Ak Bw}{fl fh:DO}{p2:Fl}(he:QE X e fe)(hl:QO X lo fl)(hu:QO X hi fh):QE X (.Subscript e (.Slice lo hi none p2) pos) (dSl fe fl fh):=⟨WV he.1 hl.1 hu.1⟩
theorem BY:QO X none xZ:=⟨KY⟩
theorem BZ (he:QE X e fe):QO X (Ab e) (x8 fe):=⟨KZ he.1⟩
theorem DD (he:QE X e fe):QE X (.FormattedValue e (-1) none pos) (d1 jY fe):=⟨MS he.1⟩
theorem DV:QJ X [] []:=⟨D0⟩
theorem BX {fs:Aa DE}(he:QE X e fe)(hr:QJ X es fs):QJ X (e::es) (fe::fs):=⟨BG he.1 hr.1⟩
theorem BQ {fs:Aa DE}(h:QJ X (e1::e2::rest) fs):QE X (.JoinedStr (e1::e2::rest) pos) (lW fs):=⟨KL h.1⟩
theorem X3:QA X [] qC:=⟨MK⟩
theorem cW (ha:QE X e fa)(hr:QA X es fA)(hs:Be (e::es) X.env=(false,eval e X.env)::Be es X.env:=by rfl):QA X (e::es) (qA fa fA):=⟨KD ha.1 hr.1 hs⟩
theorem qcN (G:Def X.prog X.w X.K X.mg X.base cm k x n F)(hr:RoomC cm k X.A)(hF:Fn1 X)(hg:Gl X x)(ha:QA X (e::es) fA)(hdb:(x == ("__debug__" : Ap))=false)(he:Be (e::es) X.env=(false,eval e X.env)::Be es X.env:=by rfl)(hpl:(Gc pos (Be es X.env)).any (·.1)=false:=by rfl):QE X (.Call (.Name x p) (e::es) [] pos) (qO n F fA):=⟨dcN G hr hF hg ha.1 hdb he hpl⟩
theorem VL {id:Dx}(hc:ZCall X (.builtin id) F)(hg:Gl X x)(hm:X.mg x=none)(hv:Fc x=Ab (.builtin id))(ha:QA X (e::es) fA)(hn:x ≠ "__name__")(hdb:(x == ("__debug__" : Ap))=false)(he:Be (e::es) X.env=(false,eval e X.env)::Be es X.env:=by rfl)(hpl:(Gc pos (Be es X.env)).any (·.1)=false:=by rfl):QE X (.Call (.Name x p) (e::es) [] pos) (qN F fA):=⟨WR hc.1 hg hm hv ha.1 hn hdb he hpl⟩
theorem X6 {T:Dx}(hc:ZCall X (.type T) F)(hg:Gl X x)(hm:X.mg x=none)(hv:Fc x=Ab (.type T))(ha:QA X (e::es) fA)(hn:x ≠ "__name__")(hdb:(x == ("__debug__" : Ap))=false)(he:Be (e::es) X.env=(false,eval e X.env)::Be es X.env:=by rfl)(hpl:(Gc pos (Be es X.env)).any (·.1)=false:=by rfl):QE X (.Call (.Name x p) (e::es) [] pos) (qN F fA):=⟨Q8 hc.1 hg hm hv ha.1 hn hdb he hpl⟩
theorem dE {T id:Dx}{name:Ap}{apos:Fl}{h:D->Aa D->Sto->Res D}(pa:PlainAttrs T)(slot:Slot T name id)(hty:typeOf (.builtin id)=pure (.type "method_descriptor"))(hT:T = "list" \/ T = "dict" \/ T = "int" \/ T = "str")(hm:ZMt X id h)(ho:QE X o fo)(ha:QA X (e::es) fA)
  (hbase:Rb o name X.env (eval o X.env)=eval o X.env:=by rfl)
  (hfew:((Gc pos (Be (e::es) X.env)).all (λx=>!x.1)&&(backToKw pos (keywordEach [] X.env)).all (λx=>x.1.isSome)&&decide ((e::es).length+([]:Aa Keyword).length+(if ([] : Aa Keyword).isEmpty then 0 else 1)<30))=true:=by rfl)
  (hline:(apos.endLine == pos.line)=true:=by rfl) (hs:Be (e::es) X.env=(false,eval e X.env)::Be es X.env:=by rfl) (hplain:(Gc pos (Be es X.env)).any (·.1)=false:=by rfl):QE X (.Call (.Attribute o name apos) (e::es) [] pos) (dBm T h fo fA):=⟨R8 pa slot hty hT hm.1 ho.1 ha.1 hbase hfew hline hs hplain⟩
theorem JN (h:QW X e ta):QT X e ta:=⟨PWD.pt h.1⟩
theorem a8 (ha:QT X a ta):QW X (.BoolOp .And [a] pos) ta:=⟨GB ha.1⟩
theorem mF (ha:QT X a ta):QW X (.BoolOp .Or [a] pos) ta:=⟨TU ha.1⟩
theorem XI (ha:QT X a ta)(hb:QW X (.BoolOp .And (b::rest) pos) tb):QW X (.BoolOp .And (a::b::rest) pos) (yW ta tb):=⟨TR ha.1 hb.1⟩
theorem dF (ha:QT X a ta)(hb:QW X (.BoolOp .Or (b::rest) pos) tb):QW X (.BoolOp .Or (a::b::rest) pos) (uV ta tb):=⟨RJ ha.1 hb.1⟩
theorem SA (ha:QT X a ta):QT X (.UnaryOp .Not a pos) (xN ta):=⟨TN ha.1⟩
theorem XF {op:Vn}(ho:ZOp X (Cy op) G2')(ha:QE X a fa)(hb:QE X b fb)(hm:Ly op b=false:=by first|exact kH _|with_unfolding_all rfl):QT X (.Compare a [op] [b] pos) (dTr (d2 G2' fa fb)):=⟨TM ho.1 ha.1 hb.1 hm⟩
theorem VS {op op':Vn}{g':G2}(ho:ZOp X (Cy op) G2')(ho':ZOp X (Cy op') g')(ha:QE X a fa)(hb:QE X b fb)(hc:QE X c fc)(hm:Xw [op,op'] [b,c]=false:=by with_unfolding_all rfl):QT X (.Compare a [op,op'] [b,c] pos) (dTr (wC G2' g' fa fb fc)):=⟨Y3 ho.1 ho'.1 ha.1 hb.1 hc.1 hm⟩
theorem XG (ha:QE X a fa)(he:∀ whole,isTrue a X.env whole=(do let v <- whole;Tl a.pos;holding [v] (truthy v)):=by intro _;rfl):QT X a (dTr fa):=⟨TQ ha.1 he⟩
theorem BU (hN:X.N.Nodup)(hi:X.N[m]? = Ab x)(hx:Loc X.env.scope x)(hf:X.fn x=true\/X.env.scope.names.lookup x=Ab .local):QG X (.Name x pos) (gNm m):=⟨KQ hN hi hx hf⟩
theorem cX:QGs X [] uC:=⟨KR⟩
theorem rH {h:DG}{gs:DGs}(h1:QG X e h)(h2:QGs X es gs)(hs:(Hc (e::es) X.env).map (·.2)=assign e X.env::(Hc es X.env).map (·.2):=by rfl):QGs X (e::es) (xJ h gs):=⟨WX h1.1 h2.1 hs⟩
theorem XB {kk:Ai}{gs:DGs}(hc:X.calm=true)(h:QGs X es gs)(hn:(Hc es X.env).length=n:=by rfl)(hst:(Hc es X.env).findIdx? (·.1)=none:=by rfl):QG X (.Tuple es kk pos) (gTp n gs):=⟨T4 hc h.1 hn hst⟩
theorem DQ {h:G3}(ho:QE X o fo)(hi:QE X i fi)(hs:ZSet X h)
  (ha:∀ v,assign (.Subscript o i pos) X.env v=(do
   let ov <- holding [v] (eval o X.env)
   let iv <- holding [v,ov] (eval i X.env)
   Tl pos
   holding [v,ov,iv] (setItem ov iv v)
   release [v,ov,iv] []):=by intro _;rfl):QG X (.Subscript o i pos) (gSb fo fi h):=⟨T3 ho.1 hi.1 hs.1 ha⟩
theorem DU {tg:Bw}(ha:QE X e fa):QI X tg e (xY fa):=⟨T6 ha.1⟩
theorem VP {tg:Bw}(hg:Gl X "range")(hm:X.mg "range" = none)(ha:QA X (e::es) fA)(hs:Be (e::es) X.env=(false,eval e X.env)::Be es X.env:=by rfl)(hpl:(Gc pos (Be es X.env)).any (·.1)=false:=by rfl):QI X tg (.Call (.Name "range" p) (e::es) [] pos) (bS fA):=⟨WY hg hm ha.1 hs hpl⟩
theorem XD {elts:Aa Bw}{x1:Ai}{tpos:Fl}(hg:Gl X "zip")(hm:X.mg "zip" = none)(ha:QA X [e1,e2] fA)(hs:Be [e1,e2] X.env=(false,eval e1 X.env)::Be [e2] X.env:=by rfl)(hpl:(Gc pos (Be [e2] X.env)).any (·.1)=false:=by rfl):QI X (.Tuple elts x1 tpos) (.Call (.Name "zip" p) [e1,e2] [] pos) (bT fA):=⟨T7 hg hm ha.1 hs hpl⟩
theorem X4:QB X [] zG:=⟨TC⟩
theorem mE (h:QS X st f):QB X [st] f:=⟨TF h.1⟩
theorem b9 (h1:QS X st f)(h2:QB X sts g):QB X (st::sts) (qQ f g):=⟨G6 h1.1 h2.1⟩
theorem F0 (he:QE X e fa)(hs:Nt e none pos.line X.env=pure false:=by rfl):QS X (.Expr e pos) (xX fa):=⟨G7 he.1 hs⟩
theorem XE (he:QE X e fa):QS X (.Return (Ab e) pos) (qX fa):=⟨TJ he.1⟩
theorem JM {as bs:Aa Fj}(hc:QT X c ta)(ha:QB X as f)(hb:QB X bs g):QS X (.If c as bs pos) (sIf ta f g):=⟨RG hc.1 ha.1 hb.1⟩
theorem DX {tg iter:Bw}{fI:DI}{h:DG}(hp:ZPass X)(hc:X.calm=true)(hi:QI X tg iter fI)(hg:QG X tg h)(hb:QB X body f)(hs:∀ x,Ey iter X.env x=pure x:=by intro _;rfl):QS X (.For tg iter body [] pos) (vD fI h f):=⟨TB hp.1 hc hi.1 hg.1 hb.1 hs⟩
theorem DZ {pos':Fl}(hN:X.N.Nodup)(he:QE X e fa)(hi:X.N[m]? = Ab x)(hx:Loc X.env.scope x)(hs:Nt e (Ab (.Name x pos')) pos.line X.env=pure false)(hf:X.fn x=true\/X.env.scope.names.lookup x=Ab .local):QS X (.Assign [.Name x pos'] e pos) (zD fa (gNm m)):=⟨TK hN he.1 hi hx hs hf⟩
theorem DW {tg:Bw}{h:DG}(he:QE X e fa)(hg:QG X tg h)(hs:Lw [tg] e pos.line X.env=pure false:=by rfl)(hw:Lv [tg] e X.env=pure none:=by rfl)(h1:(Hc [tg] X.env).map (·.2)=[assign tg X.env]:=by rfl):QS X (.Assign [tg] e pos) (zD fa h):=⟨T9 he.1 hg.1 hs hw h1⟩
theorem DY {l:Ai}{y:Ap}{px py pt:Fl} {kt k2 pt2} (hc:X.calm=true) (hN:X.N.Nodup) (ha:QA X [a,b] fA) (hi:X.N[m]? = Ab x) (hj:X.N[l]? = Ab y) (hij:m≠l) (hx:X.env.scope.names.lookup x=Ab .local) (hy:X.env.scope.names.lookup y=Ab .local)
  (hw:Lv [.Tuple [.Name x px,.Name y py] kt pt] (.Tuple [a,b] k2 pt2) X.env=pure (Ab [x,y]):=by rfl) (hs:Lw [.Tuple [.Name x px,.Name y py] kt pt] (.Tuple [a,b] k2 pt2) pos.line X.env=pure false:=by rfl) :
  QS X (.Assign [.Tuple [.Name x px,.Name y py] kt pt] (.Tuple [a,b] k2 pt2) pos) (nF m l fA):=⟨TH hc hN ha.1 hi hj hij hx hy hw hs⟩
theorem VR {Ae:Af}{np cpos:Fl}(hc:X.calm=true)(hF:Fn1 X)(hg:Gl X x)(hm:X.mg x=Ab (.ref C))(hx:bR X.K C Ae=true)(ha:QA X (e::rest) fA)(hdb:(x == ("__debug__" : Ap))=false)(he:Be (e::rest) X.env=(false,eval e X.env)::Be rest X.env:=by rfl)(hpl:(Gc cpos (Be rest X.env)).any (·.1)=false:=by rfl) :
  QS X (.Raise (Ab (.Call (.Name x np) (e::rest) [] cpos)) none pos) (yE (.ref C) fA):=⟨Y2 hc hF hg hm hx ha.1 hdb he hpl⟩
theorem S9 {nm:Ap}{C0:Af}{b₀:Fj}{suite:Aa Fj}{np hpos:Fl}{cs:Aa Ac}(hF:Fn1 X)(hb:∀ E pn,ZPass (Cx.tryIn X E pn)->QB (Cx.tryIn X E pn) body f)(hs:∀ e,QB (Cx.suite X e) (b₀::suite) g)(hg:Gl X x)(hm:X.mg x=Ab (.ref C0))(hcs:∀ c∈cs,Jz X.K c (.ref C0)=Ab true)(hN:X.N.Nodup)(hi:X.N[m]? = Ab nm)(hlo:X.env.scope.names.lookup nm=Ab .local)(hdb:(x == ("__debug__" : Ap))=false)(hn:X.N.length=n) :
  QS X (.Try body [.ExceptHandler (Ab (.Name x np)) (Ab nm) (b₀::suite) hpos] [] [] pos) (fE n m cs f g):=⟨hn▸TL hF (λE pn hp=>(hb E pn ⟨hp⟩).1) (λe=>(hs e).1) hg hm hcs hN hi hlo hdb⟩
theorem HH:ZOp X (Fa .Add) zC:=⟨L7⟩
theorem HR:ZOp X (Fa .Sub) yX:=⟨LC⟩
theorem HM:ZOp X (Fa .Mult) xR:=⟨cT⟩
theorem HI:ZOp X (Fa .FloorDiv) t8:=⟨L8⟩
theorem HL:ZOp X (Fa .Mod) u7:=⟨LA⟩
theorem HP:ZOp X (Fa .Pow) kZ:=⟨LB⟩
theorem AO:ZOp X (Cy .Lt) gLt:=⟨JJ⟩
theorem AN:ZOp X (Cy .LtE) gLe:=⟨EA⟩
theorem AL:ZOp X (Cy .Gt) gGt:=⟨E8⟩
theorem AK:ZOp X (Cy .GtE) gGe:=⟨E7⟩
theorem SS:ZOp X (Cy .Is) gIs:=⟨E9⟩
theorem SR (hr:RoomC cm k X.A):ZOp X (Cy .Eq) gEq:=⟨E6 hr.units⟩
theorem SY (hr:RoomC cm k X.A):ZOp X (Cy .NotEq) gNe:=⟨EB hr.units⟩
theorem HN:ZUn X (Yl .USub) pD:=⟨SM⟩
theorem AM:ZIx X gIx:=⟨CU⟩
theorem JX:ZCall X (.builtin "isinstance") zY:=⟨oZ⟩
theorem SU {cl:Aa Af}(h:ClsK X.K cl):ZCall X (.builtin "isinstance") (zP cl):=⟨K1 h⟩
theorem JY:ZCall X (.builtin "len") xA:=⟨K3⟩
theorem JW (hc:X.calm=true):ZCall X (.builtin "all") (kX false):=⟨MA false hc⟩
theorem HJ:ZCall X (.type "int") iO:=⟨MB⟩
theorem FT:ZCall X (.type "tuple") uX:=⟨WI⟩
theorem SV:ZCall X (.type "list") lY:=⟨K5⟩
theorem UE:ZMt X "list.append" wJ:=⟨ZH⟩
theorem FQ:ZMt X "list.count" fQ:=⟨V3⟩
theorem FR:ZMt X "list.index" fR:=⟨V4⟩
theorem HQ (hr:RoomC cm k X.A):ZSet X vU:=⟨SE (hu1 hr)⟩
end
section
variable {P:Bd}{w:Bz}{K:Aj}{mg:Ap->Ak Ac}{base:Bq}{cm:Aq}
theorem aU {qual:Ap}{scope:Eu}{f:Af}{cd:Ac}{A:Bt}{outer:Aa Ja}{s:Ag}{H:Hp}{E:XK}:ZPass (cxC cm P w K mg base N qual scope f cd A outer s H E):=⟨WN⟩
theorem CK {x:Ap}{st:Fj}{ps:Aa Ap}{k:Ai}{g:DS}(h:Src K mg x st ps)(S:FnScope N ps (qH st))(hbd:zK st=body)
  (hbody:∀ (f:Af) (cdv:Ac) (A:Bt) (outer:Aa Ja) (s:Ag) (H:Hp) (E:XK),kN K x cdv->RoomC cm k (A.deeper (Gn x (qH st) s.heap.objs.size f cdv)) ->
   QB (cxC cm P w K mg base N x (qH st) f cdv A outer s H E) body g):Def P w K mg base cm (k+1) x ps.length (qR N.length g):=
 T1 h S λf cdv A outer s H E hc hr=>hbd▸(hbody f cdv A outer s H E hc hr).1
theorem RD {x:Ap}{st:Fj}{ps:Aa Ap}{k:Ai}{g:DS}(h:Src K mg x st ps)(S:FnScope N ps (qH st))(hbd:zK st=body)
  (hbody:∀ (f:Af) (cdv:Ac) (A:Bt) (outer:Aa Ja) (s:Ag) (H:Hp) (E:XK),kN K x cdv->RoomC cm k (A.deeper (Gn x (qH st) s.heap.objs.size f cdv)) ->
   QB (cxC cm P w K mg base N x (qH st) f cdv A outer s H E) body g):dI P w K mg base cm (k+1) x ps (qR N.length g):=
 KP h S λf cdv A outer s H E hc hr=>hbd▸(hbody f cdv A outer s H E hc hr).1
theorem KO {x:Ap}{st:Fj}{ps:Aa Ap}(h:Src K mg x st ps):Def P w K mg base cm 0 x ps.length λ_ _=>.bad:=by
 obtain⟨f,fd,hm,F,hb⟩:=h;exact⟨f,fd,ps,rfl,hm,F.kp,hb,pW F,⟨λvs H Q E z=>z.1,λA outer s H args us vs Q E _ _ _ _ z=>by obtain⟨_,_,_,_,_,_,_,z⟩:=z;exact An z⟩⟩
end
structure QTs (X:Cx)(ifs:Aa Bw)(t:DT):Prop where
 get:PTs X ifs t
section
variable {X:Cx}{elt tg iter e:Bw}{ifs es:Aa Bw}{scope:Eu}{pos p:Fl}{N':Aa Ap}{cap:Aa (Ak Ai)}{fi:DI}{g:DG}{t u:DT}{fe:DE}{fa:DA}{x:Ap}{cm:Aq}{k n:Ai}{F:DF}
theorem cZ:QTs X [] wQ:=⟨GA⟩
theorem VT (h1:QT X e t)(h2:QTs X es u):QTs X (e::es) (yW t u):=⟨Y4 h1.1 h2.1⟩
theorem qcO (G:Def X.prog X.w X.K X.mg X.base cm k x n F)(hr:RoomC cm k X.A)(hg:Gl X x)(ha:QA X (e::es) fa)(hdb:(x == ("__debug__" : Ap))=false)(he:Be (e::es) X.env=(false,eval e X.env)::Be es X.env:=by rfl)(hpl:(Gc pos (Be es X.env)).any (·.1)=false:=by rfl) :
  QE X (.Call (.Name x p) (e::es) [] pos) (qO n (okO F) fa):=⟨dcO G hr hg ha.1 hdb he hpl⟩
end
def stn (o:Ak (Ai × MO))(S:Sto):Prop:=match o with
 |none=>Od
 |some p=>S[p.1]? = Ab p.2
open Classical in
def oJ (o:Ak (Ai × MO))(S:Sto):Aq:=decide (stn o S)
theorem yP {o:Ak (Ai × MO)}:oJ o S=true↔stn o S:=by simp[oJ]
structure ItD2 (K:Aj)(J:It)(P:Hp)(α : Aa Af)(o:Ak (Ai × MO))(ds:Aa D):Prop where
 go:∀ i H P1 α1 S,i<ds.length->Rel K H P1 α1 S->stn o S->qG P P1->α<+:α1->J.go i H
 yld:∀ i H x H' P1 α1 S,i<ds.length->Rel K H P1 α1 S->stn o S->qG P P1->α<+:α1->J.yld i H x H'->∃ P2 d,ds[i]? = Ab d/\Rel K H' P2 α1 S/\qG P1 P2/\Rep K P2 α1 d x
 stop:∀ i H P1 α1 S,ds.length<=i->Rel K H P1 α1 S->stn o S->qG P P1->α<+:α1->J.stop i H
theorem ItD.two {K:Aj}{J:It}{P:Hp}(h:ItD K J P α ds):ItD2 K J P α none ds:=
 ⟨λi H P1 α1 S a b _ c d=>h.go i H P1 α1 S a b c d,λi H x H' P1 α1 S a b _ c d e=>h.yld i H x H' P1 α1 S a b c d e,λi H P1 α1 S a b _ c d=>h.stop i H P1 α1 S a b c d⟩
abbrev DI2:=qF->Sto->Res (Ak (Ai × MO) × Aa D)
inductive tDI2 (X:Cx)(f:DI2)(σ : _L.St)(H:Hp)(R:It->Hp->Prop):Prop
 |mk (P:Hp) (α : Aa Af) (env:qF) (S:Sto) (r:Rel X.K H P α S) (re:qZ X.K P α σ env) (af:qJ X P α (f env S) (λp S'=>∀ J H' P' α',Rel X.K H' P' α' S'->qG P P'->α<+:α'->ItD2 X.K J P' α' p.1 p.2->R J H')):tDI2 X f σ H R
noncomputable def yH (f:DI):DI2:=λenv S=>(f env S).bind λds S1=>.ok (none,ds) S1
section
variable {X:Cx}{K:Aj}{tg e:Bw}{fa:DE}{pos:Fl}
theorem KU {f:DI}(h:PI X tg e (tDI X f)):PI X tg e (tDI2 X (yH f)):=PI.weak h λσ H R ⟨P,α,env,S,r,re,af⟩=>by
 refine⟨P,α,env,S,r,re,?_⟩;unfold yH at af;cases q:f env S with
 |bad=>rw[q] at af;exact af
 |ex c x S'=>rw[q] at af;exact af
 |ok ds S1 =>
  rw[q] at af;exact λJ H' P' α' r' e1 e2 it=>af J H' P' α' r' e1 e2 it.two
theorem GW {P:Hp}{a:Af}{n:Ai}(hα:α[n]? = Ab a):ItD2 K (Itl K a) P α (Ab (n,.lst ds)) ds where
 go:=λi H P1 α1 S hi r st e e2=>by
  obtain⟨vs,z,t⟩:=r.at' n a _ (b7 e2 hα) st;exact⟨vs,vs[i]'(by rw[<- t.length];exact hi),.of z,by simp⟩
 yld:=λi H x H' P1 α1 S hi r st e e2 y=>by
  obtain⟨rfl,y⟩:=y;obtain⟨vs,z,t⟩:=r.at' n a _ (b7 e2 hα) st;have hx:=y vs (.of z);obtain⟨v,h1,h2⟩:=t.get (Ar hi);rw[hx] at h1;cases h1;exact⟨P1,_,Ar hi,r,qG.refl _,h2⟩
 stop:=λi H P1 α1 S hi r st e e2=>by
  obtain⟨vs,z,t⟩:=r.at' n a _ (b7 e2 hα) st;exact⟨vs,.of z,by rw[<- t.length];exact hi⟩
noncomputable def itD (d:D)(S:Sto):Res (Ak (Ai × MO) × Aa D):=match d with
 |.tup xs=>.ok (none,xs) S
 |.lst xs=>.ok (none,xs) S
 |.loc n=>match S[n]? with
  |some (.lst xs)=>.ok (Ab (n,.lst xs),xs) S
  |_=>.bad
 |_=>.bad
noncomputable def dIt (f:DE):DI2:=λenv S=>(f env S).bind λd S1=>itD d S1
theorem RE (ha:PE X e (tD X fa)):PI X tg e (tDI2 X (dIt fa)):=by
 intro pins s σ H R I h;obtain⟨P,α,env,S,r,re,af⟩:=h;refine thn (zR ha I r re af) λvv s1 ⟨v,H1,P1,α1,d,S1,G1,af1⟩=>?_;have seq:∀ ds,zT d=Ab ds->(∀ J H' P' α',Rel X.K H' P' α' S1->qG P P'->α<+:α'->ItD2 X.K J P' α' none ds->R J H')->Ao (As X.prog X.w) X.A (Og vv) (PIE X pins σ tg R) X.xe s1:=λds e1 q =>
  sV G1.inv G1.rel G1.val G1.rep e1 λJ H' P' α' r' h1 h2 it=>q J H' P' α' r' (G1.same.trans h1) (G1.pre.trans h2) it.two
 cases d with
 |tup xs=>exact seq xs rfl af1
 |lst xs=>exact seq xs rfl af1
 |loc n =>
  obtain⟨xs,hS,af1⟩:=gK (X:=X) (f:=λxs=>Res.ok (Ab (n,MO.lst xs),xs) S1) af1;have rp:=G1.rep;simp only[Rep] at rp;obtain⟨a,rfl,ha⟩:=rp;cases (show vv=Ce a from G1.val)
  obtain⟨vs,z,t⟩:=G1.rel.at' n a _ ha hS;obtain⟨its,rv,p,hz⟩:=G1.inv.list (SqL.of z);refine Gp p.isList ?_;refine⟨s1.heap.objs.size,[s1.heap.objs.size],_,_,H1,rfl,G1.inv.kept (t':=s1.toks) λb o e=>Ah _ e,lN a _,⟨_,Ba _ rfl,rfl,rfl⟩,λb hb=>?_,af1 _ _ P1 α1 G1.rel G1.same G1.pre (GW ha)⟩;have e:b=s1.heap.objs.size:=by simpa using hb
  subst e;exact G1.inv.fpOk (Au _) (G1.inv.hok.fresh (Au _))
 |_=>exact An af1
end
noncomputable def zS (elt:Bw)(gens:Aa Ew)(scope:Eu)(pos:Fl)(k:Ai)(acc:Ac)(env:Ja):Ky Qv:=
 match gens[k+1]? with
 |some g'=>do
  let x <- eval g'.iter env
  Tl g'.iter.pos
  let x <- Ey g'.iter env x
  let it <- holding [x] (Og x)
  let _ <- runOwn (.compStart (.ListComp elt gens scope pos) (k+1) it acc env) env
 |none=>do let _ <- call (.builtin "list.append") [acc,<- eval elt env]
theorem UA (elt target iter:Bw)(ifs:Aa Bw)(gens:Aa Ew)(scope:Eu)(pos:Fl)(it acc:Ac)(env:Ja)(k:Ai)(hg:gens[k]? = Ab ⟨target,iter,ifs,0⟩)(ha:∀ g',gens[k+1]? = Ab g'->g'.is_async=0) :
  compTurn (.ListComp elt gens scope pos) k it acc env=(do
   Tl iter.pos
   match <- Nl it with
   |none=>pure (.done .next)
   |some v =>
    Kn target it v
    assign target env v
    let mut ok:=true
    for c in ifs do
     if ok then ok <- isTrue c env (eval c env)
    if ok then zS elt gens scope pos k acc env
    again (.compLoop (.ListComp elt gens scope pos) k it acc env)):=by
 unfold compTurn zS;simp only[hg];cases q:gens[k+1]? with
 |none=>rfl
 |some g' =>
  have h0:=ha g' q;have e0:(g'.is_async != 0)=false:=by rw[h0];rfl
  simp only[e0,By,Ef,bind_assoc,pure_bind];rfl
abbrev DK:=qF->Sto->Aa D->Res (qF × Aa D)
def goL (o:Ak (Ai × MO))(g:DG)(t:DT)(k:DK):Aa D->DK
 |[],env,S,acc=>if oJ o S then .ok (env,acc) S else .bad
 |d::ds,env,S,acc=>if oJ o S then (g d env S).bind λenv1 S1=>(t env1 S1).bind λb S2 =>
   if b then (k env1 S2 acc).bind λp S3=>goL o g t k ds p.1 S3 p.2 else goL o g t k ds env1 S2 acc
  else .bad
noncomputable def zM (fe:DE):DK:=λenv S acc=>(fe env S).bind λx S1=>if acc.length<lim then .ok (env,acc++[x]) S1 else .bad
def kIn (fi:DI2)(g:DG)(t:DT)(k:DK):DK:=λenv S acc=>(fi env S).bind λp S1=>goL p.1 g t k p.2 env S1 acc
def aW (Y:Cx)(pins:Aa (Af × Co))(P1:Hp)(α1:Aa Af)(acc:Af)(env:qF)(S:Sto)(ds:Aa D)(s:Ag):Prop:=
 ∃ σ H P α o,TurnSt Y pins P1 α1 [] acc env S ds s σ H P α o
def PK (Y:Cx)(step:Ac->Ky Qv)(k:DK):Prop:=
 ∀ (pins:Aa (Af × Co)) (P1:Hp) (α1:Aa Af) (acc:Af) (env env':qF) (S S':Sto) (ds ds':Aa D) (s:Ag),(∀ H:Hp,H acc=none->xC Y pins H acc)->aW Y pins P1 α1 acc env S ds s->k env S ds=.ok (env',ds') S' ->
  Ao (As Y.prog Y.w) Y.A (step (.ref acc)) (λ_ s'=>aW Y pins P1 α1 acc env' S' ds' s') (λ_ _=>Fh) s
section
variable {Y:Cx}{elt tg iter:Bw}{ifs:Aa Bw}{gens:Aa Ew}{scope:Eu}{pos:Fl}{k:Ai}{g:DG}{t:DT}{fe:DE}{it acc:Af}{fp:Aa Af}{J:It}{tn:Ai->Bq->Prop}{items:Aa D}{P1:Hp}{α1:Aa Af}{pins:Aa (Af × Co)}
theorem QV {X:Cx}{H:Hp}{b:Af}{h:Bq}(f:xC X pins H b)(hn:b ∉ fp):xC X (pins++vA fp h) H b:=by
 obtain⟨f0,f1,f2,f3,f4,f5⟩:=f;refine⟨f0,f1,f2,f3,f4,λp hp=>?_⟩;rcases Cq.mp hp with z|z
 .exact f5 p (Df _ z)
 .rcases Cq.mp z with z|z
  .exact f5 p (Bx _ z)
  .rintro rfl
   exact hn (lD z).1
theorem Res.bind_inv {β γ:Type}{r:Res β}{f:β->Sto->Res γ}{x:γ}(h:r.bind f=.ok x S):∃ b S1,r=.ok b S1/\f b S1=.ok x S:=by
 cases r with
 |ok b S1=>exact⟨b,S1,rfl,h⟩
 |_=>cases h
inductive GoC (o:Ak (Ai × MO))(g:DG)(t:DT)(k:DK)(d:D)(ds acc:Aa D)(env:qF)(S SF:Sto)(x:qF × Aa D):Prop
 |no (env1:qF) (S1 S2:Sto) (z:stn o S) (q1:g d env S=.ok env1 S1) (q2:t env1 S1=.ok false S2) (r:goL o g t k ds env1 S2 acc=.ok x SF):GoC o g t k d ds acc env S SF x
 |yes (env1:qF) (S1 S2:Sto) (env5:qF) (ds5:Aa D) (S5:Sto) (z:stn o S) (q1:g d env S=.ok env1 S1) (q2:t env1 S1=.ok true S2) (q3:k env1 S2 acc=.ok (env5,ds5) S5) (r:goL o g t k ds env5 S5 ds5=.ok x SF):GoC o g t k d ds acc env S SF x
set_option tactic.hygienic true in
theorem YI {o:Ak (Ai × MO)}{k:DK}{d:D}{acc:Aa D}{x:qF × Aa D}(h:goL o g t k (d::ds) env S acc=.ok x SF):GoC o g t k d ds acc env S SF x:=by
 simp only[goL] at h
 split at h
 .rename_i z
  obtain⟨env1,S1,q1,h⟩:=Res.bind_inv h;obtain⟨b,S2,q2,h⟩:=Res.bind_inv h;cases b with
  |false=>exact .no env1 S1 S2 (yP.mp z) q1 q2 h
  |true =>
   obtain⟨⟨env5,ds5⟩,S5,q3,h⟩:=Res.bind_inv h;exact .yes env1 S1 S2 env5 ds5 S5 (yP.mp z) q1 q2 q3 h
 .cases h
set_option tactic.hygienic true in
theorem GP {o:Ak (Ai × MO)}{k:DK}{acc:Aa D}(h:goL o g t k [] env S acc=.ok (envF,dsF) SF):stn o S/\env=envF/\acc=dsF/\S=SF:=by
 simp only[goL] at h
 split at h
 .rename_i z
  cases h;exact⟨yP.mp z,rfl,rfl,rfl⟩
 .cases h
inductive LpI (Y:Cx)(pins:Aa (Af × Co))(P1:Hp)(α1:Aa Af)(fp:Aa Af)(acc:Af)(tn:Ai->Bq->Prop)(G:Aa D->DK)(items:Aa D)(x:qF × Aa D)(SF:Sto)(n:Ai)(s:Ag):Prop
 |mk (i:Ai) (σ : _L.St) (H P:Hp) (α : Aa Af) (o:Co) (env:qF) (S:Sto) (ds:Aa D) (hn:n=items.length-i) (hi:i<=items.length) (st:TurnSt Y pins P1 α1 fp acc env S ds s σ H P α o) (st1:tn i s.heap) (run:G (items.drop i) env S ds=.ok x SF):LpI Y pins P1 α1 fp acc tn G items x SF n s
theorem FI {M:Kz}{A:Bt}{Q:Fin->Ag->Prop}{E:Ac->Ag->Prop}{s:Ag}{it acc:Ac}{en:Ja}(hgk:gens[k]? = Ab ⟨tg,iter,ifs,0⟩)(has:∀ g',gens[k+1]? = Ab g'->g'.is_async=0)
  (ha:∀ s,Qa s->Q (.again (.compLoop (.ListComp elt gens scope pos) k it acc en)) s) (hd:∀ s,Qd s->Q (.done .next) s)
  (h:Ao M A (Nl it) (λr s1=>(r=none->Qd s1)/\∀ v,r=Ab v->Ao M A (Kn tg it v) (λ_ s2=>Ao M A (assign tg en v) (λ_ s3=>Ao M A (jJ ifs en) (λb s4=>(b=false->Qa s4)/\(b=true->Ao M A (zS elt gens scope pos k acc en) (λ_ s5=>Qa s5) E s4)) E s3) E s2) E s1) E s) :
  Ao M A (compTurn (.ListComp elt gens scope pos) k it acc en) Q E s:=by
 rw[UA elt tg iter ifs gens scope pos it acc en k hgk has];refine Ad (Lx (Ad (thn h λr s1 ⟨h0,h1⟩=>?_)));cases r with
 |none=>exact Am (hd _ (h0 rfl))
 |some v =>
  refine Ad (thn (h1 v rfl) λ_ s2 h2=>Ad (thn h2 λ_ s3 h3=>Ad (thn h3 λb s4 h4=>?_)));cases b with
  |false=>exact Am (ha _ (h4.1 rfl))
  |true=>exact Ad (thn (h4.2 rfl) λ_ s5 h5=>Am (ha _ h5))
theorem GN (hfp:∀ H:Hp,(∀ b∈fp,H b=none)->∀ b∈fp,xC Y pins H b)(hne:acc ∉ fp)(o:Co)(H':Hp)(hn:∀ b∈fp,H' b=none):∀ b∈fp,xC Y (pins++[(acc,o)]) H' b:=λb hb=>by
 obtain⟨f0,f1,f2,f3,f4,f5⟩:=hfp H' hn b hb;refine⟨f0,f1,f2,f3,f4,λp hp=>?_⟩;rcases Cq.mp hp with z|z
 .exact f5 p (Df _ z)
 .rcases Cq.mp z with z|z
  .exact f5 p (Bx _ z)
  .rw[Dq.mp z]
   rintro rfl;exact hne hb
theorem jV {i:Ai}{h:Bq}(T:Turn Y.prog Y.w Y.K tg J fp it tn)(st2:tn (i+1) h)(pl:∀ b∈fp,∃ o,h.get? b=Ab o/\∀ v,o.data≠.cell v){s5:Ag}{σ5:_L.St}{H5:Hp}(I5:Inv Y (pins++vA fp h) σ5 H5 s5):tn (i+1) s5.heap/\(∀ b∈fp,H5 b=none):=by
 refine⟨T.keep _ _ _ st2 λb hb o' e=>(I5.pin (b,o') (Bx _ (Bx _ (uF hb e)))).1,λb hb=>?_⟩;obtain⟨o',e,d'⟩:=pl b hb;exact(I5.pin (b,o') (Bx _ (Bx _ (uF hb e)))).2.1
theorem iG {kk:DK}{E:Ac->Ag->Prop}{s:Ag}{σ:_L.St}{H P:Hp}{o:Co}{i:Ai}(hc:Y.calm=true)(hx:Y.xe=λ_ _=>Fh)
  (T:Turn Y.prog Y.w Y.K tg J fp it tn) (hit:ItD2 Y.K J P1 α1 o' items) (hg:PG Y tg (tDG Y g)) (ht:PTs Y ifs t) (he:PK Y (λacc=>zS elt gens scope pos k acc Y.env) kk) (hacc:∀ H:Hp,H acc=none->xC Y pins H acc) (hfp:∀ H:Hp,(∀ b∈fp,H b=none)->∀ b∈fp,xC Y pins H b) (hne:acc ∉ fp)
  (hi:i<=items.length) (st:TurnSt Y pins P1 α1 fp acc env S ds s σ H P α o) (st1:tn i s.heap) (run:goL o' g t kk (items.drop i) env S ds=.ok (envF,dsF) SF)
  (hA:∀ s' σ' H' P' α' o1 env1 S' ds',i<items.length->TurnSt Y pins P1 α1 fp acc env1 S' ds' s' σ' H' P' α' o1->tn (i+1) s'.heap->goL o' g t kk (items.drop (i+1)) env1 S' ds'=.ok (envF,dsF) SF->Qa s')
  (hD:∀ s' σ' H' P' α' o',TurnSt Y pins P1 α1 fp acc envF SF dsF s' σ' H' P' α' o'->Qd s') :
  Ao (As Y.prog Y.w) Y.A (Nl (.ref it)) (λr s1=>(r=none->Qd s1)/\∀ v,r=Ab v->Ao (As Y.prog Y.w) Y.A (Kn tg (.ref it) v) (λ_ s2=>Ao (As Y.prog Y.w) Y.A (assign tg Y.env v) (λ_ s3=>Ao (As Y.prog Y.w) Y.A (jJ ifs Y.env) (λb s4=>(b=false->Qa s4)/\(b=true->Ao (As Y.prog Y.w) Y.A (zS elt gens scope pos k (.ref acc) Y.env) (λ_ s5=>Qa s5) E s4)) E s3) E s2) E s1) E s:=by
 have I1:=_D.Inv.pin1 st.inv (hacc H st.acn) st.at' st.acc.cell;have fp1:=GN hfp hne o;by_cases hlt:i<items.length
 .have hdr:items.drop i=items[i]::items.drop (i+1):=Hx hlt
  rw[hdr] at run;have run:=YI run;have hst:stn o' S:=by cases run with|no _ _ _ z=>exact z|yes _ _ _ _ _ _ z=>exact z
  refine gQ (T.item Y rfl rfl rfl hc i _ s σ H (λ_ _=>Fh) I1 (fp1 H st.fpn) st1 (hit.go i H P α S hlt st.rel hst st.same st.pre)) λr s1 ⟨u,hr,h1⟩=>⟨λz=>(by rw[hr] at z;cases z),λv hv=>?_⟩
  obtain rfl:v=u:=Ct (hv.symm.trans hr);refine gQ h1 λ_ s2 ⟨x,H2,I2,rx,y,st2,fr2⟩=>?_;obtain⟨P2,d,hd,r2,e2,rp⟩:=hit.yld i H x H2 P α S hlt st.rel hst st.same st.pre y;cases (Ar hlt).symm.trans hd;have pl:=T.obj _ _ st2;have I2':=I2.pinned (fp1 _ fr2) pl;have two:∀ env1 S1 b S2,g items[i] env S=.ok env1 S1->t env1 S1=.ok b S2->(∀ s4 σ3 H4 P4 α4 (I4:Inv Y (pins++vA fp s2.heap) σ3 H4 s4),TurnSt Y pins P1 α1 fp acc env1 S2 ds s4 σ3 H4 P4 α4 o->tn (i+1) s4.heap->(b=false->Qa s4)/\(b=true->Ao (As Y.prog Y.w) Y.A (zS elt gens scope pos k (.ref acc) Y.env) (λ_ s5=>Qa s5) E s4))->Ao (As Y.prog Y.w) Y.A (assign tg Y.env v) (λ_ s3=>Ao (As Y.prog Y.w) Y.A (jJ ifs Y.env) (λb s4=>(b=false->Qa s4)/\(b=true->Ao (As Y.prog Y.w) Y.A (zS elt gens scope pos k (.ref acc) Y.env) (λ_ s5=>Qa s5) E s4)) E s3) E s2:=by
   intro env1 S1 b S2 q1 q2 next;refine gQ (hx▸A5 hg I2' r2 (st.env.mono e2 (Bn _)) rx rp q1) λ_ s3 ⟨σ3,H3,P3,α3,I3,r3,re3,e3,e3'⟩=>?_;refine gQ (hx▸EK ht I3 r3 re3 q2) λb' s4 ⟨hb,H4,P4,α4,I4,r4,re4,e4,e4'⟩=>?_;have I4':Inv Y (pins++vA fp s2.heap) σ3 H4 s4:=I4.pins_of λp hp=>I4.pin p (Bx _ ((Cq.mp hp).elim (λz=>Df _ (Df _ z)) λz=>Bx _ z));have a4:=I4.pin (acc,o) (Bx _ (Df _ (Bx _ (Dq.mpr rfl))));rw[hb];exact next s4 σ3 H4 P4 α4 I4' ⟨I4'.unpinned,r4,re4,((st.same.trans e2).trans e3).trans e4,(st.pre.trans e3').trans e4',(jV T st2 pl I4').2,a4.2.1,a4.1,st.acc.mono ((e2.trans e3).trans e4) (e3'.trans e4')⟩ (jV T st2 pl I4').1
  cases run with
  |no env1 S1 S2 _ q1 q2 run=>exact two env1 S1 false S2 q1 q2 λs4 σ3 H4 P4 α4 I4 st4 tn4=>⟨λ_=>hA s4 σ3 H4 P4 α4 o env1 S2 ds hlt st4 tn4 run,λz=>(by cases z)⟩
  |yes env1 S1 S2 env5 ds5 S5 _ q1 q2 q3 run =>
   refine two env1 S1 true S2 q1 q2 λs4 σ3 H4 P4 α4 I4 st4 tn4=>⟨λz=>(by cases z),λ_=>?_⟩
   refine gQ (he (pins++vA fp s2.heap) P1 α1 acc env1 env5 S2 S5 ds ds5 s4 (λH hn=>QV (hacc H hn) hne) ⟨σ3,H4,P4,α4,o,I4,st4.rel,st4.env,st4.same,st4.pre,λb hb=>(by cases hb),st4.acn,st4.at',st4.acc⟩ q3) λ_ s5 ⟨σ5,H5,P5,α5,o5,T5⟩=>?_
   exact hA s5 σ5 H5 P5 α5 o5 env5 S5 ds5 hlt ⟨T5.inv.unpinned,T5.rel,T5.env,T5.same,T5.pre,(jV T st2 pl T5.inv).2,T5.acn,T5.at',T5.acc⟩ (jV T st2 pl T5.inv).1 run
 .rw[Nz li] at run
  obtain⟨z,rfl,rfl,rfl⟩:=GP run;refine gQ (T.done Y rfl rfl rfl hc i _ s σ H (λ_ _=>Fh) I1 (fp1 H st.fpn) st1 (hit.stop i H P α _ li st.rel z st.same st.pre)) λr s1 ⟨hr,I2⟩=>⟨λ_=>?_,λv hv=>(by rw[hr] at hv;cases hv)⟩
  have a:=_D.Inv.pinned1 I2;exact hD s1 σ H P α o ⟨I2.unpinned,st.rel,st.env,st.same,st.pre,st.fpn,a.2,a.1,st.acc⟩
theorem fK {kk:DK}{R:Wj->Ag->Prop}{s:Ag}{σ:_L.St}{H P:Hp}{ds0:Aa D}{o:Co}(hc:Y.calm=true)(hx:Y.xe=λ_ _=>Fh)(hgk:gens[k]? = Ab ⟨tg,iter,ifs,0⟩)(has:∀ g',gens[k+1]? = Ab g'->g'.is_async=0)
  (T:Turn Y.prog Y.w Y.K tg J fp it tn) (hit:ItD2 Y.K J P1 α1 o' items) (hg:PG Y tg (tDG Y g)) (ht:PTs Y ifs t) (he:PK Y (λacc=>zS elt gens scope pos k acc Y.env) kk) (hacc:∀ H:Hp,H acc=none->xC Y pins H acc) (hfp:∀ H:Hp,(∀ b∈fp,H b=none)->∀ b∈fp,xC Y pins H b) (hne:acc ∉ fp)
  (st:TurnSt Y pins P1 α1 fp acc env S ds0 s σ H P α o) (st0:tn 0 s.heap) (run:goL o' g t kk items env S ds0=.ok (envF,dsF) SF)
  (hR:∀ s' σ' H' P' α' o',TurnSt Y pins P1 α1 fp acc envF SF dsF s' σ' H' P' α' o'->R (.ok .next) s') :
  Hu (As Y.prog Y.w) Y.A (.compLoop (.ListComp elt gens scope pos) k (.ref it) (.ref acc) Y.env) R s:=by
 refine codeAny_loop rfl (LpI Y pins P1 α1 fp acc tn (goL o' g t kk) items (envF,dsF) SF) (λn s hI=>?_) items.length ⟨0,σ,H,P,α,o,env,S,ds0,rfl,Io _,st,st0,run⟩;obtain⟨i,σ,H,P,α,o,env,S,ds,hn,hi,st,st1,run⟩:=hI;subst hn;refine wpAny_noted (FI hgk has (Qa:=λs'=>∃ m,m<items.length-i/\LpI Y pins P1 α1 fp acc tn (goL o' g t kk) items (envF,dsF) SF m s') (Qd:=R (.ok .next)) (λ_ h=>⟨rfl,h⟩) (λ_ h=>h) ?_);exact iG hc hx T hit hg ht he hacc hfp hne hi st st1 run (λs' σ' H' P' α' o1 env1 S' ds' hlt st' tn' run'=>⟨_,Nat.sub_succ_lt_self _ _ hlt,i+1,σ',H',P',α',o1,env1,S',ds',rfl,hlt,st',tn',run'⟩) hR
set_option tactic.hygienic true in
theorem BH (hx:Y.xe=λ_ _=>Fh)(hlast:gens[k+1]? = none)(he:PE Y elt (tD Y fe)):PK Y (λacc=>zS elt gens scope pos k acc Y.env) (zM fe):=by
 intro pins P1 α1 acc env env' S S' ds ds' s hacc ⟨σ,H,P,α,o,st⟩ run;show Ao _ _ (zS elt gens scope pos k (.ref acc) Y.env) _ _ s;unfold zS;rw[hlast];dsimp only;unfold zM at run;cases q3:fe env S with
 |bad=>rw[q3] at run;cases run
 |ex c z S'=>rw[q3] at run;cases run
 |ok d5 S5 =>
  rw[q3,Res.bind_ok] at run
  split at run
  .rename_i hlen
   cases run;have fA:=hacc H st.acn;have I1:=_D.Inv.pin1 st.inv fA st.at' st.acc.cell;refine Ad (gQ (hx▸A4 he I1 st.rel st.env q3) λu5 s5 ⟨v5,H5,P5,α5,G5⟩=>?_);have J:=_D.Inv.pinned1 G5.inv;have J1:=G5.inv.unpinned;obtain⟨J4,J5⟩:=J;obtain⟨its,n5,vs,ho,rvs,rps,hz⟩:=st.acc;subst ho;have hlen':vs.length=ds.length:=rps.length.symm;have hl2:=rvs.length;refine Ad (Pg Wq ⟨_,J4,rfl⟩ Vv (Ve _ _) (Xu acc its.toArray n5 u5 (by rw[Bf];rw[<- zQ];lia)) ⟨J4,?_⟩)
   have q:=Ys J4 (·.push u5)
   have fA5:=hacc H5 J5;have keep:∀ b o,b≠acc->s5.heap.get? b=Ab o->(s5.heap.update acc (Fb (·.push u5))).get? b=Ab o:=λb o hb e=>(Di s5.heap _ (Gb hb)).trans e
   have I6:=J1.turned (t':=s5.toks) keep J5 fA5.2.1 fA5.2.2.2.1 fA5.2.2.2.2.1 fA5.2.2.2.2.2;refine Am ⟨σ,H5,P5,α5,_,I6,G5.rel,G5.env,st.same.trans G5.same,st.pre.trans G5.pre,λb hb=>(by simp at hb),J5,q,?_⟩
   refine⟨its++[u5],_,vs++[v5],by simp <;> rfl,rvs.append (.cons G5.val .nil),?_,by simp;lia⟩
   exact(qE.mono G5.same G5.pre _ _ rps).append (.cons G5.rep .nil)
  .cases run
end
theorem sA {prog:Bd}{w:Bz}{A:Bt}{R:Wj->Ag->Prop}{s:Ag}{elt:Bw}{gens:Aa Ew}{scope:Eu}{pos:Fl}{k:Ai}{it acc:Ac}{env:Ja}{g:Ew}(hg:gens[k]? = Ab g)(ha:g.is_async=0)
  (h0:Hu (As prog w) A (.compLoop (.ListComp elt gens scope pos) k it acc env) R s)
  (h:Ao (As prog w) A (Og it) (λit' s'=>Hu (As prog w) A (.compLoop (.ListComp elt gens scope pos) k it' acc env) R s') (notedBy (As prog w) A env λx s'=>R (.error x) s') s) :
  Hu (As prog w) A (.compStart (.ListComp elt gens scope pos) k it acc env) R s:=by
 refine OX ?_;show Ao _ _ ((compStart (.ListComp elt gens scope pos) k it acc env).onRaise (λx=>do Uf x env;Tl theWindowsPlace)) _ _ s
 refine wpAny_notedAt ?_;have hcl:clausesOf (.ListComp elt gens scope pos)=gens:=rfl;have e0:(g.is_async != 0)=false:=by rw[ha];rfl
 unfold compStart;simp only[hcl,hg,Option.elim,e0,By,Ef];refine Ad (Kc (wpAny_ite ?_))
 split
 .exact Am (And.intro rfl h0)
 .refine Ad (Hd ?_)
  exact Ad (Lx (Ad (Hm h (λit' s' h'=>Am (And.intro rfl h')) λ_ _ x=>x)))
section
variable {Y:Cx}{elt tg iter:Bw}{ifs:Aa Bw}{gens:Aa Ew}{scope:Eu}{pos:Fl}{k:Ai}{g:DG}{t:DT}{fi:DI2}{kk:DK}
theorem QU {X:Cx}{pins pl:Aa (Af × Co)}{H:Hp}{b:Af}(f:xC X (pins++pl) H b):xC X pins H b:=by
 obtain⟨f0,f1,f2,f3,f4,f5⟩:=f;refine⟨f0,f1,f2,f3,f4,λp hp=>f5 p ?_⟩;rcases Cq.mp hp with z|z
 .exact Df _ z
 .exact Bx _ (Df _ z)
theorem EI (hc:Y.calm=true)(hx:Y.xe=λ_ _=>Fh)(hgk:gens[k+1]? = Ab ⟨tg,iter,ifs,0⟩)(has:∀ g',gens[k+1+1]? = Ab g'->g'.is_async=0)(hi:PI Y tg iter (tDI2 Y fi))(hg:PG Y tg (tDG Y g))(ht:PTs Y ifs t)
  (he:PK Y (λacc=>zS elt gens scope pos (k+1) acc Y.env) kk) (hs:∀ x,Ey iter Y.env x=pure x):PK Y (λacc=>zS elt gens scope pos k acc Y.env) (kIn fi g t kk):=by
 intro pins P1 α1 acc env env' S S' ds ds' s hacc ⟨σ,H,P,α,o,st⟩ run;show Ao _ _ (zS elt gens scope pos k (.ref acc) Y.env) _ _ s;unfold zS;rw[hgk];dsimp only;unfold kIn at run;cases q:fi env S with
 |bad=>rw[q] at run;cases run
 |ex c z S'=>rw[q] at run;cases run
 |ok p S1 =>
  rw[q,Res.bind_ok] at run;have fA:=hacc H st.acn;have I1:=_D.Inv.pin1 st.inv fA st.at' st.acc.cell;have key:=hi (pins++[(acc,o)]) s σ H (λJ H1=>∃ P' α',Rel Y.K H1 P' α' S1/\qG P P'/\α<+:α'/\ItD2 Y.K J P' α' p.1 p.2) I1 ⟨P,α,env,S,st.rel,st.env,by rw[q];exact λJ H' P' α' r' e1 e2 it=>⟨P',α',r',e1,e2,it⟩⟩
  rw[hx] at key;refine Ad (gQ key λv s1 h1=>Ad (Lx ?_));rw[hs];refine Ad (Am (Ad (Ee (gQ h1 λitv s2 h2=>?_))));obtain⟨it,fp,tn,J,H2,rfl,I2,T,st0,hf,P',α',r2,e1,e2,hit⟩:=h2;have a2:=_D.Inv.pinned1 I2;have hne:acc ∉ fp:=λhm=>(hf acc hm).2.2.2.2.2 (acc,o) (Bx _ (Bx _ (by simp))) rfl
  have loop:Hu (As Y.prog Y.w) Y.A (.compLoop (.ListComp elt gens scope pos) (k+1) (.ref it) (.ref acc) Y.env) (λr s'=>match r with
    |.ok f=>aW Y pins P1 α1 acc env' S' ds' s'
    |.error _=>Fh) s2:=by
   refine fK (pins:=pins) (fp:=fp) (P1:=P') (α1:=α') (σ:=σ) (H:=H2) (P:=P') (α:=α') (o:=o) hc hx hgk has T hit hg ht he hacc (λH hn b hb=>?_) hne
    ⟨I2.unpinned,r2,st.env.mono e1 e2,qG.refl _,Bn _,λb hb=>(hf b hb).1,a2.2,a2.1,st.acc.mono e1 e2⟩ st0 run λs' σ' H' Pf αf o' T'=>?_
   .obtain⟨_,g1,g2,g3,g4,g5⟩:=QU (hf b hb)
    exact⟨hn b hb,g1,g2,g3,g4,g5⟩
   .exact⟨σ',H',Pf,αf,o',T'.inv,T'.rel,T'.env,(st.same.trans e1).trans T'.same,(st.pre.trans e2).trans T'.pre,λb hb=>(by simp at hb),T'.acn,T'.at',T'.acc⟩
  refine Ad (wpAny_runOwn (Ji (sA hgk rfl loop (T.self Y.A 0 _ _ _ st0 loop)) λr s' h=>?_));cases r with
  |error x=>exact An h
  |ok f=>exact Am h
end
noncomputable def mkM (m:Aq)(r:Res (qF × Aa D)):Res D:=match r with
 |.ok p S2=>if m then .ok (.loc S2.length) (S2++[.lst p.2]) else .ok (.lst p.2) S2
 |_=>.bad
def zJ (m:Aq)(cap:Aa (Ak Ai))(fi:DI2)(g:DG)(t:DT)(k:DK):DE:=λenv S=>(fi env S).bind λp S1=>mkM m (goL p.1 g t k p.2 (x9 cap env) S1 [])
section
variable {X:Cx}{elt tg iter:Bw}{ifs:Aa Bw}{scope:Eu}{pos:Fl}{N':Aa Ap}{cap:Aa (Ak Ai)}{fi:DI2}{g:DG}{t:DT}{kk:DK}{rest:Aa Ew}{mm:Aq}
theorem ZJ {P:Hp}{r:Res (qF × Aa D)}{Ok:D->Sto->Prop}(h:qJ X P α (mkM mm r) Ok):∃ envF ds SF,r=.ok (envF,ds) SF/\(if mm then Ok (.loc SF.length) (SF++[.lst ds]) else Ok (.lst ds) SF):=by
 cases r with
 |ok p S =>
  obtain⟨envF,ds⟩:=p;refine⟨envF,ds,S,rfl,?_⟩;cases mm <;> exact h
 |ex c x S=>exact An h
 |bad=>exact An h
theorem Y5 {pins:Aa (Af × Co)}{σ:_L.St}{P1:Hp}{α1:Aa Af}{acc:Af}{s:Ag}{Q:VK}(c:pN X pins σ P1 α1 ds SF acc C s)(ok:if mm then OkV X P1 α1 Q (.loc SF.length) (SF++[.lst ds]) else OkV X P1 α1 Q (.lst ds) SF):EP X pins σ Q (.ref acc) s:=by
 cases mm with
 |false=>exact GD c ok
 |true =>
  obtain⟨H',P',α',vs,I,r,hn,e1,e2,rp,_⟩:=c;exact⟨.ref acc,_,I,rfl,tR r hn rp λv H2 P2 α2 r2 q1 q2 q3=>ok v H2 P2 α2 r2 (e1.trans q1) (e2.trans q2) q3⟩
theorem QL {M:Kz}{A:Bt}{E:Ac->Ag->Prop}{s:Ag}{globals:Af}{closure:Aa (Ap × Af)}{qual:Ap}{env:Ja}{Q:Ja->Ag->Prop}
  (hQ:Q (newEnv scope s.heap.objs.size globals (Hv (s.heap.objs.size+1) scope.names closure) qual none .none (Ab env) Pe) { s with heap:=XV (s.heap.push { cls:=.type "dict",data:=.dict #[] }) scope.names }) :
  Ao M A (Uy scope globals closure [] qual none .none (Ab env)) Q E s:=by
 simp only[Uy,Wr,Dw];refine Ad (wpAny_alloc ?_);refine Ad (wpAny_layCells _ (λname kind cells=>by cases hkc:kind == Os <;> simp[hkc]) _ _ _ _ ?_)
 rw[show ({ s with heap:=s.heap.push { cls:=.type "dict",data:=.dict #[] } } : Ag).heap.objs.size=s.heap.objs.size+1 from Dz ..]
 refine Ad ?_;rw[Nn];exact Am (Am hQ)
theorem bG {pins:Aa (Af × Co)}{σ:_L.St}{H2 P1:Hp}{α1:Aa Af}{s2:Ag}{S1:Sto}{items:Aa D}{it:Af}{fp:Aa Af}{tn:Ai->Bq->Prop}{J:It}{E:Ac->Ag->Prop}{RR:Ac->Af->Wj->Ag->Prop}
  (hc:X.calm=true) (S:CompSc X.env.scope X.N scope N' cap) (has:∀ g',(⟨tg,iter,ifs,0⟩::rest:Aa Ew)[0+1]? = Ab g'->g'.is_async=0)
  (hg:∀ cl C ex s₀ H₀,PG (qY X N' scope cl C ex s₀ H₀) tg (tDG (qY X N' scope cl C ex s₀ H₀) g))
  (ht:∀ cl C ex s₀ H₀,PTs (qY X N' scope cl C ex s₀ H₀) ifs t) (he:∀ cl C ex s₀ H₀,PK (qY X N' scope cl C ex s₀ H₀) (λacc=>zS elt (⟨tg,iter,ifs,0⟩::rest) scope pos 0 acc (qY X N' scope cl C ex s₀ H₀).env) kk)
  (I2:Inv X pins σ H2 s2) (r:Rel X.K H2 P1 α1 S1) (re:qZ X.K P1 α1 σ env) (T:Turn X.prog X.w X.K tg J fp it tn) (st0:tn 0 s2.heap) (hf:∀ b∈fp,xC X pins H2 b) (hit:ItD2 X.K J P1 α1 o' items) (run:goL o' g t kk items (x9 cap env) S1 [] = .ok (envF,ds) SF)
  (hRR:∀ acc C s',s2.heap.objs.size<=acc->(∃ m,s'.heap.Ns C m)->s2.heap.objs.size<=C->acc≠C->(∀ h',Fe C s'.heap h'->pN X pins σ P1 α1 ds SF acc C { s' with heap:=h' }) -> RR (.ref acc) C (.ok .next) s') :
  Ao (As X.prog X.w) X.A (newList []) (λacc s₃=>Ao (As X.prog X.w) X.A (Uy scope X.env.globals (wM X.env.cells scope.names []) [] X.env.qual none .none (Ab X.env)) (λcenv s₄ =>
   Hu (As X.prog X.w) X.A (.compStart (.ListComp elt (⟨tg,iter,ifs,0⟩::rest) scope pos) 0 (.ref it) acc { cenv with scope:=relabel scope X.env }) (RR acc cenv.locals) s₄) E s₃) E s2:=by
 have hlt:∀ b∈fp,b<s2.heap.objs.size:=λb hb=>by
  obtain⟨o,e,_⟩:=T.obj 0 _ st0 b hb;exact Ay e
 refine Eo (QL ?_);dsimp only;generalize hH2:s2.heap.push { cls:=.type "list",dict:=none,data:=.seq ([] : Aa Ac).toArray } = Hh;have hsz:Hh.objs.size=s2.heap.objs.size+1:=by rw[<- hH2,Dz]
 have hC:s2.heap.objs.size<=Hh.objs.size:=by rw[hsz];exact Qo _
 have hne:s2.heap.objs.size≠Hh.objs.size:=by rw[hsz];exact Ci (Ke _)
 have kp:∀ b o,Hh.get? b=Ab o->(XV (Hh.push { cls:=.type "dict",data:=.dict #[] }) scope.names).get? b=Ab o:=λb o e=>Zm _ _ b o (Ah _ e);have hns₁:(XV (Hh.push { cls:=.type "dict",data:=.dict #[] }) scope.names).Ns Hh.objs.size (λ_=>none):=(Heap.Ns.new Hh (.type "dict")).keeps (Zm _ _);have co:=cellsFrom_ok scope.names (Hh.push { cls:=.type "dict",data:=.dict #[] }) (Hh.objs.size+1) [] ⟨λ_ _ hm=>(nomatch hm),Nr⟩ (by rw[Dz];exact Au _)
 rw[Dz] at co;generalize hh₁:XV (Hh.push { cls:=.type "dict",data:=.dict #[] }) scope.names=h₁ at kp hns₁ co ⊢;have keep:∀ b o,s2.heap.get? b=Ab o->h₁.get? b=Ab o:=λb o e=>kp b o (hH2▸Ah _ e);have hacc:h₁.get? s2.heap.objs.size=Ab { cls:=.type "list",data:=.seq ([] : Aa Ac).toArray }:=kp _ _ (hH2▸Ba _ rfl);have I4:∀ tk,Inv (qY X N' scope (kR X scope Hh.objs.size) Hh.objs.size fp s2 H2) [] (vG cap σ) H2 { s2 with heap:=h₁,toks:=tk }:=λtk =>
  WL (s4:={ s2 with heap:=h₁,toks:=tk }) S I2 hf hlt hC hns₁ rfl rfl keep co
 have loop:∀ tk,Hu (As X.prog X.w) X.A (.compLoop (.ListComp elt (⟨tg,iter,ifs,0⟩::rest) scope pos) 0 (.ref it) (.ref s2.heap.objs.size) (compEnvC scope (kR X scope Hh.objs.size) Hh.objs.size X.env)) (RR (.ref s2.heap.objs.size) Hh.objs.size) { s2 with heap:=h₁,toks:=tk }:=λtk=>by
  refine fK (kk:=kk) (o':=o') (Y:=qY X N' scope (kR X scope Hh.objs.size) Hh.objs.size fp s2 H2) (pins:=[]) (fp:=fp) (acc:=s2.heap.objs.size) (P1:=P1) (α1:=α1) (σ:=vG cap σ) (H:=H2) (P:=P1) (α:=α1) (o:={ cls:=.type "list",data:=.seq ([] : Aa Ac).toArray }) hc rfl rfl has T hit
   (hg _ _ _ _ _) (ht _ _ _ _ _) (he _ _ _ _ _) (λH hn=>?_) (λH hn b hb=>?_) (λhm=>Et _ (hlt _ hm)) ⟨I4 tk,r,XN re cap,qG.refl _,Bn _,λb hb=>(hf b hb).1,I2.hok.fresh (Au _),hacc,⟨[],0,[],rfl,.nil,.nil,Io _⟩⟩ (T.keep _ _ _ st0 λb hb o e=>keep b o e) run λs' σ' H' P' α' o' st=>?_
  .refine⟨hn,hne,λhm=>?_,.inr (Au _),λx c h z=>?_,λp hp=>absurd (show p∈([]:Aa (Af × Co)) from hp) (by simp)⟩
   .obtain⟨_,o,ho,_⟩:=I2.stack.mem hm
    exact Et _ (Ay ho)
   .rcases xH S I2.ok h with⟨m,_⟩|⟨m,_⟩
    .exact Et _ (Mz hC (z▸(co.empty x c m).2))
    .obtain⟨v,ob,hob,_⟩:=I2.cell x c m
     rw[z] at hob;exact Et _ (Ay hob)
  .obtain⟨_,h1,h2,h3,h4,h5⟩:=hf b hb
   refine⟨hn b hb,Ci (Bb (hlt b hb) hC),λhm=>?_,.inl hb,λx c h=>(by
    rcases xH S I2.ok h with⟨m,_⟩|⟨m,_⟩
    .exact Gb (Ci (Im (Bb (hlt b hb) hC) (co.empty x c m).2))
    .exact h4 x c m),λp hp=>absurd (show p∈([]:Aa (Af × Co)) from hp) (by simp)⟩
   rcases Aw.mp (I2.stkSub b hm) with z|z
   .exact h1 z
   .exact h2 z
  .obtain⟨m,hm,_⟩:=st.inv.loc
   exact hRR _ _ s' (Au _) ⟨m,hm⟩ hC hne λh' sb=>WK I2 hf rfl hC (Au _) hne st sb
 exact codeAny_compStart_list (loop _) (T.self X.A 0 _ _ _ (T.keep _ _ _ st0 λb hb o e=>keep b o e) (loop _))
theorem WU (hc:X.calm=true)(S:CompSc X.env.scope X.N scope N' cap)(hi:PI X tg iter (tDI2 X fi))
  (hg:∀ cl C ex s₀ H₀,PG (qY X N' scope cl C ex s₀ H₀) tg (tDG (qY X N' scope cl C ex s₀ H₀) g))
  (ht:∀ cl C ex s₀ H₀,PTs (qY X N' scope cl C ex s₀ H₀) ifs t) (has:∀ g',(⟨tg,iter,ifs,0⟩::rest:Aa Ew)[0+1]? = Ab g'->g'.is_async=0) (he:∀ cl C ex s₀ H₀,PK (qY X N' scope cl C ex s₀ H₀) (λacc=>zS elt (⟨tg,iter,ifs,0⟩::rest) scope pos 0 acc (qY X N' scope cl C ex s₀ H₀).env) kk)
  (hs:∀ x,Ey iter X.env x=pure x:=by intro _;rfl):PE X (.ListComp elt (⟨tg,iter,ifs,0⟩::rest) scope pos) (tD X (zJ mm cap fi g t kk)):=by
 intro pins s σ H Q I h;obtain⟨P,α,env,S0,r,re,af⟩:=h;rw[eval_ListComp];have af':qJ X P α ((fi env S0).bind λp S1=>mkM mm (goL p.1 g t kk p.2 (x9 cap env) S1 [])) (OkV X P α Q):=af;refine Rr (use:=none) rfl hs (h8 S I.ok) S.kind S.names ?_;refine thn (hi pins s σ H (λJ H1=>∃ (P1:Hp) (α1:Aa Af) (p:Ak (Ai × MO) × Aa _D.D) (S1:Sto),Rel X.K H1 P1 α1 S1/\qG P P1/\α<+:α1/\ItD2 X.K J P1 α1 p.1 p.2/\qJ X P α (mkM mm (goL p.1 g t kk p.2 (x9 cap env) S1 [])) (OkV X P α Q)) I ⟨P,α,env,S0,r,re,?_⟩) λxv s1 h1=>thn h1 λitv s2 h2=>?_
 .cases q:fi env S0 with
  |bad=>rw[q] at af';exact af'
  |ex c x S'=>rw[q] at af';exact af'
  |ok p S1=>rw[q] at af';exact λJ H1 P1 α1 r1 e1 e2 it=>⟨P1,α1,p,S1,r1,e1,e2,it,af'⟩
 obtain⟨it,fp,tn,J,H2,rfl,I2,T,st0,hf,P1,α1,p,S1,r1,e1,e2,hit,af1⟩:=h2;obtain⟨envF,ds,SF,run,ok⟩:=ZJ af1;refine bG (RR:=λacc C=>compPost (As X.prog X.w) X.A X.xe none (EP X pins σ Q) acc C) hc S has hg ht he I2 r1 (re.mono e1 e2) T st0 hf hit run ?_;intro acc C s' hA ⟨m,hm⟩ hC hne fin;refine⟨m,hm,λh' sb=>Y5 (mm:=mm) (fin h' sb) ?_⟩;cases mm with
 |false=>exact λv H3 P3 α3 r3 q1 q2 q3=>ok v H3 P3 α3 r3 (e1.trans q1) (e2.trans q2) q3
 |true=>exact λv H3 P3 α3 r3 q1 q2 q3=>ok v H3 P3 α3 r3 (e1.trans q1) (e2.trans q2) q3
theorem Y1 {i:Ai}{y:Ap}{py spos:Fl}(hc:X.calm=true)(hN:X.N.Nodup)(S:CompSc X.env.scope X.N scope N' cap)(hi:PI X tg iter (tDI2 X fi))
  (hg:∀ cl C ex s₀ H₀,PG (qY X N' scope cl C ex s₀ H₀) tg (tDG (qY X N' scope cl C ex s₀ H₀) g))
  (ht:∀ cl C ex s₀ H₀,PTs (qY X N' scope cl C ex s₀ H₀) ifs t) (has:∀ g',(⟨tg,iter,ifs,0⟩::rest:Aa Ew)[0+1]? = Ab g'->g'.is_async=0) (he:∀ cl C ex s₀ H₀,PK (qY X N' scope cl C ex s₀ H₀) (λacc=>zS elt (⟨tg,iter,ifs,0⟩::rest) scope pos 0 acc (qY X N' scope cl C ex s₀ H₀).env) kk)
  (hy:X.N[i]? = Ab y:=by rfl) (hyl:Loc X.env.scope y:=by first|exact wT rfl|exact Yt rfl) (hf:X.fn y=true\/X.env.scope.names.lookup y=Ab .local:=by first|exact .inl rfl|exact .inr rfl|assumption)
  (hsw:Nt (.ListComp elt (⟨tg,iter,ifs,0⟩::rest) scope pos) (Ab (.Name y py)) spos.line X.env=pure true:=by rfl)
  (hs:∀ x,Ey iter X.env x=pure x:=by intro _;rfl):PS X (.Assign [.Name y py] (.ListComp elt (⟨tg,iter,ifs,0⟩::rest) scope pos) spos) (tDS X (zD (zJ mm cap fi g t kk) (gNm i))):=by
 intro pins s σ H D I h;obtain⟨P,α,env,S0,r,re,af⟩:=h;have af0:=wW af;have af':qJ X P α ((fi env S0).bind λp S1=>mkM mm (goL p.1 g t kk p.2 (x9 cap env) S1 [])) (λd S=>zA X P α (.nx (env.set i (Ab d)) S) D):=af0;rw[exec_Assign_Name_used _ _ _ _ hsw];refine Ad (Lx (Ad ?_));show Ao _ X.A (do let _ <- comprehension (.ListComp elt (⟨tg,iter,ifs,0⟩::rest) scope pos) scope X.env _ (newList []) false (eval iter X.env) (Ab (assign (.Name y py) X.env))) _ _ s
 refine Ad (Hm (Rr (use:=Ab (assign (.Name y py) X.env)) (Q:=λ_ s'=>SP X pins D .next s') rfl hs (h8 S I.ok) S.kind S.names ?_) (λ_ s' hq=>Am (Am hq)) λ_ _ e=>e);refine thn (hi pins s σ H (λJ H1=>∃ (P1:Hp) (α1:Aa Af) (p:Ak (Ai × MO) × Aa _D.D) (S1:Sto),Rel X.K H1 P1 α1 S1/\qG P P1/\α<+:α1/\ItD2 X.K J P1 α1 p.1 p.2/\qJ X P α (mkM mm (goL p.1 g t kk p.2 (x9 cap env) S1 [])) (λd S=>zA X P α (.nx (env.set i (Ab d)) S) D)) I ⟨P,α,env,S0,r,re,?_⟩) λxv s1 h1=>thn h1 λitv s2 h2=>?_
 .cases q:fi env S0 with
  |bad=>rw[q] at af';exact af'
  |ex c x S'=>rw[q] at af';exact af'
  |ok p S1=>rw[q] at af';exact λJ H1 P1 α1 r1 e1 e2 it=>⟨P1,α1,p,S1,r1,e1,e2,it,af'⟩
 obtain⟨it,fp,tn,J,H2,rfl,I2,T,st0,hfp,P1,α1,p,S1,r1,e1,e2,hit,af1⟩:=h2;obtain⟨envF,ds,SF,run,ok⟩:=ZJ af1;refine bG (RR:=λacc C=>compPost (As X.prog X.w) X.A X.xe (Ab (assign (.Name y py) X.env)) (λ_ s'=>SP X pins D .next s') acc C) hc S has hg ht he I2 r1 (re.mono e1 e2) T st0 hfp hit run ?_;intro acc C s' hA ⟨m,hm⟩ hC hne fin;show Ao _ X.A (assign (.Name y py) X.env (.ref acc)) _ _ s';obtain⟨H3,P3,α3,vs,I3,r3,hn3,q1,q2,rp,hCn⟩:=fin s'.heap (Re _ _);obtain⟨r4,e4⟩:=r3.pure (o:=.lst vs) hn3;have hCn':(upd H3 acc (.lst vs)) C=none:=by rw[qI (Gb hne)];exact hCn
 have fC:=I2.fpOk hC hCn';refine Xm (lL I3 hN hy hyl (show qL (V.ref acc) (Ce acc) from rfl) (λs5 I5 ⟨a,sb,ha⟩=>?_) hf)
 have hCa:C≠a:=by
  rcases ha with rfl|ha
  .exact fC.2.1
  .exact λz=>fC.2.2.2.2.1 _ _ ha z.symm
 refine⟨m,hm.sameBut sb hCa,λh' sb'=>?_⟩;have I6:Inv X pins (σ.set i (Ab (V.ref acc))) (upd H3 acc (.lst vs)) { s5 with heap:=h' }:=I5.turned (t':=s5.toks) (λb o hb e=>(sb'.2 b hb).trans e) hCn' fC.2.1 fC.2.2.2.1 fC.2.2.2.2.1 fC.2.2.2.2.2
 cases mm with
 |false =>
  refine⟨_,_,I6,ok _ _ (upd P3 acc (.lst vs)) α3 r4 ?_ ((e1.trans q1).trans e4) (e2.trans q2)⟩;exact((re.mono e1 e2).mono (q1.trans e4) q2).set i (n8 (.inl (.inl qU)) (qE.mono e4 (Bn _) _ _ rp))
 |true =>
  have hpre:α3<+:α3++[acc]:=Jc _ _;have r5:=r3.new (o:=.lst vs) (m:=.lst ds) hn3 ⟨vs,qU,qE.mono (qG.refl _) hpre _ _ rp⟩;refine⟨_,_,I6,ok _ _ P3 (α3++[acc]) r5 ?_ (e1.trans q1) ((e2.trans q2).trans hpre)⟩;refine((re.mono e1 e2).mono q1 (q2.trans hpre)).set i ?_;simp only[Rep];exact⟨acc,rfl,by rw[<- r3.len];simp⟩
end
section
variable {prog:Bd}{w:Bz}{A:Bt}{E:Ac->Ag->Prop}{s:Ag}
theorem QH {e it l:Af}{i:Ai}{x old:Ac}(he:Uh s.heap e it i old)(hit:zF tp s.heap it l i)(hl:xP tp s.heap l xs)(hx:xs[i]? = Ab x)(ne:e≠it)
  (hQ:∀ g,IsEnumOut g e it ((i:Al)+1) x s.heap.objs.size->zF tp g it l (i+1)->Jg g s.heap.objs.size (.int i s.toks) x->g.objs.size=s.heap.objs.size+1->(∀ b o,b≠e->b≠it->s.heap.get? b=Ab o->g.get? b=Ab o)->Q (.ref s.heap.objs.size) { s with heap:=g,toks:=s.toks+1 }) :
  Ao (As prog w) A (Hn.«enumerate.__next__» ⟨[.ref e],[]⟩) (λfin s'=>∃ v,fin=.done (.ret v)/\Q v s') E s:=by
 obtain⟨hp,gn,dr,tk,os⟩:=s;show Ao _ _ (field (.ref e) 2 >>= _) _ _ _;refine Ad (Eg he rfl (x:=.ref it) rfl (Ad (gJ hit hl hx λg1 i1 s1=>?_)))
 replace s1:Fe it hp g1:=s1
 have e1:Uh g1 e it i old:=(s1.2 e ne).trans he;show Ao _ _ (field (.ref e) 3 >>= _) _ _ ⟨g1,gn,dr,tk,os⟩;refine Ad (Eg e1 rfl (x:=Gj i) rfl ?_);show Ao _ _ (field (.ref e) 4 >>= _) _ _ ⟨g1,gn,dr,tk,os⟩;refine Ad (Eg e1 rfl (x:=.none) rfl ?_);show Ao _ _ (mkInt i >>= _) _ _ ⟨g1,gn,dr,tk,os⟩;refine Ad (wpAny_mkInt ?_);show Ao _ _ (setField (.ref e) 3 (Gj ((i:Al)+1)) >>= _) _ _ ⟨g1,gn,dr,tk+1,os⟩;refine Ad (Ff e1 (by simp) λg2 e2 s2=>?_)
 replace s2:Fe e g1 g2:=s2
 replace e2:Uh g2 e it ((i:Al)+1) old:=e2
 show Ao _ _ (setField (.ref e) 4 .none >>= _) _ _ ⟨g2,gn,dr,tk+1,os⟩;refine Ad (Ff e2 (by simp) λg3 e3 s3=>?_)
 replace s3:Fe e g2 g3:=s3
 replace e3:Uh g3 e it ((i:Al)+1) old:=e3
 show Ao _ _ (newTuple [.int i tk,x] >>= _) _ _ ⟨g3,gn,dr,tk+1,os⟩;refine Ad (Uw ?_);have e4:Uh (g3.push { cls:=.type "tuple",data:=.seq #[.int i tk,x] }) e it ((i:Al)+1) old:=Ah _ e3;generalize q4:g3.push { cls:=.type "tuple",data:=.seq #[.int i tk,x] } = g4 at e4;have sz:g3.objs.size=hp.objs.size:=by rw[s3.1,s2.1,s1.1]
 have el:e<hp.objs.size:=Ay he;have t4:Jg g4 hp.objs.size (.int i tk) x:=by rw[<- q4,<- sz];exact Ba _ rfl
 have z4:g4.objs.size=hp.objs.size+1:=by rw[<- q4,Dz,sz]
 have k4:∀ b o,b≠e->b≠it->hp.get? b=Ab o->g4.get? b=Ab o:=λb o b1 b2 q=>by
  rw[<- q4];exact Ah _ (s3.extBut b o b1 (s2.extBut b o b1 (s1.extBut b o b2 q)))
 have i4:zF tp g4 it l (i+1):=i1.keep λo q=>by rw[<- q4];exact Ah _ (s3.extBut _ o ne.symm (s2.extBut _ o ne.symm q))
 show Ao _ _ (Ev (.ref e) >>= _) _ _ ⟨g4,gn,dr,tk+1,os⟩;rw[sz];refine Ad ?_;unfold Ev;refine Ad (Eg e4 rfl (x:=.none) rfl (Am ?_));simp only[Dw];refine Ad (Hd (Ad (Eg e4 rfl (x:=old) rfl (Ad (Ff e4 (by simp) λg5 e5 s5=>?_)))))
 replace s5:Fe e g4 g5:=s5
 replace e5:Uh g5 e it ((i:Al)+1) x:=e5
 show Ao _ _ (Gv (.ref e) (.ref hp.objs.size) >>= _) _ _ ⟨g5,gn,dr,tk+1,os⟩;refine Ad ?_;unfold Gv;refine Ad (Ff e5 (by simp) λg6 e6 s6=>?_)
 replace s6:Fe e g5 g6:=s6
 replace e6:IsEnumOut g6 e it ((i:Al)+1) x hp.objs.size:=e6
 refine Ff e6 (by simp) λg7 e7 s7=>?_
 replace s7:Fe e g6 g7:=s7
 replace e7:IsEnumOut g7 e it ((i:Al)+1) x hp.objs.size:=e7
 have up:∀ b o,b≠e->g4.get? b=Ab o->g7.get? b=Ab o:=λb o b1 q=>s7.extBut b o b1 (s6.extBut b o b1 (s5.extBut b o b1 q));exact Ad (Ug (Am ⟨_,rfl,hQ g7 e7 (i4.keep λo q=>up _ o ne.symm q) (up _ _ (Gi el) t4) (by rw[s7.1,s6.1,s5.1,z4]) λb o b1 b2 q=>up b o b1 (k4 b o b1 b2 q)⟩))
set_option maxHeartbeats 4000000 in
set_option tactic.hygienic true in
theorem Y8 (tp:Aq)(l:Af)(xs:Ax Ac) :
  Meets (Hn.«enumerate.__new__» ⟨[.type "enumerate",.ref l],[]⟩) (λ_ R s=>(∃ n dct sl,s.heap.get? l=Ab { cls:=.type (if tp then "tuple" else "list"),dict:=dct,data:=.seq xs n,slots:=sl }) /\ R (.ok (.ret (.ref (s.heap.push (vW tp l)).objs.size))) { s with heap:=(s.heap.push (vW tp l)).push { cls:=.type "enumerate",data:=.fields #[.none,.bool false,.ref s.heap.objs.size,Gj 0,.none,.none] } }):=
 .of_wp λprog w A R s h=>by
  obtain⟨hp,gn,dr,tk,os⟩:=s;obtain⟨⟨n,dct,sl,hl⟩,h⟩:=h;have hsub:=sub_enumerate;cases tp
  .have L1:Yu (Ot ⟨hp,gn,dr,tk,os⟩) l xs:=⟨_,hl,rfl,n,rfl⟩
   wp_walk using Gx hl
   refine Zn λst=>Am ?_
   split
   .rename_i c _ _ _ _ _
    cases (c == Hb "enumerate") <;> (wp_walk using Gx hl,Gp L1;exact⟨_,rfl,h⟩)
   .wp_walk using Gx hl,Gp L1;exact⟨_,rfl,h⟩
  .have L1:Xf (Ot ⟨hp,gn,dr,tk,os⟩) l xs:=⟨_,hl,rfl,n,rfl⟩
   wp_walk using Gx hl
   refine Zn λst=>Am ?_
   split
   .rename_i c _ _ _ _ _
    cases (c == Hb "enumerate") <;> (wp_walk using Gx hl,Gz L1;exact⟨_,rfl,h⟩)
   .wp_walk using Gx hl,Gz L1;exact⟨_,rfl,h⟩
theorem oX {tp:Aq}{l:Af}{xs:Ax Ac}{Q:Ac->Ag->Prop}(hl:∃ n dct sl,s.heap.get? l=Ab { cls:=.type (if tp then "tuple" else "list"),dict:=dct,data:=.seq xs n,slots:=sl })
  (h:∀ g,Uh g (s.heap.objs.size+1) s.heap.objs.size 0 .none->zF tp g s.heap.objs.size l 0->(∀ b o,s.heap.get? b=Ab o->g.get? b=Ab o)->Q (.ref (s.heap.objs.size+1)) { s with heap:=g }) :
  Ao (As prog w) A (call (.type "enumerate") [.ref l]) Q E s:=by
 refine Xg F.called_enumerate (by decide) (F.typeCall_enumerate_1 _) (F.newCall_enumerate_1 _) (λobj=>F.args_object_init_2 obj _) F.entry_enumerate_new (Y8 tp l xs) ⟨hl,?_⟩
 have hz:(s.heap.push (vW tp l)).objs.size=s.heap.objs.size+1:=Dz ..;show _/\_;have he:((s.heap.push (vW tp l)).push { cls:=.type "enumerate",data:=.fields #[.none,.bool false,.ref s.heap.objs.size,Gj 0,.none,.none] }).get? (s.heap.push (vW tp l)).objs.size=Ab _:=Ba _ rfl;rw[hz] at he ⊢;exact⟨⟨_,he,rfl⟩,h _ he (gB (Ah _ (Ba _ rfl))) λb o x=>Ah _ (Ah _ x)⟩
end
noncomputable def Ite (tp:Aq)(K:Aj)(a:Af):It:=
  ⟨λi H=>∃ xs x,Sq tp K H a xs/\xs[i]? = Ab x,
   λi H v H'=>∃ T x,v=.ref T/\H T=none/\H'=upd H T (.tup [.int i,x])/\∀ xs,Sq tp K H a xs->xs[i]? = Ab x,
   λi H=>∃ xs,Sq tp K H a xs/\xs.length<=i⟩
def oR (tp:Aq)(e it l:Af)(k:Ai)(h:Bq):Prop:=∃ old,Uh h e it k old/\zF tp h it l k
theorem XW {P:Bd}{w:Bz}{K:Aj}{elts:Aa Bw}{x1:Ai}{tpos:Fl}{e it a:Af}(ne:e≠it):Turn P w K (.Tuple elts x1 tpos) (Ite tp K a) [e,it] e (oR tp e it a) where
 mem:=by simp
 obj:=λk h st c hc=>by
  obtain⟨old,s1,s2⟩:=st;simp only[Aw,Dl,Hg] at hc;rcases hc with rfl|rfl
  .exact⟨_,s1,λv y=>by cases y⟩
  .exact s2.there
 keep:=λk h h' st kp=>by
  obtain⟨old,s1,s2⟩:=st;exact⟨old,kp e (by simp) _ s1,s2.keep λo q=>kp it (by simp) o q⟩
 item:=by
  intro X hP hw hK hc k pins s σ H E Iv hf st hg;subst hP hw hK;obtain⟨old,s1,s2⟩:=st;obtain⟨xs,x,qa,hx⟩:=hg;obtain⟨ia,ra,ha⟩:=qa.at Iv;obtain⟨u,hu,ru⟩:=ra.get hx;have hT:s.TypeIs (.ref e) "enumerate":=⟨_,s1,rfl⟩;unfold Nl;refine Ad (Iu (Eh (name:=Il "__next__") hT Lb (Em Lb hT Tr
   (QH s1 s2 ha (by simpa using hu) ne λh' a1 a2 a3 a4 a5=>Am ?_) (Sv _))))
  refine⟨_,rfl,wpAny_letOwnedTupleGo_enum (s:={ s with heap:=h',toks:=s.toks+1 }) a1 λh2 b1 b2=>?_⟩
  have up:∀ c o,c≠e->h'.get? c=Ab o->h2.get? c=Ab o:=λc o n q=>(b2.2 c n).trans q;have el:e<s.heap.objs.size:=Ay s1;have T2:Jg h2 s.heap.objs.size (.int k s.toks) u:=up _ _ (Gi el) a3;have st2:oR tp e it a (k+1) h2:=⟨u,b1,a2.keep λo q=>up _ o ne.symm q⟩;refine⟨.ref s.heap.objs.size,upd H s.heap.objs.size (.tup [.int k,x]),?_,rfl,⟨_,x,rfl,Iv.hok.fresh (Au _),rfl,λzs qz=>by rw[qz.inj Iv qa];exact hx⟩,st2,λc hc=>?_⟩
  .have:=Inv.turnLay (fp:=[e,it]) (its:=[.int k s.toks,u]) (h':=h2) (xs:=[.int k,x]) Iv hf (λc o hc q=>by
    simp only[Aw,Dl,Hg,Wk] at hc;exact up c o hc.1 (a5 c o hc.1 hc.2 q)) (λc hc=>by
    obtain⟨old',t1,t2⟩:=st2;simp only[Aw,Dl,Hg] at hc;rcases hc with rfl|rfl
    .exact⟨_,t1⟩
    .obtain⟨o,q,_⟩:=t2.there;exact⟨o,q⟩) (Au _) (.cons ⟨_,rfl⟩ (.cons ru .nil)) ⟨_,T2,rfl,_,rfl⟩ (by show 2<=sizeLine;decide)
   exact this.tok (s.toks+1)
  .have hn:=(hf c hc).1
   rw[qI ?_]
   .exact hn
   .rintro rfl
    obtain⟨o,q,_⟩:∃ o,s.heap.get? s.heap.objs.size=Ab o/\Od:=by
     simp only[Aw,Dl,Hg] at hc;rcases hc with z|z
     .exact⟨_,z▸s1,trivial⟩
     .obtain⟨o,e',_⟩:=s2.there;exact⟨o,z▸e',trivial⟩
    exact absurd (Ay q) (Et _)
 done:=by
  intro X hP hw hK hc k pins s σ H E Iv hf st hg;subst hP hw hK;obtain⟨old,s1,s2⟩:=st;obtain⟨xs,qa,hend⟩:=hg;obtain⟨ia,ra,ha⟩:=qa.at Iv;have hT:s.TypeIs (.ref e) "enumerate":=⟨_,s1,rfl⟩;have l1:=ra.length;unfold Nl;refine Ad (Iu (Eh (name:=Il "__next__") hT Lb (Em Lb hT Tr ?_ (Sv _))));show Ao _ _ (field (.ref e) 2 >>= _) _ _ _;refine Ad (Eg s1 rfl (x:=.ref it) rfl (Ad (jA (Iv.ok.hd hc) s2 ha (by simp;omega) λh' x kp hx'=>?_)))
  obtain⟨o,ho,hcl⟩:=hx';refine Ad (Ou (T:="StopIteration") (b:=true) ⟨o,ho,hcl⟩ Ux (Am ⟨rfl,Inv.turnL (fp:=[e,it]) Iv hf λc o hc q=>?_⟩));simp only[Aw,Dl,Hg,Wk] at hc;exact kp c o hc.2 q
 self:=λ_ _ _ _ _ st h=>by
  obtain⟨old,s1,_⟩:=st;exact Ya s1 h
noncomputable def yF (xs:Aa D):Aa D:=xs.mapIdx λi x=>D.tup [.int i,x]
noncomputable def US (ds:Aa D):Ak (Aa D):=match ds with
 |[.tup xs]=>Ab (yF xs)
 |[.lst xs]=>Ab (yF xs)
 |_=>none
noncomputable def lV (f:DA):DI:=λenv S=>(f env S).bind λds S1=>vQ (US ds) S1
theorem QF (xs:Aa D)(i:Ai):(yF xs)[i]? = (xs[i]?).map λx=>D.tup [.int i,x]:=by
 unfold yF;rw[List.getElem?_mapIdx]
theorem pC (xs:Aa D):(yF xs).length=xs.length:=by simp[yF]
theorem YR {K:Aj}{P:Hp}{a:Af}{xs:Aa D}(qa:Sq tp K P a vs)(ta:qE K P α xs vs):ItD K (Ite tp K a) P α (yF xs) where
 go:=λi H P1 α1 S hi r e _=>by
  rw[pC] at hi;have h1:i<vs.length:=by rw[<- ta.length];omega
  exact⟨vs,vs[i],qa.mono (e.trans r.sub),by simp⟩
 yld:=λi H x H' P1 α1 S hi r e e2 y=>by
  obtain⟨T,u,rfl,hT,rfl,hu⟩:=y;rw[pC] at hi;obtain⟨v1,z1,p1⟩:=ta.get (Ar hi);have eu:=hu vs (qa.mono (e.trans r.sub));rw[z1] at eu;cases eu;obtain⟨r1,s1⟩:=r.pure (o:=.tup [.int i,u]) hT;refine⟨_,.tup [.int i,xs[i]],?_,r1,s1,?_⟩
  .rw[QF,Ar hi];rfl
  .exact n9 (.of qU) (.cons (by simp only[Rep]) (.cons (Rep.mono (e.trans s1) e2 _ _ p1) .nil))
 stop:=λi H P1 α1 S hi r e _=>by
  rw[pC] at hi;have l1:=ta.length;exact⟨vs,qa.mono (e.trans r.sub),by omega⟩
section
variable {X:Cx}{e1:Bw}{elts:Aa Bw}{x1:Ai}{tpos:Fl}{f:DA}{p pos:Fl}
theorem Sq.obj {pins:Aa (Af × Co)}{σ:_L.St}{H:Hp}{s:Ag}{a:Af}{xs:Aa V}(I:Inv X pins σ H s)(q:Sq tp X.K H a xs):∃ its:Aa Ac,qK xs its/\∃ n dct sl,s.heap.get? a=Ab { cls:=.type (if tp then "tuple" else "list"),dict:=dct,data:=.seq its.toArray n,slots:=sl }:=by
 obtain⟨its,rv,h⟩:=q.at I;refine⟨its,rv,?_⟩;cases tp with
 |true =>
  obtain⟨o,ho,hc,n,hd⟩:=h;obtain⟨c,d,dt,sl⟩:=o;dsimp only at hc hd;subst hc;subst hd;exact⟨n,_,_,ho⟩
 |false =>
  obtain⟨o,ho,hc,n,hd⟩:=h;obtain⟨c,d,dt,sl⟩:=o;dsimp only at hc hd;subst hc;subst hd;exact⟨n,_,_,ho⟩
theorem hX {pins:Aa (Af × Co)}{σ:_L.St}{H P:Hp}{s:Ag}{a:Af}{xs:Aa D}(I:Inv X pins σ H s)(r:Rel X.K H P α S)(qa:Sq tp X.K P a vs)(ta:qE X.K P α xs vs)
  (q:OkI X P α R (yF xs) S):Ao (As X.prog X.w) X.A (call (.type "enumerate") [.ref a]) (λv s1=>Ao (As X.prog X.w) X.A (Og v) (PIE X pins σ (.Tuple elts x1 tpos) R) X.xe s1) X.xe s:=by
 obtain⟨ia,ra,ha⟩:=Sq.obj I (qa.mono r.sub);refine oX (tp:=tp) ha λh' z1 z2 z7=>?_;refine Ya (s:={ s with heap:=h' }) z1 ?_
 refine⟨_,[s.heap.objs.size+1,s.heap.objs.size],_,_,H,rfl,I.kept (t':=s.toks) z7,XW (tp:=tp) (a:=a) (by intro z;simp at z),⟨_,z1,z2⟩,λc hc=>?_,q _ _ P α r (qG.refl _) (Bn _) (YR qa ta)⟩
 have hl:s.heap.objs.size<=c:=by
  simp only[Aw,Dl,Hg] at hc;rcases hc with rfl|rfl <;> simp
 exact I.fpOk hl (I.hok.fresh hl)
theorem mR:Fc "enumerate" = Ab (.type "enumerate"):=by decide +kernel
theorem Y7 (h:US ds=Ab its):∃ d xs,ds=[d]/\ItV d xs/\its=yF xs:=by
 cases ds with
 |nil=>exact nn h
 |cons d ds =>
  cases ds with
  |cons _ _=>cases d <;> exact nn h
  |nil =>
   cases d with
   |tup xs=>exact⟨_,xs,rfl,.tup rfl,(Ct h).symm⟩
   |lst xs=>exact⟨_,xs,rfl,.lst rfl,(Ct h).symm⟩
   |_=>exact nn h
theorem KS (hg:Gl X "enumerate")(hm:X.mg "enumerate" = none)(ha:PA X [e1] (tDA X f))(hs:Be [e1] X.env=(false,eval e1 X.env)::Be [] X.env:=by rfl)(hpl:(Gc pos (Be [] X.env)).any (·.1)=false:=by rfl) :
  PI X (.Tuple elts x1 tpos) (.Call (.Name "enumerate" p) [e1] [] pos) (tDI X (lV f)):=by
 intro pins s σ H R I h;obtain⟨P,α,env,S,r,re,af⟩:=h;refine Zk (wF I hg hm mR (Ep (thn (wD ha I r re af pos) λus s1 ⟨vs,H1,P1,α1,ds,S1,I1,rv,r1,re1,rp,e1,e2,af1⟩=>?_) hs hpl));obtain⟨its,hi,q⟩:=vR af1;obtain⟨d,xs,rfl,hd,rfl⟩:=Y7 hi;obtain⟨v,u,rfl,rfl,p1,q1⟩:=vC rp rv;cases hd with
 |tup ed =>
  subst ed;simp only[Rep] at p1;obtain⟨a,va,rfl,qa,ta⟩:=p1;cases (show u=Ce a from q1)
  exact hX (tp:=true) I1 r1 qa ta (q.base e1 e2)
 |lst ed =>
  subst ed;simp only[Rep] at p1;obtain⟨a,va,rfl,qa,ta⟩:=p1;cases (show u=Ce a from q1)
  exact hX (tp:=false) I1 r1 qa.l ta (q.base e1 e2)
end
section
variable {X:Cx}
noncomputable def wK:D->Aa D->Sto->Res D:=λa ds S=>match a,ds with
 |.loc n,[i,x]=>match S[n]? with
  |some (.dct kvs)=>match yY i with
   |some k=>match wA kvs k with
    |some d=>.ok d S
    |none=>if kvs.length<lim then .ok x (S.set n (.dct (yM kvs k x))) else .bad
   |none=>.bad
  |_=>.bad
 |_,_=>.bad
theorem bE (a b c:Ac):Yx "dict.setdefault" ⟨[a,b,c],[]⟩:=by unfold Yx;kernel_rfl
inductive SdV (a:D)(ds:Aa D)(S:Sto):Prop
 |bad (e:wK a ds S=.bad)
 |of (n:Ai) (i x:D) (kvs:Aa (Key × D)) (k:Key) (ea:a=.loc n) (ed:ds=[i,x]) (hS:S[n]? = Ab (.dct kvs)) (hk:yY i=Ab k) (e:wK a ds S=(match wA kvs k with|some d=>.ok d S|none=>if kvs.length<lim then .ok x (S.set n (.dct (yM kvs k x))) else .bad))
theorem sdV (a:D)(ds:Aa D)(S:Sto):SdV a ds S:=by
 cases a with
 |loc n =>
  cases ds with
  |nil=>exact .bad rfl
  |cons i ds =>
   cases ds with
   |nil=>exact .bad rfl
   |cons x ds =>
    cases ds with
    |cons _ _=>exact .bad rfl
    |nil =>
     have z:wK (.loc n) [i,x] S=(match S[n]? with|some (.dct kvs)=>(match yY i with|some k=>(match wA kvs k with|some d=>.ok d S|none=>if kvs.length<lim then .ok x (S.set n (.dct (yM kvs k x))) else .bad)|none=>.bad)|_=>.bad):=rfl
     cases hS:S[n]? with
     |none=>rw[hS] at z;exact .bad z
     |some m =>
      rw[hS] at z;cases m with
      |dct kvs =>
       cases hk:yY i with
       |none=>rw[hk] at z;exact .bad z
       |some k=>rw[hk] at z;exact .of n i x kvs k rfl rfl hS hk z
      |_=>exact .bad z
 |_=>exact .bad rfl
theorem ZI:MtD X "dict.setdefault" wK:=by
 intro pins σ H s P α S v vv vs us a ds Q I r rv p rvs rps af;cases sdV a ds S with
 |bad e=>rw[e] at af;exact An af
 |of n i x kvs k ea ed hS hk e =>
  rw[e] at af;subst ea ed;clear e;obtain⟨vi,vx,ui,ux,rfl,rfl,pi,px,qi,qx⟩:=jT rps rvs;simp only[Rep] at p;obtain⟨b,rfl,q⟩:=p;obtain⟨ws,z,t⟩:=r.at' n b _ q hS;cases Z4 hk pi;cases (show vv=Ce b from rv)
  obtain⟨hz,hd,us',rel,dd⟩:=iL I.hok z;have hz':us'.length<=sizeLine:=by rw[<- rel.length];exact hz
  obtain⟨k1,k2⟩:=cN (k:=k) t;have er:=rel.val k;refine call_meetsIn Pj dd.typeIs PySem.F.entry_dict_setdefault (bE _ _ _) (kt_meets_setdefault (zN X.prog X.w) b (fX qi) hd ux) ⟨us',dd,hz',λv' hv'=>?_,λhn h' dd' hs=>?_⟩
  .cases hv:wA kvs k with
   |none =>
    rw[k2 hv,hv'] at er;exact An er
   |some d =>
    obtain⟨w',e1,e2⟩:=k1 d hv;rw[hv] at af;rw[e1,hv'] at er;exact⟨w',H,I.tok _,er,xr af r e2⟩
  .cases hv:wA kvs k with
   |some d =>
    obtain⟨w',e1,e2⟩:=k1 d hv;rw[e1,hn] at er;exact An er
   |none =>
    rw[hv] at af;obtain⟨hl,af⟩:=xK (X:=X) af;have hl':(yN ws k vx).length<=sizeLine:=by
     have:=jZ ws k vx;have e3:=cK t;rw[<- zQ];lia
    have he:∃ q,h'.get? b=Ab q:=let ⟨q,_,_,hq,_⟩:=dd';⟨q,hq⟩
    have I':=mU (t':=s.toks+1) I (by rw[z];exact He) hs he (Q9 hl' hd (rel.put k qx) dd')
    exact⟨vx,_,I',qx,af _ _ P α (r.put (m':=.dct (yM kvs k x)) q hS (by intro z;cases z) ⟨_,qU,cL px t⟩) (qG.refl _) (Bn _) px⟩
noncomputable def zU:Aa D->Ak (Aa Al)
 |[]=>Ab []
 |.int i::r=>(zU r).map (i::·)
 |_::_=>none
theorem xS (ns:Aa Al):zU (ns.map D.int)=Ab ns:=by
 induction ns with
 |nil=>rfl
 |cons n r ih=>exact congrArg (Option.map (n::·)) ih
theorem vO:∀ {ds:Aa D} {ns:Aa Al},zU ds=Ab ns->ds=ns.map D.int
 |[],ns,h=>by cases h;rfl
 |d::r,ns,h=>by
  cases d with
  |int i =>
   obtain⟨m,h1,rfl⟩:=Do.mp (show (zU r).map (i::·)=Ab ns from h)
   rw[vO h1];rfl
  |_=>exact nn h
theorem wR {K:Aj}{P:Hp}:∀ {ns:Aa Al} {vs:Aa V},qE K P α (ns.map D.int) vs->vs=ns.map V.int
 |[],vs,r=>by rw[r.nil_inv];rfl
 |n::ns,vs,r=>by
  obtain⟨w,ws,rfl,p,t⟩:=r.cons_inv;simp only[Rep] at p;rw[p,wR t];rfl
noncomputable def bX:G2:=λa b S=>match a,b with
 |.tup xs,.tup ys=>match zU xs,zU ys with
  |some ns,Ab ms=>.ok (.bl (_H.lexLt ns ms)) S
  |_,_=>.bad
 |_,_=>gLt a b S
end
section
variable {X:Cx}
theorem rT {pins:Aa (Af × Co)}{σ:_L.St}{H P:Hp}{s:Ag}{xs:Aa D}{v:V}{vv:Ac}{ns:Aa Al}(I:Inv X pins σ H s)(r:Rel X.K H P α S)(rv:qL v vv)(p:Rep X.K P α (.tup xs) v)(h:zU xs=Ab ns) :
  ∃ a its,vv=.ref a/\Sm s.heap a (List.toArray its)/\Jo its ns:=by
 have:=vO h;subst this;obtain⟨a,vs,its,rfl,q1,t1,rv1,h1,l1,_⟩:=vZ I r p;have:=wR t1;subst this;exact⟨a,its,rv,h1,by simpa using uD rv1⟩
set_option tactic.hygienic true in
theorem L9 (hu:X.A.units<Fi):OpD X (Cy .Lt) bX:=by
 intro pins σ H s P α S v u vv uu a b Q I r rv ru pa pb af;unfold bX at af
 split at af
 .rename_i xs ys
  split at af
  .rename_i ns ms h1 h2
   obtain⟨a,its,rfl,t1,i1⟩:=rT I r rv pa h1;obtain⟨b,its2,rfl,t2,i2⟩:=rT I r ru pb h2;exact _H.lt_tupInts t1 t2 (by simpa using i1) (by simpa using i2) hu ⟨.bl _,H,I,rfl,xr af r (by simp only[Rep])⟩
  .exact An af
 .exact JJ pins σ H s P α S v u vv uu a b Q I r rv ru pa pb af
end
section
variable {X:Cx}
noncomputable def lZ:DF:=λds S=>match ds with
 |[.int a,.int b]=>.ok (.int (if b>a then b else a)) S
 |_=>.bad
inductive Two (ds:Aa D):Prop
 |no (h:∀ (g:Al->Al->Res D),(match ds with|[.int a,.int b]=>g a b|_=>.bad)=.bad)
 |of (a b:Al) (ed:ds=[.int a,.int b])
theorem AJ (ds:Aa D):Two ds:=by
 cases ds with
 |nil=>exact .no λ_=>rfl
 |cons d ds =>
  cases d with
  |int a =>
   cases ds with
   |nil=>exact .no λ_=>rfl
   |cons e ds =>
    cases e with
    |int b =>
     cases ds with
     |nil=>exact .of a b rfl
     |cons _ _=>exact .no λ_=>rfl
    |_=>exact .no λ_=>rfl
  |_=>exact .no λ_=>rfl
theorem K6 (hc:X.calm=true):w5 X (.builtin "max") lZ:=by
 intro pins σ H s P α S vs us ds Q I r rv rp af;cases AJ ds with
 |no h=>exact(dM (X:=X) (r:=lZ ds S) (h _) af).elim
 |of a b ed =>
  subst ed;obtain⟨v,w,u,x,rfl,rfl,p,p',q,q'⟩:=jT rp rv;cases xB p;cases xB p';obtain⟨t,rfl⟩:=q;obtain⟨t',rfl⟩:=q';refine max_two_ints (I.ok.hd hc) λh' tk hk=>?_;have I':Inv X pins σ H { s with heap:=h',toks:=tk }:=I.kept (t':=tk) hk
  by_cases hb:b>a
  .rw[Bl hb]
   exact⟨.int b,H,I',⟨t',rfl⟩,xr af r (by simp only[Rep];rw[Bl hb])⟩
  .rw[Bm hb]
   exact⟨.int a,H,I',⟨t,rfl⟩,xr af r (by simp only[Rep];rw[Bm hb])⟩
end
end _D
namespace _D
open PySem PySem.Spec PyProof.Rows _L PySem.SeqAt
section
variable {X:Cx}{pins:Aa (Af × Co)}{σ : _L.St}{H P:Hp}{α : Aa Af}{S:Sto}{s:Ag}
inductive Same2 (X:Cx)(P:Hp)(α : Aa Af)(d d':D):Prop
 |eq (h:d=d')
 |tt (xs ys:Aa D) (its:Aa Ac) (ed:d=.tup xs) (ed':d'=.tup ys) (q:Seqs X P α xs ys its its)
 |ll (xs ys:Aa D) (its:Aa Ac) (ed:d=.lst xs) (ed':d'=.lst ys) (q:Seqs X P α xs ys its its)
theorem JQ {d d':D}{u:Ac}(k1:Kd X P α s d u)(k2:Kd X P α s d' u):Same2 X P α d d':=by
 cases k1 with
 |non=>cases k2;exact .eq rfl
 |bl b=>cases k2;exact .eq rfl
 |int i t=>cases k2;exact .eq rfl
 |str x t=>cases k2;exact .eq rfl
 |tup a xs its vs rp rv h q =>
  cases k2 with
  |tup _ ys its2 ws rp2 rv2 h2 q2 =>
   cases cF h h2;exact .tt xs ys its rfl rfl ⟨vs,ws,rp,rv,rp2,rv2⟩
  |lst _ ys its2 ws rp2 rv2 h2 q2=>exact(iR h h2).elim
 |lst a xs its vs rp rv h q =>
  cases k2 with
  |lst _ ys its2 ws rp2 rv2 h2 q2 =>
   cases cE h h2;exact .ll xs ys its rfl rfl ⟨vs,ws,rp,rv,rp2,rv2⟩
  |tup _ ys its2 ws rp2 rv2 h2 q2=>exact(iR h2 h).elim
theorem nY (I:Inv X pins σ H s)(r:Rel X.K H P α S){m:Ai}(ih:∀ (d d' e:D) (u:Ac),pl m d=true->pl m d'=true->Kd X P α s d u->Kd X P α s d' u->eqD d e=eqD d' e){xs ys zs:Aa D}{its:Aa Ac}(h1:xs.all (pl m)=true)(h2:ys.all (pl m)=true)(q:Seqs X P α xs ys its its):w4 xs zs=w4 ys zs:=by
 obtain⟨vs,ws,rp,rv,rp2,rv2⟩:=q;have l1:=rp.length.trans rv.length;have l2:=rp2.length.trans rv2.length;rw[yL,yL,l1,l2]
 congr 1
 have key:∀ j∈De (min its.length zs.length),eqD (xs.getD j .non) (zs.getD j .non)=eqD (ys.getD j .non) (zs.getD j .non):=λj hj=>by
  have hj':=Fk.mp hj;have hj:j<its.toArray.size:=by rw[Bf];lia
  obtain⟨w1,y1,z1,m1⟩:=w8 rp rv hj;obtain⟨w2,y2,z2,m2⟩:=w8 rp2 rv2 hj;exact ih _ _ _ _ (xW h1 m1) (xW h2 m2) (yG I r (xW h1 m1) y1 z1) (yG I r (xW h2 m2) y2 z2)
 rw[Ts,Cn,Cn];exact⟨λh j hj=>(key j hj)▸h j hj,λh j hj=>(key j hj).symm▸h j hj⟩
theorem GE (I:Inv X pins σ H s)(r:Rel X.K H P α S):∀ (n:Ai) (d d' e:D) (u:Ac),pl n d=true->pl n d'=true->Kd X P α s d u->Kd X P α s d' u->eqD d e=eqD d' e:=by
 intro n
 induction n with
 |zero =>
  intro d d' e u h1 h2 k1 k2;cases JQ k1 k2 with
  |eq h=>rw[h]
  |tt _ _ _ ed=>subst ed;exact Hf h1
  |ll _ _ _ ed=>subst ed;exact Hf h1
 |succ m ih =>
  intro d d' e u h1 h2 k1 k2;cases JQ k1 k2 with
  |eq h=>rw[h]
  |tt xs ys its ed ed' q =>
   subst ed ed';cases e with
   |tup zs=>exact nY I r ih h1 h2 q
   |_=>rfl
  |ll xs ys its ed ed' q =>
   subst ed ed';cases e with
   |lst zs=>exact nY I r ih h1 h2 q
   |_=>rfl
open Classical in
def eOf (X:Cx)(P:Hp)(α : Aa Af)(s:Ag)(xs:Aa D)(d:D)(y:Ac):Aq:=if h:∃ z,z∈xs/\Kd X P α s z y then eqD (Ov h) d else false
theorem QC (I:Inv X pins σ H s)(r:Rel X.K H P α S){n:Ai}{xs:Aa D}{vs:Aa V}{its:Aa Ac}{d:D}(h:xs.all (pl n)=true)(rp:qE X.K P α xs vs)(rv:qK vs its){j:Ai}(hj:j<its.length):∃ z,z∈xs/\Kd X P α s z its[j]/\eOf X P α s xs d its[j]=eqD z d/\eqD z d=eqD (xs.getD j .non) d:=by
 obtain⟨w,y,z,m⟩:=w8 rp rv (j:=j) (by rw[Bf];exact hj)
 have k:=yG I r (xW h m) y z;have ex:∃ z,z∈xs/\Kd X P α s z its[j]:=⟨_,m,k⟩;have hs:=Ow ex;refine⟨Ov ex,hs.1,hs.2,?_,GE I r n _ _ d _ (xW h hs.1) (xW h m) hs.2 k⟩;unfold eOf;rw[dif_pos ex]
theorem GC (I:Inv X pins σ H s)(r:Rel X.K H P α S){n:Ai}{xs:Aa D}{vs:Aa V}{its:Aa Ac}{d:D}(h:xs.all (pl n)=true)(rp:qE X.K P α xs vs)(rv:qK vs its):its.map (eOf X P α s xs d)=xs.map λx=>eqD x d:=by
 have l:=rp.length.trans rv.length;refine Ox (by rw[Av,Av,l]) λj h1 h2=>?_
 rw[Av] at h1 h2;rw[Yy,Yy];obtain⟨z,_,_,e1,e2⟩:=QC (d:=d) I r h rp rv h1;rw[e1,e2];simp[Kh,h2]
theorem QD (I:Inv X pins σ H s)(r:Rel X.K H P α S){n:Ai}{A:Bt}{xs:Aa D}{vs:Aa V}{its:Aa Ac}{d:D}{v:V}{u:Ac}(hu:A.units+n<Fi)(h:xs.all (pl n)=true)(hd:pl n d=true)(rp:qE X.K P α xs vs)(rv:qK vs its)(p:Rep X.K P α d v)(q:qL v u):∀ y,y∈its.toArray->EqAt A s y u (eOf X P α s xs d y):=λy hy=>by
 obtain⟨j,hj,rfl⟩:=Cu.mp (show y∈its by simpa using hy)
 obtain⟨z,hz,k,e1,_⟩:=QC (d:=d) I r h rp rv hj;rw[e1];exact(sH I r n A z d _ u hu (xW h hz) hd k (yG I r hd p q)).eq
noncomputable def inI (a b:D):Ak Aq:=match zT b with
 |some xs=>if xs.all (pl zW)&&pl zW a then Ab (xs.any λx=>eqD x a) else none
 |none=>none
noncomputable def gIn:G2:=λa b S=>match inI a b with
 |some k=>.ok (.bl k) S
 |none=>.bad
noncomputable def uZ:G2:=λa b S=>match inI a b with
 |some k=>.ok (.bl (!k)) S
 |none=>.bad
theorem YL {a b:D}{k:Aq}(h:inI a b=Ab k):∃ xs,ItV b xs/\xs.all (pl zW)=true/\pl zW a=true/\k=xs.any λx=>eqD x a:=by
 unfold inI at h;cases e:zT b with
 |none=>rw[e] at h;exact nn h
 |some xs =>
  rw[e] at h;obtain⟨c,rfl⟩:=j7 h;have c':=EQ.mp c;exact⟨xs,itV e,c'.1,c'.2,rfl⟩
theorem RS (hu:X.A.units+64<Fi)(I:Inv X pins σ H s)(r:Rel X.K H P α S){a b:D}{v u:V}{vv uu:Ac}{k:Aq}(rv:qL v vv)(ru:qL u uu)(pa:Rep X.K P α a v)(pb:Rep X.K P α b u)(h:inI a b=Ab k) :
  (∀ {Q:Ac->Ag->Prop} {E:Ac->Ag->Prop},Q (.bool k) s->Ao (As X.prog X.w) X.A (Cy .In vv uu) Q E s)/\∀ {Q:Ac->Ag->Prop} {E:Ac->Ag->Prop},Q (.bool (!k)) s->Ao (As X.prog X.w) X.A (Cy .NotIn vv uu) Q E s:=by
 obtain⟨xs,hb,h1,h2,rfl⟩:=YL h;have hu':X.A.in1.units+zW<Fi:=by show X.A.units+1+zW<Fi;unfold zW;lia
 have any:∀ {vs:Aa V} {its:Aa Ac},qE X.K P α xs vs->qK vs its->its.toArray.any (eOf X P α s xs a)=xs.any λx=>eqD x a:=λrp rvi=>by
  rw[<- Array.any_toList];have e:=congrArg (λl=>l.any id) (GC (d:=a) I r h1 rp rvi);rw[Sr,Sr] at e;exact e
 cases hb with
 |tup ed =>
  subst ed;obtain⟨l,ws,its,rfl,sq,t,rvi,ht,_,_⟩:=vZ I r pb;cases (show uu=Ce l from ru)
  have he:=QD I r hu' h1 h2 t rvi pa rv;exact⟨λq=>in_tupleAt (eOf X P α s xs a) ht he (by rw[any t rvi];exact q),λq=>notIn_tupleAt (eOf X P α s xs a) ht he (by rw[any t rvi];exact q)⟩
 |lst ed =>
  subst ed;obtain⟨l,ws,its,n,rfl,sq,t,rvi,ht,_,_⟩:=yZ I r pb;cases (show uu=Ce l from ru)
  have hL:s.heap.IsList l its.toArray:=⟨_,ht,rfl,n,rfl⟩;have he:=QD I r hu' h1 h2 t rvi pa rv;exact⟨λq=>in_listAt (eOf X P α s xs a) hL he (by rw[any t rvi];exact q),λq=>notIn_listAt (eOf X P α s xs a) hL he (by rw[any t rvi];exact q)⟩
theorem r8 (hu:X.A.units+64<Fi):OpD X (Cy .NotIn) uZ:=by
 intro pins σ H s P α S v u vv uu a b Q I r rv ru pa pb af;have af1:qJ X P α (match inI a b with|some k=>Res.ok (D.bl (!k)) S|none=>.bad) (OkV X P α Q):=af
 clear af;cases e:inI a b with
 |none=>rw[e] at af1;exact An af1
 |some k =>
  rw[e] at af1;exact(RS hu I r rv ru pa pb e).2 ⟨.bl _,H,I,rfl,xr af1 r (by simp only[Rep])⟩
end
end _D
namespace _D
open PySem PySem.Spec PyProof.Rows _L
section
variable {K:Aj}{H P:Hp}{α : Aa Af}{S:Sto}
theorem Rel.still {a:Af}{n:Ai}{m:MO}{o:HO}(r:Rel K H P α S)(ha:α[n]? = Ab a)(hs:S[n]? = Ab m)(hd:m≠.dead):Rel K (upd H a o) (upd P a o) α (S.set n .dead)/\qG P (upd P a o):=by
 have hP:=r.sep n a m ha hs hd;have sP:qG P (upd P a o):=gN hP;have r1:=r.put (o:=o) (m':=.dead) ha hs hd trivial;have hn:n<S.length:=(Bo.mp hs).1;refine⟨⟨r1.tb.keep (λ_ _ q _=>q) λb u q _ p n=>⟨(qI λ(z:b=a)=>n (by rw[z];exact Bp ha)).trans p,n⟩,λb u e=>?_,r1.len,r1.nd,λi b u q1 q2 q3=>?_,λi b u q1 q2=>(r1.at' i b u q1 q2).mono sP (Bn _),r1.own⟩,sP⟩
 .by_cases hb:b=a
  .subst hb;rw[qU] at e ⊢;exact e
  .rw[qI hb] at e ⊢;exact r.sub _ _ e
 .have hb:b≠a:=by
   rintro rfl;have:=lC r.nd q1 ha;subst this;rw[Ed hn] at q2;cases q2;exact q3 rfl
  rw[qI hb];exact r1.sep i b u q1 q2 q3
end
noncomputable def Itv (a:Af)(o:Co)(vs:Aa V):It:=
 ⟨λi H=>(∃ u,H a=Ab (.frz o u))/\i<vs.length,λi H x H'=>H'=H/\vs[i]? = Ab x,λi H=>(∃ u,H a=Ab (.frz o u))/\vs.length<=i⟩
theorem XX {P:Bd}{w:Bz}{K:Aj}{tg:Bw}{a it:Af}{o:Co}{vs:Aa (Key × V)}{us:Aa (Key × Ac)}{ep:Ai}(kv:KV vs us)(at':∀ h:Bq,h.get? a=Ab o->h.DictAt (zN P w) a us ep) :
  Turn P w K tg (Itv a o (vs.map (·.2))) [it] it (λi h=>h.IsValIter it a i us.length ep) where
 mem:=by simp
 obj:=λi h st b hb=>by
  have e:b=it:=by simpa using hb
  subst e;obtain⟨o,e,c,d⟩:=st;exact⟨o,e,λv z=>by rw[d] at z;cases z⟩
 keep:=λi h h' st k=>st.at λo e=>k it (by simp) o e
 item:=by
  intro X hP hw hK hc i pins s σ H E I hf st hg;subst hP hw hK;obtain⟨⟨u0,hu⟩,hlt⟩:=hg;have ho:s.heap.get? a=Ab o:=(I.hok a _ hu).1;have hlt':i<vs.length:=by simpa using hlt
  have get:∀ {vs:Aa (Key × V)} {us:Aa (Key × Ac)},KV vs us->∀ {i:Ai} (h:i<vs.length),∃ k u,us[i]? = Ab (k,u)/\qL (vs[i]).2 u:=by
   intro vs us kv
   induction kv with
   |nil=>intro i h;simp at h
   |cons z t ih =>
    intro i h;cases i with
    |zero=>exact⟨_,_,rfl,z.2⟩
    |succ i =>
     obtain⟨k,u,e1,e2⟩:=ih (i:=i) (by simpa using h)
     exact⟨k,u,by simpa using e1,by simpa using e2⟩
  obtain⟨k,u,e1,e2⟩:=get kv hlt';obtain⟨f0,f1,f2,f3,f4,f5⟩:=hf it (by simp)
  refine wpAny_pyNext_values_item st (at' _ ho) e1 λh' st' sb=>?_;have I1:Inv X pins σ H { s with heap:=h' }:=I.turned (t':=s.toks) (λb o hb e=>(sb.2 b hb).trans e) f0 f1 f3 f4 f5
  obtain⟨oi,ei,c,d⟩:=id st';exact⟨u,rfl,d0 (s:={ s with heap:=h' }) ei c d (by decide) ⟨(vs[i]).2,H,I1,e2,⟨rfl,by simp[hlt']⟩,st',λb hb=>(hf b hb).1⟩⟩
 done:=by
  intro X hP hw hK hc i pins s σ H E I hf st hg;subst hP hw hK;obtain⟨⟨u0,hu⟩,hle⟩:=hg;have ho:s.heap.get? a=Ab o:=(I.hok a _ hu).1;obtain⟨f0,f1,f2,f3,f4,f5⟩:=hf it (by simp)
  have hl:=kv.length;have hle':us.length<=i:=by rw[<- hl];simpa using hle
  exact wpAny_pyNext_values_end (I.ok.hd hc) st (at' _ ho) (by simp;omega) λh' eb=>⟨rfl,I.turned (t':=s.toks) (λb o hb e=>eb b o hb e) f0 f1 f3 f4 f5⟩
 self:=λ_ _ _ _ _ st h=>wpAny_pyIter_valiter st h
noncomputable def fN (f:DE):DI:=λenv S=>(f env S).bind λd S1=>match d with
 |.loc n=>match S1[n]? with
  |some (.dct kvs)=>.ok (kvs.map (·.2)) (S1.set n .dead)
  |_=>.bad
 |_=>.bad
theorem cM {K:Aj}{P:Hp}{α:Aa Af}:∀ {kvs:Aa (Key × D)} {vs:Aa (Key × V)},KVs K P α kvs vs->qE K P α (kvs.map (·.2)) (vs.map (·.2))
 |_,_,.nil=>.nil
 |_,_,.cons z t=>.cons z.2 (cM t)
theorem YT {K:Aj}{P:Hp}{α:Aa Af}{a:Af}{o:Co}{u:HO}{ds:Aa D}{vs:Aa V}(q:P a=Ab (.frz o u))(t:qE K P α ds vs):ItD K (Itv a o vs) P α ds where
 go:=λi H P1 α1 S hi r e _=>⟨⟨u,r.sub _ _ (e _ _ q)⟩,by rw[<- t.length];exact hi⟩
 yld:=λi H x H' P1 α1 S hi r e e2 y=>by
  obtain⟨rfl,hx⟩:=y;obtain⟨v,h1,h2⟩:=t.get (Ar hi);rw[hx] at h1;cases h1;exact⟨P1,_,Ar hi,r,qG.refl _,Rep.mono e e2 _ _ h2⟩
 stop:=λi H P1 α1 S hi r e _=>⟨⟨u,r.sub _ _ (e _ _ q)⟩,by rw[<- t.length];exact hi⟩
section
variable {X:Cx}{tg o:Bw}{fo:DE}{apos cpos:Fl}
theorem W0 {S:Sto}{n:Ai}{kvs:Aa (Key × D)}(h:S[n]? = Ab (.dct kvs)):tyD (.loc n) S=Ab "dict":=by
 show (match S[n]? with|some (.lst _)=>Ab "list" | some (.dct _)=>Ab "dict" | _=>none)=_
 rw[h]
set_option tactic.hygienic true in
theorem KW (ho:PE X o (tD X fo))(hbase:Rb o "values" X.env (eval o X.env)=eval o X.env:=by rfl)(hline:(apos.endLine == cpos.line)=true:=by rfl):PI X tg (.Call (.Attribute o "values" apos) [] [] cpos) (tDI X (fN fo)):=by
 intro pins s σ H R I h;obtain⟨P,α,env,S,r,re,af⟩:=h;refine wpAny_Call_method0_late hbase hline (thn (zR ho I r re af) λvv s1 ⟨v,H1,P1,α1,d,S1,G1,af1⟩=>?_);cases d with
 |loc n =>
  simp only at af1
  split at af1
  .rename_i kvs hS
   have rp:=G1.rep;have I1:=G1.inv;have r1:=G1.rel;have ht:tyD (.loc n) S1=Ab "dict":=W0 hS;obtain⟨h1,h2⟩:=XY I1 G1.val (XZ r1 rp ht (by simp))
   simp only[Rep] at rp;obtain⟨a,rfl,ha⟩:=rp;cases (show vv=Ce a from G1.val)
   obtain⟨vs,z,t⟩:=r1.at' n a _ ha hS;obtain⟨hz,hd,us,rel,dd⟩:=iL I1.hok z;refine⟨"dict","dict.values",Nj,Rt,PySem.F.type_dict_values,h1,h2,To rfl (PySem.evalArgs_none ?_)⟩;refine call_meetsIn Rt dd.typeIs PySem.F.entry_dict_values (PySem.F.args_dict_values_1 _) (meets_dict_values (zN X.prog X.w) a hd) ⟨⟨us,dd⟩,?_⟩;obtain⟨ep,oa,es,hoa,rest⟩:=dd.dictAt;have at':∀ h:Bq,h.get? a=Ab oa->h.DictAt (zN X.prog X.w) a us ep:=λh e=>⟨oa,es,e,rest⟩;have hne:s1.heap.objs.size≠a:=Gi (Ay hoa);obtain⟨r2,e2⟩:=r1.still (o:=.frz oa (.dK vs)) ha hS (by intro q;cases q)
   have I2:Inv X pins σ (upd H1 a (.frz oa (.dK vs))) { s1 with heap:=s1.heap,toks:=s1.toks }:=I1.write (x:=a) (e:=a) (by rw[z];exact He) (.inl rfl) (λb q hb e=>e) ⟨oa,hoa⟩ ⟨hoa,hz,hd,us,rel,dd⟩
   have I3:=I2.kept (t':=s1.toks) (h':=s1.heap.push { cls:=.type "dict_values",data:=.fields #[.ref a] }) λb u e=>Ah _ e;refine wpAny_pyIter_values (s:={ s1 with heap:=s1.heap.push { cls:=.type "dict_values",data:=.fields #[.ref a] } }) (knd:=zN X.prog X.w) (d:=a) (kvs:=us) (ep:=ep) ⟨_,Ba _ rfl,rfl,rfl⟩ (at' _ (Ah _ hoa)) ?_
   have I4:=I3.kept (t':=s1.toks) (h':=(s1.heap.push { cls:=.type "dict_values",data:=.fields #[.ref a] }).push { cls:=.type "dict_valueiterator",data:=.fields #[.ref a,.int 0 0,.int us.length 0,.int ep 0] }) λb u e=>Ah _ e;refine⟨_,[_],_,_,_,rfl,I4,XX rel at',⟨_,Ba _ rfl,rfl,rfl⟩,λb hb=>?_,af1 _ _ _ α1 r2 (G1.same.trans e2) G1.pre (YT (u:=.dK vs) qU (qE.mono e2 (Bn _) _ _ (cM t)))⟩;have e:b=(s1.heap.push { cls:=.type "dict_values",data:=.fields #[.ref a] }).objs.size:=by simpa using hb
   subst e;exact I3.fpOk (Au _) (I3.hok.fresh (Au _))
  .exact An af1
 |_=>exact An af1
end
section
variable {X:Cx}
def pT:G2:=λa b S=>match a,b with
 |.lst xs,.int k=>if 0<=k/\k<2 ^ 62/\xs.length*k.toNat<=lim then .ok (.lst (Dg k.toNat xs).flatten) S else .bad
 |_,_=>xR a b S
theorem rM {K:Aj}{P:Hp}{α:Aa Af}{ds:Aa D}{vs:Aa V}(r:qE K P α ds vs):∀ k:Ai,qE K P α (Dg k ds).flatten (Dg k vs).flatten
 |0=>by simpa using qE.nil
 |k+1=>by
  rw[Go,Go,Ih,Ih];exact r.append (rM r k)
inductive MulV (a b:D)(S:Sto):Prop
 |old (e:pT a b S=xR a b S)
 |of (xs:Aa D) (k:Al) (ea:a=.lst xs) (eb:b=.int k)
theorem CY (a b:D)(S:Sto):MulV a b S:=by
 cases a with
 |lst xs=>cases b with
  |int k=>exact .of xs k rfl rfl
  |_=>exact .old rfl
 |_=>exact .old rfl
theorem B7:OpD X (Fa .Mult) pT:=by
 intro pins σ H s P α S v u vv uu a b Q I r rv ru pa pb af;cases CY a b S with
 |old e =>
  rw[e] at af;exact cT pins σ H s P α S v u vv uu a b Q I r rv ru pa pb af
 |of xs k ea eb =>
  subst ea eb;obtain⟨hk,af⟩:=xK (X:=X) af;obtain⟨h1,h2,hz⟩:=hk;obtain⟨l,vs,its,n,rfl,q1,t1,rv1,e,l1,_⟩:=yZ I r pa;cases (show vv=Ce l from rv)
  have:=xB pb;subst this;obtain⟨t,rfl⟩:=ru;have hl:its.length=vs.length:=rv1.length.symm;have hlen:its.toArray.size*k.toNat<=sizeLine:=by rw[Bf,<- l1,<- zQ];exact hz
  have hcap:¬ its.toArray.size*k.toNat>(2 ^ 63-1)/8:=by
   have:(sizeLine:Ai)<=(2 ^ 63-1)/8:=by decide
   omega
  have hfit:¬ (!Builtin.List.listFitsIndex k)=true:=by
   rw[fitsIndex_both om om];exact Gy
  have hlong:¬ Mx (its.toArray.size*k.toNat)=true:=by
   rw[VA hlen];exact Gy
  have hnew:Zz (λx1 x2=>x1++x2) #[] (Dg (if its.toArray.isEmpty=true then 0 else k.toNat) its.toArray)=(Dg k.toNat its).flatten.toArray:=by
   have f0:∀ m:Ai,Zz (λx1 x2=>x1++x2) #[] (Dg m its.toArray)=(Dg m its).flatten.toArray:=λm=>by
    have:=l5 its m [];rw[Gw] at this;exact this
   rw[f0];cases its with
   |nil=>simp
   |cons a r'=>rw[Bm (by simp)]
  refine wpAny_binaryOp_repeat_ref (T:="list") (U:="int") (by decide) ⟨_,e,rfl⟩ (λs'=>Zy s' k t) noFill_list_mul F.fills_int_mul Zo repeat_list F.slot_int_index.lookup
   (Pg Zo (Zy s k t) F.entry_int_rmul (F.args_int_rmul_2 _ _) (int___rmul___int_list k t l its.toArray n)
    ⟨e,rfl,⟨_,e,rfl⟩,Pg F.slot_list_mul ⟨_,e,rfl⟩ F.entry_list_mul (F.args_list_mul_2 _ _) (AutoListH.list___mul___list_int_3 l its.toArray n k t hfit hcap hlong) ⟨e,?_⟩⟩)
  rw[hnew];exact sX I r (rM t1 k.toNat) (rv1.rep k.toNat) (by rw[PF,Nat.mul_comm];exact hz) af
noncomputable def iK (ns:Aa Al):Ai:=(ns.foldl dL []).length
theorem gY (ns:Aa Al):firstMet (λi=>ns.getD i 0) ns.length=ns.foldl dL []:=by
 unfold firstMet
 congr 1
 apply Rf;intro i;rw[Dp];by_cases h:i<ns.length
 .simp[h]
 .simp[h]
theorem dR:Fc "set" = Ab (.type "set"):=by decide +kernel
variable {e:Bw}{fa:DE}{p1 p2 pos1 pos2:Fl}
end
structure QI2 (X:Cx)(tg it:Bw)(f:DI2):Prop where
 get:PI X tg it (tDI2 X f)
structure QK (Y:Cx)(step:Ac->Ky Qv)(k:DK):Prop where
 get:PK Y step k
section
variable {X Y:Cx}{tg it e o elt iter ie:Bw}{es ifs rest:Aa Bw}{fa fo fe fi:DE}{fA:DA}{fI:DI}{f2:DI2}{g:DG}{t:DT}{kk:DK}{p pos:Fl}{n k:Ai}{x:Ap}{cm:Aq}{F:DF}{f:DS}{gens grest:Aa Ew}{scope:Eu}{N':Aa Ap}{cap:Aa (Ak Ai)}{mm:Aq}
theorem XC (h:QI X tg it fI):QI2 X tg it (yH fI):=⟨KU h.1⟩
theorem DR (h:QE X e fa):QI2 X tg e (dIt fa):=⟨RE h.1⟩
theorem BV {e1:Bw}{elts:Aa Bw}{x1:Ai}{tpos:Fl}(hg:Gl X "enumerate")(hm:X.mg "enumerate" = none)(ha:QA X [e1] fA)(hs:Be [e1] X.env=(false,eval e1 X.env)::Be [] X.env:=by rfl)(hpl:(Gc pos (Be [] X.env)).any (·.1)=false:=by rfl) :
  QI X (.Tuple elts x1 tpos) (.Call (.Name "enumerate" p) [e1] [] pos) (lV fA):=⟨KS hg hm ha.1 hs hpl⟩
theorem BW {apos:Fl}(ho:QE X o fo)(hbase:Rb o "values" X.env (eval o X.env)=eval o X.env:=by rfl)(hline:(apos.endLine == pos.line)=true:=by rfl):QI X tg (.Call (.Attribute o "values" apos) [] [] pos) (fN fo):=⟨KW ho.1 hbase hline⟩
theorem cY (hx:Y.xe=λ_ _=>Fh)(hlast:gens[k+1]? = none)(he:QE Y elt fe):QK Y (λacc=>zS elt gens scope pos k acc Y.env) (zM fe):=⟨BH hx hlast he.1⟩
theorem ER (hc:Y.calm=true)(hx:Y.xe=λ_ _=>Fh)(hgk:gens[k+1]? = Ab ⟨tg,iter,ifs,0⟩)(has:∀ g',gens[k+1+1]? = Ab g'->g'.is_async=0)(hi:QI2 Y tg iter f2)(hg:QG Y tg g)(ht:QTs Y ifs t)(he:QK Y (λacc=>zS elt gens scope pos (k+1) acc Y.env) kk)(hs:∀ x,Ey iter Y.env x=pure x) :
  QK Y (λacc=>zS elt gens scope pos k acc Y.env) (kIn f2 g t kk):=⟨EI hc hx hgk has hi.1 hg.1 ht.1 he.1 hs⟩
theorem VN (hc:X.calm=true)(S:CompSc X.env.scope X.N scope N' cap)(hi:QI2 X tg iter f2)(hg:∀ cl C ex s₀ H₀,QG (qY X N' scope cl C ex s₀ H₀) tg g)(ht:∀ cl C ex s₀ H₀,QTs (qY X N' scope cl C ex s₀ H₀) ifs t)
  (has:∀ g',(⟨tg,iter,ifs,0⟩::grest:Aa Ew)[0+1]? = Ab g'->g'.is_async=0)
  (he:∀ cl C ex s₀ H₀,QK (qY X N' scope cl C ex s₀ H₀) (λacc=>zS elt (⟨tg,iter,ifs,0⟩::grest) scope pos 0 acc (qY X N' scope cl C ex s₀ H₀).env) kk) (hs:∀ x,Ey iter X.env x=pure x) :
  QE X (.ListComp elt (⟨tg,iter,ifs,0⟩::grest) scope pos) (zJ mm cap f2 g t kk):=
 ⟨WU hc S hi.1 (λcl C ex s H=>(hg cl C ex s H).1) (λcl C ex s H=>(ht cl C ex s H).1) has (λcl C ex s H=>(he cl C ex s H).1) hs⟩
theorem VQ {m:Ai}{y:Ap}{py spos:Fl}(hc:X.calm=true)(hN:X.N.Nodup)(S:CompSc X.env.scope X.N scope N' cap)(hi:QI2 X tg iter f2)(hg:∀ cl C ex s₀ H₀,QG (qY X N' scope cl C ex s₀ H₀) tg g)(ht:∀ cl C ex s₀ H₀,QTs (qY X N' scope cl C ex s₀ H₀) ifs t)
  (has:∀ g',(⟨tg,iter,ifs,0⟩::grest:Aa Ew)[0+1]? = Ab g'->g'.is_async=0)
  (he:∀ cl C ex s₀ H₀,QK (qY X N' scope cl C ex s₀ H₀) (λacc=>zS elt (⟨tg,iter,ifs,0⟩::grest) scope pos 0 acc (qY X N' scope cl C ex s₀ H₀).env) kk) (hy:X.N[m]? = Ab y) (hyl:Loc X.env.scope y) (hf:X.fn y=true\/X.env.scope.names.lookup y=Ab .local)
  (hsw:Nt (.ListComp elt (⟨tg,iter,ifs,0⟩::grest) scope pos) (Ab (.Name y py)) spos.line X.env=pure true) (hs:∀ x,Ey iter X.env x=pure x):QS X (.Assign [.Name y py] (.ListComp elt (⟨tg,iter,ifs,0⟩::grest) scope pos) spos) (zD (zJ mm cap f2 g t kk) (gNm m)):=
 ⟨Y1 hc hN S hi.1 (λcl C ex s H=>(hg cl C ex s H).1) (λcl C ex s H=>(ht cl C ex s H).1) has (λcl C ex s H=>(he cl C ex s H).1) hy hyl hf hsw hs⟩
theorem UH:ZMt X "dict.setdefault" wK:=⟨ZI⟩
theorem HK (hr:RoomC cm k X.A):ZOp X (Cy .Lt) bX:=⟨L9 (by have:=hu1 hr;omega)⟩
theorem SX:ZOp X (Fa .Mult) pT:=⟨B7⟩
end
noncomputable def kA (H:Hp):Aa (Af × HO)->Hp
 |[]=>H
 |p::ps=>kA (upd H p.1 p.2) ps
theorem nK {b:Af}:∀ {L:Aa (Af × HO)} {H:Hp},b ∉ L.map (·.1)->kA H L b=H b
 |[],_,_=>rfl
 |p::ps,H,h=>by
  simp only[Dv,Aw,Wk] at h;show kA (upd H p.1 p.2) ps b=H b;rw[nK h.2,qI h.1]
theorem rW {b:Af}{u:HO}:∀ {L:Aa (Af × HO)} {H:Hp},kA H L b=Ab u->(b,u)∈L\/H b=Ab u
 |[],_,h=>.inr h
 |p::ps,H,h=>by
  rcases rW (L:=ps) (H:=upd H p.1 p.2) h with h|h
  .exact .inl (Cd _ h)
  .by_cases hb:b=p.1
   .subst hb
    rw[qU] at h;cases h;exact .inl (Dj ..)
   .rw[qI hb] at h
    exact .inr h
section
variable {X:Cx}{pins:Aa (Af × Co)}{σ : _L.St}{H:Hp}{s:Ag}
theorem Inv.laidL {L:Aa (Af × HO)}{h':Bq}{t':Ai}(I:Inv X pins σ H s)(k:∀ b u,s.heap.get? b=Ab u->h'.get? b=Ab u)(hp:∀ p∈L,s.heap.objs.size<=p.1)(new:∀ p∈L,z9 X.prog X.w (kA H L) h' p.1 p.2) :
  Inv X pins σ (kA H L) { s with heap:=h',toks:=t' }:=by
 have old:∀ b u,H b=Ab u->kA H L b=Ab u:=λb u e=>by
  rw[nK (L:=L)]
  .exact e
  .intro hb
   obtain⟨p,hp',rfl⟩:=Dc.mp hb;rw[I.hok.fresh (hp p hp')] at e;cases e
 have low:∀ b,b<s.heap.objs.size->kA H L b=H b:=λb hb=>nK λhm=>by
  obtain⟨p,hp',rfl⟩:=Dc.mp hm;exact absurd (Bb hb (hp p hp')) (Et _)
 refine I.un ⟨λb u q _ _ _=>k b u q,λb u q _ _ _=>⟨u.slots,k b u q⟩,λb u q n _=>by rw[low b (Ay q)];exact n,λb u q _=>⟨u,k b u q⟩,λb xs q=>old b _ q,λb o xs q=>old b _ q,λb ps q=>⟨#[],by rw[old b _ q];simp⟩⟩ λb u e=>?_
 rcases rW e with hm|hb
 .exact new (b,u) hm
 .exact(I.hok b u hb).stay (λc v _ q=>k c v q) (λc q=>old c _ q) λc xs q=>old c _ q
end
section
variable {X:Cx}{cm:Aq}{k:Ai}
theorem SW (hc:X.calm=true):ZCall X (.builtin "max") lZ:=⟨K6 hc⟩
theorem FS (hr:RoomC cm k X.A):ZOp X (Cy .NotIn) uZ:=⟨r8 hr.units⟩
end
end _D
namespace _S
open PySem
variable {mask:Ai}{xs:Ax Ai}
def Rs (xs:Ax Ai):Prop:=xs.toList.Pairwise (· < ·)
theorem Rs.lt (h:Rs xs){a b:Ai}{x y:Ai}(hab:a<b)(ha:xs[a]? = Ab x)(hb:xs[b]? = Ab y):x<y:=by
 obtain⟨h1,e1⟩:=Dy.mp ha;obtain⟨h2,e2⟩:=Dy.mp hb;have:=Js.mp h a b (by simpa using h1) (by simpa using h2) hab
 rw[<- e1,<- e2];simpa using this
theorem getD_some {i x d:Ai}(h:xs[i]? = Ab x):xs.getD i d=x:=by
 obtain⟨h1,e1⟩:=Dy.mp h;simp[Gr,h1,e1]
structure Bel (xs:Ax Ai)(j p:Ai):Prop where
 le:p<=xs.size
 lo:∀ i x,i<p->xs[i]? = Ab x->x<j
 hi:∀ i x,p<=i->xs[i]? = Ab x->j<=x
set_option tactic.hygienic true in
theorem bO (h:Rs xs)(j:Ai):∀ (fuel lo hi:Ai),hi-lo<=fuel->lo<=hi->hi<=xs.size ->
  (∀ i x,i<lo->xs[i]? = Ab x->x<j)->(∀ i x,hi<=i->xs[i]? = Ab x->j<=x)->Bel xs j (Yb xs j fuel lo hi)
 |0,lo,hi,h1,h2,h3,h4,h5=>by
  have:lo=hi:=by lia
  subst this;exact⟨h3,h4,h5⟩
 |fuel+1,lo,hi,h1,h2,h3,h4,h5=>by
  unfold Yb;by_cases hlt:lo<hi
  .rw[Bl hlt]
   have hm:(lo+hi)/2<xs.size:=by lia
   have e:xs[(lo+hi)/2]? = Ab xs[(lo+hi)/2]:=Eb hm;simp only[getD_some e]
   split
   .rename_i hc
    refine bO h j fuel _ hi (by lia) (by lia) h3 (λi x hi' ex=>?_) h5
    by_cases q:i=(lo+hi)/2
    .subst q;rw[e] at ex;cases ex;exact hc
    .exact Im (h.lt (by lia) ex e) hc
   .rename_i hc
    refine bO h j fuel lo _ (by lia) (by lia) (by lia) h4 (λi x hi' ex=>?_)
    by_cases q:i=(lo+hi)/2
    .subst q;rw[e] at ex;cases ex;lia
    .have:=h.lt (show (lo+hi)/2<i by lia) e ex
     lia
  .rw[Bm hlt]
   have:lo=hi:=by lia
   subst this;exact⟨h3,h4,h5⟩
theorem uQ (h:Rs xs)(j:Ai):Bel xs j (Cf xs j):=
 bO h j _ _ _ (by lia) (by lia) (Au _) (λi x hi=>by lia) λi x hi ex=>by
  have:=(Dy.mp ex).1
  lia
theorem bN (h:Rs xs){i j:Ai}(e:xs[i]? = Ab j):Cf xs j=i:=by
 have b:=uQ h j;have hi:=(Dy.mp e).1;by_cases h1:Cf xs j<i
 .have e2:xs[Cf xs j]? = Ab xs[Cf xs j]:=Eb (by lia)
  have:=h.lt h1 e2 e;have:=b.hi _ _ (Au _) e2
  lia
 .by_cases h2:i<Cf xs j
  .have:=b.lo _ _ h2 e
   lia
  .lia
theorem iC (h:Rs xs){i j:Ai}(e:xs[i]? = Ab j):Cf xs (j+1)=i+1:=by
 have b:=uQ h (j+1);have hi:=(Dy.mp e).1;have h1:i<Cf xs (j+1):=by
  apply Fz;intro q;have:=b.hi _ _ (by lia) e
  lia
 by_cases h2:i+1<Cf xs (j+1)
 .have hz:i+1<xs.size:=by have:=b.le;lia
  have e2:xs[i+1]? = Ab xs[i+1]:=Eb hz;have:=b.lo _ _ h2 e2;have:=h.lt (Ke i) e e2
  lia
 .lia
theorem iD (h:Rs xs):Cf xs 0=0:=by
 have b:=uQ h 0;apply Fz;intro q;have hz:0<xs.size:=by have:=b.le;lia
 have e2:xs[0]? = Ab xs[0]:=Eb hz;have:=b.lo _ _ (by lia) e2
 lia
structure Tb (t:Ga):Prop where
 rs:Rs t.place
 dm:t.dummies=#[]
theorem c9 (j:Ai):Xh #[] j=false:=by simp[Xh]
theorem lH {t:Ga}(T:Tb t){i j:Ai}(e:t.place[i]? = Ab j):t.slot j=.live i:=by
 unfold Aa6;simp only[bN T.rs e,e];simp
theorem oF {t:Ga}(T:Tb t)(j:Ai):(∃ i,t.slot j=.live i/\t.place[i]? = Ab j)\/(t.slot j=.empty/\j ∉ t.place.toList):=by
 by_cases h:j∈t.place.toList
 .obtain⟨i,hi,e⟩:=Cu.mp h
  have e':t.place[i]? = Ab j:=by rw[<- Bk,Ar hi,e]
  exact .inl ⟨i,lH T e',e'⟩
 .refine .inr ⟨?_,h⟩
  unfold Aa6;simp only[T.dm,c9];rw[Bm,Bm (by simp)]
  intro q;apply h;have:t.place[Cf t.place j]? = Ab j:=by simpa using q
  obtain⟨h1,e1⟩:=Dy.mp this;rw[<- e1];simp
theorem XR (h:Rs xs){j:Ai}(hj:j ∉ xs.toList):Rs (Ca xs (Cf xs j) j):=by
 have b:=uQ h j;unfold Rs;rw[Ru];have key:∀ (i:Ai) (x:Ai),xs.toList[i]? = Ab x->(i<Cf xs j->x<j)/\(Cf xs j<=i->j<x):=λi x e=>by
  have e':xs[i]? = Ab x:=by rw[<- Bk];exact e
  refine⟨λq=>b.lo _ _ q e',λq=>?_⟩;have h1:=b.hi _ _ q e';have:x≠j:=by
   rintro rfl;exact hj (Bp e)
  lia
 have tk:∀ x∈xs.toList.take (Cf xs j),x<j:=λx hx=>by
  obtain⟨i,hi,e⟩:=Cu.mp hx;rw[El] at hi;rw[Rg] at e;exact(key i x (by rw[Ar (by lia),e])).1 (by lia)
 have dr:∀ x∈xs.toList.drop (Cf xs j),j<x:=λx hx=>by
  obtain⟨i,hi,e⟩:=Cu.mp hx;rw[Hw] at hi;rw[Rh] at e;exact(key (Cf xs j+i) x (by rw[Ar (by lia),e])).2 (by lia)
 rw[Dt,Cz];refine⟨List.Pairwise.take h,⟨dr,List.Pairwise.drop h⟩,λx hx y hy=>?_⟩;rcases Aw.mp hy with rfl|hy
 .exact tk x hx
 .exact Im (tk x hx) (dr y hy)
theorem fS {α:Type}(xs:Ax α){p:Ai}(hp:p<=xs.size)(x:α)(i:Ai):(Ca xs p x)[i]? = if i<p then xs[i]? else if i=p then Ab x else xs[i-1]?:=by
 rw[<- Bk,Ru];have hl:(xs.toList.take p).length=p:=by simp;lia
 by_cases h1:i<p
 .rw[Bl h1,Bi (by lia),Mv h1,Bk]
 .rw[Bm h1,Cs (by lia),hl]
  by_cases h2:i=p
  .subst h2;simp
  .rw[Bm h2]
   obtain⟨k,hk⟩:∃ k,i-p=k+1:=⟨i-p-1,by lia⟩
   rw[hk,Sw,Wv,Bk]
   congr 1;lia
theorem vV {α:Type}(xs:Ax α)(p:Ai)(x:α):(Ca xs p x).size=xs.size+1:=by
 have:=(Ix xs p x).length_eq;simpa using this
theorem D7 {t:Ga}(T:Tb t){j:Ai}(hj:j ∉ t.place.toList):Tb (t.put j).1:=by
 refine⟨XR T.rs hj,?_⟩;show (if Xh t.dummies j then _ else t.dummies)=#[]
 rw[T.dm,c9];rfl
open PySem.SetTable (Probe leap runEnd turns bits)
noncomputable def adv (mask:Ai)(p:Nv):Nv:=if p.more>0 then { p with j:=p.j+1,more:=p.more-1 } else { p with j:=(leap mask p.i p.perturb).1,more:=Hr mask (leap mask p.i p.perturb).1-(leap mask p.i p.perturb).1,i:=(leap mask p.i p.perturb).1,perturb:=(leap mask p.i p.perturb).2 }
theorem M6 (t:Ga)(p:Nv):t.advance p=adv t.mask p:=rfl
noncomputable def it (mask:Ai):Ai->Nv->Nv
 |0,p=>p
 |n+1,p=>it mask n (adv mask p)
theorem pU (mask:Ai):∀ (n:Ai) (p:Nv),it mask (n+1) p=adv mask (it mask n p)
 |0,p=>rfl
 |n+1,p=>pU mask n (adv mask p)
theorem fV (mask:Ai):∀ (m n:Ai) (p:Nv),it mask (m+n) p=it mask n (it mask m p)
 |0,n,p=>by rw[Hj];rfl
 |m+1,n,p=>by rw[Qg];exact fV mask m n (adv mask p)
noncomputable def rs (mask i pert:Ai):Nv:={ j:=i,more:=Hr mask i-i,i,perturb:=pert,dummy:=none }
noncomputable def st (mask:Ai)(h:Al):Nv:=rs mask (bits h % (mask+1)) (bits h)
theorem H9 (t:Ga)(h:Al):t.probeStart h=st t.mask h:=rfl
theorem pE (mask i pert:Ai):∀ k,k<=Hr mask i-i->it mask k (rs mask i pert)={ j:=i+k,more:=Hr mask i-i-k,i,perturb:=pert,dummy:=none }
 |0,_=>rfl
 |k+1,hk=>by
  rw[pU,pE mask i pert k (by lia)]
  unfold adv;rw[Bl (by show Hr mask i-i-k>0;lia)]
  simp only[Probe.mk.injEq,and_true,true_and]
  lia
theorem cH (mask i pert:Ai):it mask (Hr mask i-i+1) (rs mask i pert)=rs mask (leap mask i pert).1 (leap mask i pert).2:=by
 rw[pU,pE mask i pert _ (Au _)];unfold adv;rw[Bm (by show ¬ (Hr mask i-i-(Hr mask i-i)>0);lia)]
 rfl
theorem SC (mask i:Ai):Hr mask i-i+1<=10:=by
 unfold Hr
 split <;> lia
noncomputable def lp (mask:Ai):Ai->Ai × Ai->Ai × Ai
 |0,q=>q
 |n+1,q=>lp mask n (leap mask q.1 q.2)
theorem ZE (mask:Ai):∀ (m n:Ai) (q:Ai × Ai),lp mask (m+n) q=lp mask n (lp mask m q)
 |0,n,p=>by rw[Hj];rfl
 |m+1,n,p=>by rw[Qg];exact ZE mask m n _
theorem J0 (mask:Ai):∀ (n i pert:Ai),∃ k,k<=10*n/\it mask k (rs mask i pert)=rs mask (lp mask n (i,pert)).1 (lp mask n (i,pert)).2
 |0,i,pert=>⟨0,by lia,rfl⟩
 |n+1,i,pert=>by
  obtain⟨k,hk,e⟩:=J0 mask n (leap mask i pert).1 (leap mask i pert).2;refine⟨(Hr mask i-i+1)+k,by have:=SC mask i;lia,?_⟩
  rw[fV,cH,e];rfl
theorem cQ (mask:Ai):∀ (n i pert:Ai),(lp mask n (i,pert)).2=pert/32 ^ n
 |0,i,pert=>by simp[lp]
 |n+1,i,pert=>by
  show (lp mask n ((leap mask i pert).1,pert/32)).2=_;rw[cQ mask n _ (pert/32),Nat.div_div_eq_div_mul,<- Nat.pow_succ']
theorem tM (mask i pert:Ai):(leap mask i pert).1<=mask:=Lc (Pk _ (Pd _))
theorem J8 (mask:Ai):∀ (n i pert:Ai),i<=mask->(lp mask n (i,pert)).1<=mask
 |0,i,pert,h=>h
 |n+1,i,pert,h=>J8 mask n _ _ (tM mask i pert)
theorem eX (h:Al):bits h<2 ^ 64:=by
 unfold bits;have h1:(0:Al)<=h % 2 ^ 64:=Kt _ (by decide)
 have h2:h % 2 ^ 64<(2 ^ 64:Al):=Jd _ (by decide)
 lia
noncomputable def cyc (mask:Ai):Ai->Ai->Ai
 |0,i=>i
 |n+1,i=>cyc mask n ((i*5+1) % (mask+1))
theorem pP (mask:Ai):∀ (m n i:Ai),cyc mask (m+n) i=cyc mask n (cyc mask m i)
 |0,n,p=>by rw[Hj];rfl
 |m+1,n,p=>by rw[Qg];exact pP mask m n _
theorem ZG (mask:Ai):∀ (n i:Ai),(lp mask n (i,0)).1=cyc mask n i
 |0,i=>rfl
 |n+1,i=>by
  show (lp mask n (leap mask i 0)).1=_;have:leap mask i 0=((i*5+1) % (mask+1),0):=by simp[leap]
  rw[this,ZG mask n];rfl
def Msk (mask:Ai):Prop:=mask=7\/mask=31\/mask=127\/mask=511\/mask=2047
noncomputable def orb (mask:Ai):Ai->Ai->Ai->Ai
 |0,_,acc=>acc
 |n+1,i,acc=>orb mask n ((i*5+1) % (mask+1)) (acc ||| 1 <<< i)
noncomputable def Q4 (mask:Ai):Aq:=orb mask (mask+1) 0 0 == 2 ^ (mask+1)-1&&cyc mask (mask+1) 0 == 0
theorem Q5 (h:Msk mask):Q4 mask=true:=by
 rcases h with rfl|rfl|rfl|rfl|rfl <;> decide +kernel
theorem cU (mask e:Ai):∀ (n i acc:Ai),(orb mask n i acc).testBit e=true->acc.testBit e=true\/∃ m,m<n/\cyc mask m i=e
 |0,i,acc,h=>.inl h
 |n+1,i,acc,h=>by
  rcases cU mask e n _ _ h with q|⟨m,hm,q⟩
  .rw[Nat.testBit_or,OV] at q
   rcases q with q|q
   .exact .inl q
   .rw[Nat.one_shiftLeft,Nat.testBit_two_pow,Bv] at q
    exact .inr ⟨0,by lia,q⟩
  .exact .inr ⟨m+1,by lia,q⟩
theorem WO (h:Msk mask){i e:Ai}(hi:i<=mask)(he:e<=mask):∃ n,n<=mask/\cyc mask n i=e:=by
 have a:=Q5 h;unfold Q4 at a;rw[Az] at a;obtain⟨a1,a2⟩:=a;have a1:orb mask (mask+1) 0 0=2 ^ (mask+1)-1:=by simpa using a1
 have g:∀ e,e<=mask->∃ n,n<=mask/\cyc mask n 0=e:=λe he=>by
  have q:(orb mask (mask+1) 0 0).testBit e=true:=by rw[a1,Nat.testBit_two_pow_sub_one];simp;lia
  rcases cU mask e _ _ _ q with q|⟨n,hn,q⟩
  .simp at q
  .exact⟨n,by lia,q⟩
 have a3:cyc mask (mask+1) 0=0:=by simpa using a2
 obtain⟨m,hm,em⟩:=g i hi;obtain⟨n,hn,en⟩:=g e he;by_cases q:m<=n
 .refine⟨n-m,by lia,?_⟩
  rw[<- em,<- pP,show m+(n-m)=n by lia]
  exact en
 .refine⟨n+(mask+1)-m,by lia,?_⟩
  rw[<- em,<- pP,show m+(n+(mask+1)-m)=(mask+1)+n by lia,pP,a3]
  exact en
theorem sY (h:Msk mask){i pert e:Ai}(hi:i<=mask)(hp:pert<2 ^ 64)(he:e<=mask):∃ n,n<=mask+13/\(lp mask n (i,pert)).1=e:=by
 have h0:(lp mask 13 (i,pert)).2=0:=by
  rw[cQ];apply Nat.div_eq_of_lt;exact Im hp (by decide)
 obtain⟨n,hn,q⟩:=WO h (J8 mask 13 i pert hi) he;refine⟨13+n,by lia,?_⟩
 rw[ZE];have:lp mask 13 (i,pert)=((lp mask 13 (i,pert)).1,0):=by rw[<- h0]
 rw[this,ZG];exact q
theorem sU (h:Msk mask)(hs:Al){e:Ai}(he:e<=mask):∃ n,n<10*turns mask/\(it mask n (st mask hs)).j=e:=by
 obtain⟨n,hn,q⟩:=sY h (i:=bits hs % (mask+1)) (Lc (Pk _ (Pd _))) (eX hs) he;obtain⟨k,hk,e1⟩:=J0 mask n (bits hs % (mask+1)) (bits hs);refine⟨k,by unfold turns;lia,?_⟩
 show (it mask k (rs mask _ _)).j=e;rw[e1];exact q
theorem bZ (mask:Ai):∀ (n:Ai) (p:Nv),(it mask n p).dummy=p.dummy
 |0,p=>rfl
 |n+1,p=>by
  show (it mask n (adv mask p)).dummy=_;rw[bZ mask n];unfold adv
  split <;> rfl
def Way (t:Ga)(p:Nv)(n:Ai):Prop:=∀ m,m<n->(it t.mask m p).j∈t.place.toList
inductive Meets (t:Ga)(hashAt:Ai->Al)(h:Al)(p:Nv)(fuel:Ai):Ak SetTable.Met->Prop
 |emp (n:Ai) (hn:n<fuel) (w:Way t p n) (e:(it t.mask n p).j ∉ t.place.toList) (q:∀ m i,m<n->t.place[i]? = Ab (it t.mask m p).j->hashAt i≠h):Meets t hashAt h p fuel (Ab (.empty (it t.mask n p).j none))
 |cand (n i:Ai) (hn:n<fuel) (w:Way t p n) (e:t.place[i]? = Ab (it t.mask n p).j) (hh:hashAt i=h) (q:∀ m i,m<n->t.place[i]? = Ab (it t.mask m p).j->hashAt i≠h):Meets t hashAt h p fuel (Ab (.candidate (it t.mask n p).j i (it t.mask (n+1) p)))
theorem XQ (h:Rs xs){a b x:Ai}(ha:xs[a]? = Ab x)(hb:xs[b]? = Ab x):a=b:=by rw[<- bN h ha,bN h hb]
set_option tactic.hygienic true in
theorem g9 {t:Ga}(T:Tb t)(hashAt:Ai->Al)(h:Al):∀ (fuel:Ai) (p:Nv),p.dummy=none->(∃ n,n<fuel/\(it t.mask n p).j ∉ t.place.toList)->Meets t hashAt h p fuel (Ld t hashAt h fuel p)
 |0,p,_,⟨n,hn,_⟩=>by lia
 |fuel+1,p,hd,⟨n,hn,hne⟩=>by
  unfold Ld;rcases oF T p.j with⟨i,e,ei⟩|⟨e,q⟩
  .rw[e]
   simp only
   split
   .rename_i hh
    exact Meets.cand 0 i (by lia) (λm hm=>by lia) ei (by simpa using hh) λm i hm=>by lia
   .rename_i hh
    have hh':hashAt i≠h:=by simpa using hh
    have hn0:n≠0:=by
     rintro rfl;exact hne (Bp (by rw[Bk];exact ei))
    obtain⟨n',rfl⟩:∃ n',n=n'+1:=⟨n-1,by lia⟩
    have ih:=g9 T hashAt h fuel (adv t.mask p) (by rw[<- hd];exact bZ t.mask 1 p) ⟨n',by lia,hne⟩
    rw[M6];have mem0:p.j∈t.place.toList:=Bp (by rw[Bk];exact ei)
    have up:∀ {k:Ai},Way t (adv t.mask p) k->Way t p (k+1):=λ{k} w m hm=>by
     cases m with
     |zero=>exact mem0
     |succ m=>exact w m (by lia)
    have upq:∀ {k:Ai},(∀ m i,m<k->t.place[i]? = Ab (it t.mask m (adv t.mask p)).j->hashAt i≠h)->∀ m i,m<k+1->t.place[i]? = Ab (it t.mask m p).j->hashAt i≠h:=λ{k} q m i' hm e'=>by
     cases m with
     |zero=>rw[XQ T.rs e' ei];exact hh'
     |succ m=>exact q m i' (by lia) e'
    generalize hg:Ld t hashAt h fuel (adv t.mask p)=r at ih;cases ih with
    |emp k hk w e1 q1=>exact Meets.emp (p:=p) (k+1) (by lia) (up w) e1 (upq q1)
    |cand k i' hk w e1 hh1 q1=>exact Meets.cand (p:=p) (k+1) i' (by lia) (up w) e1 hh1 (upq q1)
  .rw[e]
   simp only[hd];exact Meets.emp (p:=p) 0 (by lia) (λm hm=>by lia) q λm i hm=>by lia
end _S
namespace _S
open PySem
open PySem.SetTable (Probe leap runEnd turns bits)
variable {us:Aa Ai}{mask:Ai}{owner:Ax (Ak Ai)}
structure Own (mask:Ai)(owner:Ax (Ak Ai))(us:Aa Ai):Prop where
 size:owner.size=mask+1
 nd:us.Nodup
 le:∀ u∈us,u<=mask
 at':∀ j k,j<=mask->(owner.getD j (Ab 0)=Ab k↔us[k]? = Ab j)
theorem nD {i:Ai}(hi:i<=mask):Hr mask i<=mask:=by
 unfold Hr
 split <;> lia
theorem nE (mask i:Ai):i<=Hr mask i:=by
 unfold Hr
 split <;> lia
theorem Own.none (O:Own mask owner us){j:Ai}(hj:j<=mask):(owner.getD j (Ab 0)).isNone=true↔j ∉ us:=by
 constructor
 .intro h hm
  obtain⟨k,hk,e⟩:=Cu.mp hm;have:=(O.at' j k hj).mpr (by rw[Ar hk,e])
  rw[this] at h;cases h
 .intro h
  cases q:owner.getD j (Ab 0) with
  |none=>rfl
  |some k=>exact absurd (Bp ((O.at' j k hj).mp q)) h
theorem l6 (O:Own mask owner us):∀ (fuel i pert:Ai),i<=mask->(∃ L,L<fuel/\(lp mask L (i,pert)).1 ∉ us) ->
  ∃ n,Iy mask owner fuel i pert=Ab (it mask n (rs mask i pert)).j/\(it mask n (rs mask i pert)).j<=mask/\(it mask n (rs mask i pert)).j ∉ us/\∀ m,m<n->(it mask m (rs mask i pert)).j∈us
 |0,i,pert,hi,⟨L,hL,_⟩=>by lia
 |fuel+1,i,pert,hi,⟨L,hL,hne⟩=>by
  unfold Iy;have hmx:=nD hi;have hmn:=nE mask i;cases hf:(De (Hr mask i+1-i)).find? λk=>(owner.getD (i+k) (Ab 0)).isNone with
  |some k =>
   obtain⟨h1,h2,h3⟩:=List.find?_range_eq_some.mp hf;have hk:k<Hr mask i+1-i:=Fk.mp h2;have ej:(it mask k (rs mask i pert)).j=i+k:=by rw[pE mask i pert k (by lia)]
   refine⟨k,?_,?_,?_,λm hm=>?_⟩
   .rw[ej]
   .rw[ej];lia
   .rw[ej];exact(O.none (by lia)).mp h1
   .rw[pE mask i pert m (by lia)]
    have:=h3 m hm;apply Fz;intro q;rw[(O.none (show i+m<=mask by lia)).mpr q] at this
    cases this
  |none =>
   have hall:∀ k,k<Hr mask i+1-i->i+k∈us:=λk hk=>by
    have:=Na.mp hf k (Fk.mpr hk);apply Fz;intro q;exact this ((O.none (show i+k<=mask by lia)).mpr q)
   have hL0:L≠0:=by
    rintro rfl;exact hne (hall 0 (by lia))
   obtain⟨L',rfl⟩:∃ L',L=L'+1:=⟨L-1,by lia⟩
   obtain⟨n,q1,q2,q3,q4⟩:=l6 O fuel (leap mask i pert).1 (leap mask i pert).2 (tM mask i pert) ⟨L',by lia,hne⟩
   have e:∀ m,it mask (Hr mask i-i+1+m) (rs mask i pert)=it mask m (rs mask (leap mask i pert).1 (leap mask i pert).2):=λm=>by rw[fV,cH]
   refine⟨Hr mask i-i+1+n,?_,?_,?_,λm hm=>?_⟩
   .rw[e];exact q1
   .rw[e];exact q2
   .rw[e];exact q3
   .by_cases hlt:m<Hr mask i-i+1
    .rw[pE mask i pert m (by lia)]
     exact hall m (by lia)
    .obtain⟨m',rfl⟩:∃ m',m=Hr mask i-i+1+m':=⟨m-(Hr mask i-i+1),by lia⟩
     rw[e];exact q4 m' (by lia)
theorem gap (h:us.length<=mask):∃ e,e<=mask/\e ∉ us:=by
 apply Fz;intro q;have:De (mask+1) ⊆ us:=λe he=>by
  apply Fz;intro r;exact q ⟨e,by have:=Fk.mp he;lia,r⟩
 have:=List.Nodup.length_le_of_subset Yz this;rw[Jt] at this
 lia
theorem BB (mask:Ai):Own mask (Array.replicate (mask+1) none) []:=by
 refine⟨by simp,Uz,λu hu=>by simp at hu,λj k hj=>?_⟩
 have:j<mask+1:=by lia
 simp[Gr,this]
theorem VF (O:Own mask owner us){j:Ai}(hj:j<=mask)(hn:j ∉ us):Own mask (owner.setIfInBounds j (Ab us.length)) (us++[j]):=by
 refine⟨by simp[O.size],?_,λu hu=>?_,λi k hi=>?_⟩
 .rw[Jr]
  refine⟨O.nd,by simp,λa ha b hb=>?_⟩
  simp at hb;rintro rfl;subst hb;exact hn ha
 .rcases Cq.mp hu with h|h
  .exact O.le u h
  .simp at h;lia
 .have hsz:=O.size
  have hi':i<owner.size:=by lia
  have hk:∀ {k},us[k]? = Ab i->k<us.length:=λq=>(Bo.mp q).1;by_cases hij:j=i
  .subst hij
   have e1:(owner.setIfInBounds j (Ab us.length)).getD j (Ab 0)=Ab us.length:=by simp[Gr,hi']
   rw[e1];constructor
   .intro q;cases q;simp
   .intro q
    by_cases h1:k<us.length
    .rw[Bi h1] at q
     exact absurd (Bp q) hn
    .rw[Cs (by lia)] at q
     have:k-us.length=0:=by
      cases hz:k-us.length with
      |zero=>rfl
      |succ z=>rw[hz] at q;simp at q
     congr 1;lia
  .have e1:(owner.setIfInBounds j (Ab us.length)).getD i (Ab 0)=owner.getD i (Ab 0):=by
    simp[Gr,hi',Array.getElem_setIfInBounds,hij]
   rw[e1,O.at' i k hi];constructor
   .intro q;rw[Bi (hk q)];exact q
   .intro q
    by_cases h1:k<us.length
    .rw[Bi h1] at q;exact q
    .rw[Cs (by lia)] at q
     cases hz:k-us.length with
     |zero=>rw[hz] at q;simp at q;exact absurd q hij
     |succ z=>rw[hz] at q;simp at q
def i3 (mask:Ai)(us:Aa Ai)(hs:Aa Al):Prop:=∀ (k:Ai) (h:Al),hs[k]? = Ab h->∃ n,us[k]? = Ab (it mask n (st mask h)).j/\∀ m,m<n->(it mask m (st mask h)).j∈us
theorem l0 (hM:Msk mask):∀ (hs done:Aa Al) (owner:Ax (Ak Ai)) (us:Aa Ai),Own mask owner us->us.length=done.length->done.length+hs.length<=mask->i3 mask us done ->
  ∃ owner' us',hs.foldl (λacc h=>do
   let (owner,k) <- acc
   let j <- Iy mask owner (turns mask) (bits h % (mask+1)) (bits h)
   pure (owner.setIfInBounds j (Ab k),k+1)) (Ab (owner,us.length))=Ab (owner',us'.length)/\Own mask owner' us'/\us'.length=done.length+hs.length/\i3 mask us' (done++hs)
 |[],done,owner,us,O,hl,_,hL=>⟨owner,us,rfl,O,by simpa using hl,by simpa using hL⟩
 |h::hs,done,owner,us,O,hl,hlen,hL=>by
  rw[Bj] at hlen;obtain⟨e,he,hne⟩:=gap (mask:=mask) (us:=us) (by lia)
  obtain⟨L,hLn,hLe⟩:=sY hM (i:=bits h % (mask+1)) (Lc (Pk _ (Pd _))) (eX h) he;obtain⟨n,q1,q2,q3,q4⟩:=l6 O (turns mask) (bits h % (mask+1)) (bits h) (Lc (Pk _ (Pd _))) ⟨L,by unfold turns;lia,by rw[hLe];exact hne⟩
  have O':=VF O q2 q3;have hL':i3 mask (us++[(it mask n (rs mask (bits h % (mask+1)) (bits h))).j]) (done++[h]):=λk h' e'=>by
   by_cases hk:k<done.length
   .rw[Bi hk] at e'
    obtain⟨n',w1,w2⟩:=hL k h' e';exact⟨n',by rw[Bi (by lia)];exact w1,λm hm=>Df _ (w2 m hm)⟩
   .rw[Cs (by lia)] at e'
    cases hz:k-done.length with
    |succ z=>rw[hz] at e';simp at e'
    |zero =>
     rw[hz] at e';simp at e';subst e';refine⟨n,?_,λm hm=>Df _ (q4 m hm)⟩;rw[Cs (by lia),hl,hz]
     rfl
  obtain⟨owner',us',r1,r2,r3,r4⟩:=l0 hM hs (done++[h]) _ _ O' (by simp[hl]) (by simp;lia) hL'
  refine⟨owner',us',?_,r2,by simpa [Nat.add_assoc,Sn 1] using r3,by simpa using r4⟩
  rw[Kq];rw[Cj] at r1;have e0:(do
   let (owner,k) <- Ab (owner,us.length)
   let j <- Iy mask owner (turns mask) (bits h % (mask+1)) (bits h)
   pure (owner.setIfInBounds j (Ab k),k+1))=Ab (owner.setIfInBounds (it mask n (rs mask (bits h % (mask+1)) (bits h))).j (Ab us.length),us.length+1):=by
   show (Iy mask owner (turns mask) (bits h % (mask+1)) (bits h)).bind _=_;rw[q1];rfl
  rw[e0];exact r1
theorem lO (hM:Msk mask)(hs:Ax Al)(hlen:hs.size<=mask):∃ owner us,Yc mask hs=Ab owner/\Own mask owner us/\us.length=hs.size/\i3 mask us hs.toList:=by
 obtain⟨owner',us',r1,r2,r3,r4⟩:=l0 hM hs.toList [] _ [] (BB mask) rfl (by simpa using hlen) (λk h e=>by simp at e)
 refine⟨owner',us',?_,r2,by simpa using r3,by simpa using r4⟩
 unfold Yc;rw[<- Array.foldl_toList];have:(([]:Aa Ai).length)=0:=rfl;rw[this] at r1
 erw [r1]
 rfl
structure Laid (mask:Ai)(hs:Ax Al)(t:Ga)(qS:Ax Ai):Prop where
 msk:t.mask=mask
 tb:Tb t
 size:t.place.size=hs.size
 le:∀ x∈t.place.toList,x<=mask
 perm:qS.toList.Perm (De hs.size)
 way:∀ (i k:Ai) (h:Al),qS[i]? = Ab k->hs[k]? = Ab h->∃ n,t.place[i]? = Ab (it mask n (st mask h)).j/\Way t (st mask h) n
theorem Z8 (hM:Msk mask)(hs:Ax Al)(hlen:hs.size<=mask)(finger moves:Ai)(led plain:Aq) :
  ∃ t qS,Vy mask finger moves led plain hs=Ab (t,qS)/\t.led=led/\t.plain=plain/\Laid mask hs t qS:=by
 obtain⟨owner,us,e,O,hl,hL⟩:=lO hM hs hlen;have hg:∀ j,j<=mask->owner.getD j none=owner.getD j (Ab 0):=λj hj=>by
  have:j<owner.size:=by rw[O.size];lia
  simp[Gr,this]
 generalize hlv:((De (mask+1)).filterMap λj=>(owner.getD j none).map (j,·))=live
 have mem:∀ (j k:Ai),(j,k)∈live↔us[k]? = Ab j:=λj k=>by
  rw[<- hlv,Jb];constructor
  .rintro⟨j',hj',q⟩
   have hj'':j'<=mask:=by have:=Fk.mp hj';lia
   rw[hg j' hj''] at q;cases hz:owner.getD j' (Ab 0) with
   |none=>rw[hz] at q;cases q
   |some k' =>
    rw[hz] at q;simp at q;obtain⟨rfl,rfl⟩:=q;exact(O.at' _ _ hj'').mp hz
  .intro q
   have hj:j<=mask:=O.le j (Bp q);refine⟨j,Fk.mpr (by lia),?_⟩
   rw[hg j hj,(O.at' j k hj).mpr q];rfl
 have hfst:live.map (·.1)=(De (mask+1)).filter λj=>(owner.getD j none).isSome:=by
  rw[<- hlv,List.map_filterMap];generalize owner.getD=f
  induction De (mask+1) with
  |nil=>rfl
  |cons a l ih =>
   rw[Ir,Za];cases hz:f a none with
   |none=>simpa using ih
   |some k=>simpa using ih
 have hR:(live.map (·.1)).Pairwise (· < ·):=by
  rw[hfst];exact List.Pairwise.filter _ Tt
 have ndl:(live.map (·.2)).Nodup:=by
  unfold f8;rw[Ge];have h1:=Ge.mp hR;refine Rv (λ{a b} ha hb hab=>?_) h1;intro q;have ea:=(mem a.1 a.2).mp ha;have eb:=(mem b.1 b.2).mp hb;rw[<- q,ea] at eb;simp at eb
  lia
 have pm:(live.map (·.2)).Perm (De hs.size):=by
  rw[List.perm_ext_iff_of_nodup ndl Yz];intro k;rw[Dc,Fk,<- hl];constructor
  .rintro⟨⟨j,k'⟩,h1,rfl⟩
   exact(Bo.mp ((mem j k').mp h1)).1
  .intro hk
   exact⟨(us[k],k),(mem _ _).mpr (Ar hk),rfl⟩
 have hmem:∀ j,j∈live.map (·.1)↔j∈us:=λj=>by
  rw[Dc];constructor
  .rintro⟨⟨j',k⟩,h1,rfl⟩
   exact Bp ((mem _ _).mp h1)
  .intro h1
   obtain⟨k,hk,e⟩:=Cu.mp h1;exact⟨(j,k),(mem _ _).mpr (by rw[Ar hk,e]),rfl⟩
 refine⟨{ mask,place:=(live.map (·.1)).toArray,dummies:=#[],finger,led,moves,plain },(live.map (·.2)).toArray,?_,rfl,rfl,rfl,⟨?_,rfl⟩,?_,λx hx=>?_,?_,λi k h e1 e2=>?_⟩
 .unfold Vy
  rw[e,<- hlv];rfl
 .exact hR
 .have:=pm.length_eq
  simp at this ⊢;exact this
 .exact O.le x ((hmem x).mp hx)
 .exact pm
 .have e1':(live.map (·.2))[i]? = Ab k:=by simpa using e1
  rw[Dp] at e1';cases hz:live[i]? with
  |none=>rw[hz] at e1';cases e1'
  |some jk =>
   rw[hz] at e1';simp at e1';have hin:=Bp hz;have hu:=(mem jk.1 jk.2).mp hin;obtain⟨n,w1,w2⟩:=hL k h (by rw[Bk];exact e2)
   rw[<- e1'] at w1;rw[hu] at w1;refine⟨n,?_,λm hm=>?_⟩
   .rw[<- w1]
    simp[hz]
   .have:=(hmem _).mpr (w2 m hm)
    simpa using this
theorem FD {t:Ga}{hs:Ax Al}{w:Ai}:SetTable.relaid t hs w=Vy (Fg w-1) t.finger (t.movedTo (Fg w-1)) t.led t.plain hs:=rfl
end _S
namespace _S
open PySem
open PySem.SetTable (Probe leap runEnd turns bits)
structure Set0 {K:Type}(is:K->Ac->Prop)(hash:K->Al)(es:Ax (Al × Ac))(seen:Aa K):Prop where
 good:∀ e∈es.toList,∃ k,e.1=hash k/\is k e.2
 nd:es.toList.Pairwise λa b=>∀ k,is k a.2->¬ is k b.2
 mem:∀ k,k∈seen↔∃ e∈es.toList,is k e.2
section
variable {K:Type}{is:K->Ac->Prop}{hash:K->Al}{es es':Ax (Al × Ac)}{seen seen':Aa K}
theorem Set0.perm (Z:Set0 is hash es seen)(p:es'.toList.Perm es.toList):Set0 is hash es' seen:=
 ⟨λe he=>Z.good e (p.mem_iff.mp he),(p.pairwise_iff λ{x y} h k hy hx=>h k hx hy).mpr Z.nd,λk=>(Z.mem k).trans ⟨λ⟨e,he,q⟩=>⟨e,p.mem_iff.mpr he,q⟩,λ⟨e,he,q⟩=>⟨e,p.mem_iff.mp he,q⟩⟩⟩
theorem Set0.nil:Set0 is hash #[] []:=⟨λe he=>by simp at he,by simp,λk=>by simp⟩
theorem Set0.push (Z:Set0 is hash es seen)(inj:∀ {k k':K} {v:Ac},is k v->is k' v->k=k'){k:K}{x:Ac}(hk:is k x)(hn:k ∉ seen)(p:es'.toList.Perm (es.toList++[(hash k,x)])):Set0 is hash es' (k::seen):=by
 refine Set0.perm (es:=es.push (hash k,x)) ⟨λe he=>?_,?_,λk'=>?_⟩ (by simpa using p)
 .rw[Er] at he
  rcases Cq.mp he with he|he
  .exact Z.good e he
  .simp at he;subst he;exact⟨k,rfl,hk⟩
 .rw[Er,Dt]
  refine⟨Z.nd,by simp,λa ha b hb k' h1 h2=>?_⟩
  simp at hb;subst hb;have:=inj hk h2;subst this;exact hn ((Z.mem k).mpr ⟨a,ha,h1⟩)
 .rw[Aw,Z.mem,Er]
  constructor
  .rintro (rfl|⟨e,he,q⟩)
   .exact⟨(hash k',x),by simp,hk⟩
   .exact⟨e,Df _ he,q⟩
  .rintro⟨e,he,q⟩
   rcases Cq.mp he with he|he
   .exact .inr ⟨e,he,q⟩
   .simp at he;subst he;exact .inl (inj q hk)
theorem Set0.again (Z:Set0 is hash es seen){k:K}(hk:k∈seen):Set0 is hash es (k::seen):=
 ⟨Z.good,Z.nd,λk'=>by rw[Aw,Z.mem];exact⟨λh=>h.elim (λe=>by subst e;exact(Z.mem _).mp hk) id,.inr⟩⟩
end
section
open Classical in
theorem f7 {K:Type}{is:K->Ac->Prop}:∀ (L:Aa (Al × Ac)) (U:Aa K),L.Pairwise (λa b=>∀ k,is k a.2->¬ is k b.2)->(∀ e∈L,∃ k∈U,is k e.2)->L.length<=U.length
 |[],U,_,_=>Io _
 |e::L,U,nd,h=>by
  rw[Cz] at nd;obtain⟨k0,hk0,q0⟩:=h e (by simp)
  have ih:=f7 L (U.erase k0) nd.2 λe' he'=>by
   obtain⟨k,hk,q⟩:=h e' (by simp[he'])
   have:k≠k0:=λz=>nd.1 e' he' k0 q0 (z▸q);exact⟨k,(Vg this).mpr hk,q⟩
  rw[Rw hk0] at ih;have:0<U.length:=Tu hk0;rw[Bj]
  lia
open Classical in
theorem Set0.few {K:Type}{is:K->Ac->Prop}{hash:K->Al}{es:Ax (Al × Ac)}{seen U:Aa K}{k:K}(Z:Set0 is hash es seen)(hU:∀ k'∈seen,k'∈U)(hk:k∈U)(hn:k ∉ seen):es.size<U.length:=by
 have:=f7 es.toList (U.erase k) Z.nd λe he=>by
  obtain⟨k',_,q⟩:=Z.good e he;have hs:=(Z.mem k').mpr ⟨e,he,q⟩;have hne:k'≠k:=λz=>hn (z▸hs);exact⟨k',(Vg hne).mpr (hU k' hs),q⟩
 rw[Rw hk,Bg] at this;have:0<U.length:=Tu hk
 lia
end
structure TabT (t:Ga)(es:Ax (Al × Ac)):Prop where
 tb:Tb t
 msk:Msk t.mask
 size:t.place.size=es.size
 le:∀ x∈t.place.toList,x<=t.mask
 few:es.size*5<t.mask*3
 way:∀ (i:Ai) (e:Al × Ac),es[i]? = Ab e->∃ n,t.place[i]? = Ab (it t.mask n (st t.mask e.1)).j/\Way t (st t.mask e.1) n
 plain:t.plain=true
theorem TabT.fits {t:Ga}{es:Ax (Al × Ac)}(T:TabT t es):t.fits es.size=true:=by
 have h1:=T.size;have h2:=T.few;have h3:t.fill=es.size:=by unfold Md;rw[T.tb.dm,h1];rfl
 unfold Vz;rw[h3,h1];rcases T.msk with h|h|h|h|h <;> rw[h] at h2 ⊢ <;> simp <;> lia
theorem TabT.gap {t:Ga}{es:Ax (Al × Ac)}(T:TabT t es):∃ e,e<=t.mask/\e ∉ t.place.toList:=by
 apply _S.gap;rw[Bg,T.size];have h2:=T.few;rcases T.msk with h|h|h|h|h <;> rw[h] at h2 ⊢ <;> lia
theorem TabT.odd {t:Ga}{es:Ax (Al × Ac)}(T:TabT t es):t.gaveWay=false:=by
 unfold SetTable.gaveWay;rcases T.msk with h|h|h|h|h <;> rw[h] <;> rfl
theorem TabT.put {t:Ga}{es:Ax (Al × Ac)}(T:TabT t es){h:Al}{x:Ac}{n:Ai}(w:Way t (st t.mask h) n)(hn:(it t.mask n (st t.mask h)).j ∉ t.place.toList)(hle:(it t.mask n (st t.mask h)).j<=t.mask) :
  let es':=Ca es (t.put (it t.mask n (st t.mask h)).j).2 (h,x)
  Tb (t.put (it t.mask n (st t.mask h)).j).1/\(t.put (it t.mask n (st t.mask h)).j).1.place.size=es'.size/\(∀ y∈(t.put (it t.mask n (st t.mask h)).j).1.place.toList,y<=t.mask) /\
  (∀ (i:Ai) (e:Al × Ac),es'[i]? = Ab e->∃ m,(t.put (it t.mask n (st t.mask h)).j).1.place[i]? = Ab (it t.mask m (st t.mask e.1)).j/\Way (t.put (it t.mask n (st t.mask h)).j).1 (st t.mask e.1) m):=by
 generalize hj:(it t.mask n (st t.mask h)).j=j at *;have pm:∀ y,y∈(t.put j).1.place.toList↔y=j\/y∈t.place.toList:=λy=>by
  show y∈(Ca t.place (Cf t.place j) j).toList↔_;rw[(Ix _ _ _).mem_iff];simp[or_comm]
 have hb:Cf t.place j<=t.place.size:=(uQ T.tb.rs j).le;have wm:∀ {p:Nv} {m:Ai},Way t p m->Way (t.put j).1 p m:=λ{p m} w q hq=>(pm _).mpr (.inr (w q hq));refine⟨D7 T.tb hn,?_,λy hy=>?_,λi e he=>?_⟩
 .show (Ca t.place _ j).size=(Ca es _ (h,x)).size
  rw[vV,vV,T.size]
 .rcases (pm y).mp hy with rfl|hy
  .exact hle
  .exact T.le y hy
 .have he':(if i<Cf t.place j then es[i]? else if i=Cf t.place j then Ab (h,x) else es[i-1]?)=Ab e:=by
   rw[<- fS es (by rw[<- T.size];exact hb)]
   exact he
  have pl:(t.put j).1.place[i]? = if i<Cf t.place j then t.place[i]? else if i=Cf t.place j then Ab j else t.place[i-1]?:=fS t.place hb j i
  rw[pl];by_cases h1:i<Cf t.place j
  .rw[Bl h1] at he' ⊢
   obtain⟨m,q1,q2⟩:=T.way i e he';exact⟨m,q1,wm q2⟩
  .rw[Bm h1] at he' ⊢
   by_cases h2:i=Cf t.place j
   .rw[Bl h2] at he' ⊢
    cases he';exact⟨n,by rw[hj],wm w⟩
   .rw[Bm h2] at he' ⊢
    obtain⟨m,q1,q2⟩:=T.way _ e he';exact⟨m,q1,wm q2⟩
theorem UZ {mask:Ai}(p:Nv)(hp:p.j+p.more<=mask):∀ n,(it mask n p).j+(it mask n p).more<=mask
 |0=>hp
 |n+1=>by
  rw[pU];have ih:=UZ p hp n;unfold adv
  split
  .show (it mask n p).j+1+((it mask n p).more-1)<=mask
   lia
  .show (leap mask _ _).1+(Hr mask (leap mask _ _).1-(leap mask _ _).1)<=mask
   have h1:=nD (tM mask (it mask n p).i (it mask n p).perturb);have h2:=nE mask (leap mask (it mask n p).i (it mask n p).perturb).1
   lia
theorem JT (mask:Ai)(h:Al)(n:Ai):(it mask n (st mask h)).j<=mask:=by
 have h0:bits h % (mask+1)<=mask:=Lc (Pk _ (Pd _));have:=UZ (mask:=mask) (st mask h) (by
  show bits h % (mask+1)+(Hr mask (bits h % (mask+1))-bits h % (mask+1))<=mask;have h1:=nD h0;have h2:=nE mask (bits h % (mask+1))
  lia) n
 lia
theorem bJ {t:Ga}{es:Ax (Al × Ac)}(hM:Msk t.mask)(hp:t.plain=true)(h1:t.place.size=es.size)(h2:es.size<=1001)(hf:t.tooFull=true)(hd:t.dummies=#[])(h3:(es.size-1)*5<t.mask*3)(h4:0<es.size) :
  Fg (Hl es.size)<=2048/\∃ t' qS,t.relaid (es.map (·.1)) (Hl es.size)=Ab (t',qS)/\t'.led=t.led/\(qS.filterMap (es[·]?)).toList.Perm es.toList/\TabT t' (qS.filterMap (es[·]?))/\qS.toList.Perm (De es.size):=by
 have hfill:t.fill=es.size:=by unfold Md;rw[hd,h1];rfl
 have hful:t.mask*3<=es.size*5:=by
  unfold Sh at hf;rw[hfill] at hf;simpa using hf
 have hcase:(es.size=5/\Fg (Hl es.size)=32)\/(es.size=19/\Fg (Hl es.size)=128)\/(es.size=77/\Fg (Hl es.size)=512)\/(es.size=307/\Fg (Hl es.size)=2048):=by
  rcases hM with h|h|h|h|h <;> rw[h] at hful h3
  .have:es.size=5:=by lia
   exact .inl ⟨this,by rw[this];decide⟩
  .have:es.size=19:=by lia
   exact .inr (.inl ⟨this,by rw[this];decide⟩)
  .have:es.size=77:=by lia
   exact .inr (.inr (.inl ⟨this,by rw[this];decide⟩))
  .have:es.size=307:=by lia
   exact .inr (.inr (.inr ⟨this,by rw[this];decide⟩))
  .lia
 have hM':Msk (Fg (Hl es.size)-1):=by
  rcases hcase with⟨_,h⟩|⟨_,h⟩|⟨_,h⟩|⟨_,h⟩ <;> rw[h]
  .exact .inr (.inl rfl)
  .exact .inr (.inr (.inl rfl))
  .exact .inr (.inr (.inr (.inl rfl)))
  .exact .inr (.inr (.inr (.inr rfl)))
 have hle:(es.map (·.1)).size<=Fg (Hl es.size)-1:=by
  rw[Va];rcases hcase with⟨h5,h⟩|⟨h5,h⟩|⟨h5,h⟩|⟨h5,h⟩ <;> rw[h,h5] <;> lia
 obtain⟨t',qS,e,l1,l2,L⟩:=Z8 hM' (es.map (·.1)) hle t.finger (t.movedTo (Fg (Hl es.size)-1)) t.led t.plain
 have hosz:qS.size=es.size:=by
  have:=L.perm.length_eq;simpa using this
 have hord:∀ i k,qS[i]? = Ab k->k<es.size:=λi k q=>by
  have:k∈De (es.map (·.1)).size:=L.perm.mem_iff.mp (Bp (by rw[Bk];exact q))
  simpa using this
 have hfm:(qS.filterMap (es[·]?)).toList=qS.toList.map λk=>es.toList.getD k (0,.none):=by
  rw[Array.toList_filterMap];have:∀ l:Aa Ai,(∀ k∈l,k<es.size)->l.filterMap (es[·]?)=l.map λk=>es.toList.getD k (0,.none):=by
   intro l
   induction l with
   |nil=>intro _;rfl
   |cons a l ih =>
    intro hl;have ha:=hl a (by simp)
    rw[Ir,Dv,ih λk hk=>hl k (by simp[hk])]
    rw[Eb ha];simp[ha]
  refine this _ λk hk=>?_;obtain⟨i,hi,q⟩:=Cu.mp hk;exact hord i k (by rw[<- Bk,Ar hi,q])
 have hperm:(qS.filterMap (es[·]?)).toList.Perm es.toList:=by
  rw[hfm];have p1:=L.perm.map λk=>es.toList.getD k (0,Dm);refine p1.trans ?_;have e2:(De (es.map (·.1)).size).map (λk=>es.toList.getD k (0,Dm))=es.toList:=by
   apply Ox
   .simp
   .intro i a1 a2
    have a3:i<es.size:=by simpa using a2
    simp[a3]
  rw[e2]
 have hsz:(qS.filterMap (es[·]?)).size=es.size:=by rw[<- Bg,hperm.length_eq,Bg]
 have hentry:∀ i,(qS.filterMap (es[·]?))[i]? = (qS[i]?).map λk=>es.toList.getD k (0,.none):=λi=>by
  rw[<- Bk,hfm,Dp,Bk]
 refine⟨by rcases hcase with⟨_,h⟩|⟨_,h⟩|⟨_,h⟩|⟨_,h⟩ <;> rw[h] <;> decide,t',qS,by rw[FD];exact e,l1,hperm,⟨L.tb,by rw[L.msk];exact hM',by rw[L.size,hsz,Va],by rw[L.msk];exact L.le,?_,λi en q=>?_,by rw[l2];exact hp⟩,by have:=L.perm;rwa [Va] at this⟩
 .rw[hsz,L.msk]
  rcases hcase with⟨h5,h⟩|⟨h5,h⟩|⟨h5,h⟩|⟨h5,h⟩ <;> rw[h,h5] <;> lia
 .rw[hentry] at q
  cases hz:qS[i]? with
  |none=>rw[hz] at q;cases q
  |some k =>
   rw[hz] at q;simp only[OY,Option.some.injEq] at q;have hk:=hord i k hz;have:(es.map (·.1))[k]? = Ab en.1:=by
    rw[Array.getElem?_map,Eb hk];rw[<- q];simp[hk]
   rw[L.msk];exact L.way i k en.1 hz this
end _S
namespace _S
open PySem
open PySem.SetTable (Probe leap runEnd turns bits)
variable {Q:Aq->Ag->Prop}
def Sup (h0 h:Bq):Prop:=∀ b o,h0.get? b=Ab o->h.get? b=Ab o
def isT (prog:Bd)(w:Bz)(h0:Bq)(ks:Aa Al)(v:Ac):Prop:=∃ a,v=.ref a/\Pl (Bh prog w) h0 ks a
section
variable {prog:Bd}{w:Bz}{h0:Bq}
theorem isT.inj {x y:Aa Al}{v:Ac}(hx:isT prog w h0 x v)(hy:isT prog w h0 y v):x=y:=by
 obtain⟨a,rfl,h1⟩:=hx;obtain⟨b,e,h2⟩:=hy;cases e;exact h1.inj h2
theorem vY {h:Bq}{ks:Aa Al}{a:Af}(hS:Sup h0 h)(hx:Pl (Bh prog w) h0 ks a):Pl (Bh prog w) h ks a:=by
 obtain⟨o,items,n,ho,r⟩:=hx;exact⟨o,items,n,hS _ _ ho,r⟩
variable {A:Bt}{E:Ac->Ag->Prop}{s:Ag}
theorem RQ {k:Aa Al}{v:Ac}{Q:Al->Ag->Prop}(hu:A.units<Fi)(hS:Sup h0 s.heap)(hx:isT prog w h0 k v)(h:Q (Bu (Bh prog w) k) { s with toks:=s.toks+(k.length+1) }) : Ao (As prog w) A (pyHash v) Q E s:=by
 obtain⟨a,rfl,hx⟩:=hx;exact wpAny_pyHash_tuple hu (vY hS hx) h
theorem eqT {k k':Aa Al}{v v':Ac}(hu:A.units<Fi)(hS:Sup h0 s.heap)(hx:isT prog w h0 k v)(hy:isT prog w h0 k' v')(h:Q (decide (k=k')) s):Ao (As prog w) A (eqBool v v') Q E s:=by
 obtain⟨a,rfl,hx⟩:=hx;obtain⟨b,rfl,hy⟩:=hy;exact wpAny_eqBool_tuple hu (vY hS hx) (vY hS hy) h
theorem fW:∀ {ks:Aa Al} {vs:Aa Ac},ItemsAre (Bh prog w) ks vs->∀ v∈vs,∃ i t,v=.int i t:=by
 intro ks vs h
 induction h with
 |nil=>intro v hv;simp at hv
 |@cons k v' ks vs h1 _ ih =>
  intro v hv;rcases Aw.mp hv with rfl|hv
  .cases v <;> first|exact⟨_,_,rfl⟩|exact absurd h1 (by rintro⟨⟩)
  .exact ih v hv
theorem CD {k:Aa Al}{v:Ac}(hS:Sup h0 s.heap)(hx:isT prog w h0 k v)(h:Q true s):Ao (As prog w) A (Qp 8 v) Q E s:=by
 obtain⟨a,rfl,hx⟩:=hx;have hx:=vY hS hx;have hT:=hx.typeIs;obtain⟨o,items,n,ho,_,hd,hi⟩:=hx;unfold Qp;refine Ad (Zp hT F.slot_tuple_hash.lookup ?_);show Ao _ _ (seqItems? (.ref a) >>= _) Q E s;refine Ad (Hk ho hd ?_);refine Ad ?_;show Ao _ _ (forIn items _ _) _ _ s;rw[<- Ww];refine Om _ (λrest r s'=>r.1=none/\s'=s/\∀ v∈rest,∃ i t,v=.int i t) _ ?_ ?_ _ _ ⟨rfl,rfl,fW hi⟩
 .rintro v rest r s' ⟨hr,rfl,hall⟩
  obtain⟨i,t,rfl⟩:=hall v Dj;show Ao _ _ (Qp 7 (.int i t) >>= _) _ _ _;rw[show Qp 7 (.int i t)=pure true from rfl]
  refine Ad (Am ?_);simp only[Ku,By,Ef];exact Am ⟨rfl,rfl,λu hu'=>hall u (Cd _ hu')⟩
 .rintro⟨r1,r2⟩ s' ⟨hr,rfl,_⟩
  simp only at hr;subst hr;exact Am h
theorem Q1 {k:Aa Al}{v:Ac}(hS:Sup h0 s.heap)(hx:isT prog w h0 k v)(h:Q false s):Ao (As prog w) A (Nw 8 v) Q E s:=by
 obtain⟨a,rfl,hx⟩:=hx;have hx:=vY hS hx;have hT:=hx.typeIs;obtain⟨o,items,n,ho,_,hd,hi⟩:=hx;unfold Nw;refine Ad (Ng hT ?_);dsimp only;refine Ad (Am ?_);simp only[Ku,By,Ef];refine Ad (Hk ho hd ?_);refine Ad ?_;show Ao _ _ (forIn items _ _) _ _ s;rw[<- Ww];refine Om _ (λrest r s'=>r.1=none/\s'=s/\∀ v∈rest,∃ i t,v=.int i t) _ ?_ ?_ _ _ ⟨rfl,rfl,fW hi⟩
 .rintro v rest r s' ⟨hr,rfl,hall⟩
  obtain⟨i,t,rfl⟩:=hall v Dj;show Ao _ _ (Nw 7 (.int i t) >>= _) _ _ _;rw[show Nw 7 (.int i t)=pure false from rfl]
  refine Ad (Am ?_);simp only[By,Ef];exact Am ⟨rfl,rfl,λu hu'=>hall u (Cd _ hu')⟩
 .rintro⟨r1,r2⟩ s' ⟨hr,rfl,_⟩
  simp only at hr;subst hr;exact Am h
theorem XH {k:Aa Al}{v:Ac}(hS:Sup h0 s.heap)(hx:isT prog w h0 k v)(h:Q true s):Ao (As prog w) A (eqIsQuiet 8 v) Q E s:=by
 obtain⟨a,rfl,hx⟩:=hx;exact wpAny_eqIsQuiet_tuple (vY hS hx) h
theorem iT {α:Type}{c:Prop}[Jk c]{M:Kz}{t u:Ky α}{Q:α->Ag->Prop}(h1:c->Ao M A t Q E s)(h2:¬ c->Ao M A u Q E s):Ao M A (if c then t else u) Q E s:=by
 by_cases h:c
 .rw[Bl h];exact h1 h
 .rw[Bm h];exact h2 h
theorem EY {k:Aa Al}{x:Ac}{ys:Aa Ac}(hS:Sup h0 s.heap)(hx:isT prog w h0 k x)(hy:∀ y∈ys,∃ k',isT prog w h0 k' y)(h:Q false s):Ao (As prog w) A (Yd x ys) Q E s:=by
 unfold Yd;refine Ad ?_;refine Om _ (λrest r s'=>r.1=none/\s'=s/\∀ v∈rest,∃ k',isT prog w h0 k' v) _ ?_ ?_ _ _ ⟨rfl,rfl,hy⟩
 .rintro v rest r s' ⟨hr,rfl,hall⟩
  obtain⟨k',hv⟩:=hall v Dj;have hrest:∀ u∈rest,∃ k',isT prog w h0 k' u:=λu hu'=>hall u (Cd _ hu');dsimp only;refine iT (λ_=>Am ⟨rfl,rfl,hrest⟩) λ_=>?_
  .refine Ad (XH hS hx ?_)
   simp only[Ku,By,Ef];refine Ad (XH hS hv ?_);simp only[Ku,By,Ef];refine Ad (Q1 hS hx ?_);simp only[By,Ef];refine Ad (Q1 hS hv ?_);simp only[By,Ef];exact Am ⟨rfl,rfl,hrest⟩
 .rintro⟨r1,r2⟩ s' ⟨hr,rfl,_⟩
  simp only at hr;subst hr;exact Am h
theorem EW {k:Aa Al}{v:Ac}(hx:isT prog w h0 k v)(h:Q true s):Ao (As prog w) A (isSame v v) Q E s:=by
 obtain⟨a,rfl,hx⟩:=hx;unfold isSame;simp only[Gk,Dw];exact Am h
theorem UU {k:Aa Al}{x:Ac}{S:Af}{o:Co}{es:Ax (Al × Ac)}{ep:Ai}{t:Ga}{seen:Aa (Aa Al)}(hu:A.units<Fi)(hS:Sup h0 s.heap)(ho:s.heap.get? S=Ab o)(hd:o.data=.set es ep t)
  (T:TabT t es) (Z:Set0 (isT prog w h0) (Bu (Bh prog w)) es seen) (hx:isT prog w h0 k x) (N:Ai) (hNw:Way t (st t.mask (Bu (Bh prog w) k)) N)
  (hNe:(it t.mask N (st t.mask (Bu (Bh prog w) k))).j ∉ t.place.toList) (hNf:N<10*turns t.mask) {Q:SetFound->Ag->Prop}
  (h1:k∈seen->Q (.there none) s) (h2:k ∉ seen->Q (.free (it t.mask N (st t.mask (Bu (Bh prog w) k))).j false) s) :
  ∀ (fuel n:Ai) (stand:Ak Nv),stand.getD (t.probeStart (Bu (Bh prog w) k))=it t.mask n (st t.mask (Bu (Bh prog w) k))->n<=N->N-n<fuel ->
   (∀ (m i:Ai) (e:Al × Ac),m<n->t.place[i]? = Ab (it t.mask m (st t.mask (Bu (Bh prog w) k))).j->es[i]? = Ab e->¬ isT prog w h0 k e.2) ->
   Ao (As prog w) A (Ri S x (Bu (Bh prog w) k) true fuel stand) Q E s
 |0,n,stand,_,_,hf,_=>by lia
 |fuel+1,n,stand,hst,hn,hf,hq=>by
  unfold Ri;refine Ad (Gf ho hd T.fits ?_);dsimp only;rw[T.odd];simp only[By,Ef];rw[hst];generalize hg:t.probe _ (Bu (Bh prog w) k) (it t.mask n (st t.mask (Bu (Bh prog w) k)))=r;obtain⟨H,hH,hg⟩:∃ H:Ai->Al,(∀ i,H i=(es[i]?.map (·.1)).getD 0)/\t.probe H (Bu (Bh prog w) k) (it t.mask n (st t.mask (Bu (Bh prog w) k)))=r:=⟨_,λi=>rfl,hg⟩
  have itn:∀ m,it t.mask m (it t.mask n (st t.mask (Bu (Bh prog w) k)))=it t.mask (n+m) (st t.mask (Bu (Bh prog w) k)):=λm=>(fV _ _ _ _).symm;have gm:Meets t H (Bu (Bh prog w) k) (it t.mask n (st t.mask (Bu (Bh prog w) k))) (10*turns t.mask) r:=by
   rw[<- hg];refine g9 T.tb H _ _ _ (by rw[bZ];rfl) ⟨N-n,by lia,?_⟩
   rw[itn,show n+(N-n)=N by lia]
   exact hNe
  have miss:∀ j:Ai,(∀ m i:Ai,m<j->t.place[i]? = Ab (it t.mask m (it t.mask n (st t.mask (Bu (Bh prog w) k)))).j->H i≠Bu (Bh prog w) k) ->
    ∀ (m i:Ai) (e:Al × Ac),m<n+j->t.place[i]? = Ab (it t.mask m (st t.mask (Bu (Bh prog w) k))).j->es[i]? = Ab e->¬ isT prog w h0 k e.2:=λj qj m i e hm ei ee hk=>by
   by_cases hmn:m<n
   .exact hq m i e hmn ei ee hk
   .refine qj (m-n) i (by lia) (by rw[itn,show n+(m-n)=m by lia];exact ei) ?_
    rw[hH,ee];obtain⟨k',e1,e2⟩:=Z.good e (Bp (by rw[Bk];exact ee))
    rw[isT.inj hk e2];simpa using e1
  cases gm with
  |emp j hj w' e' q =>
   rw[itn] at e';have hjN:n+j=N:=by
    rcases Ye (n+j) N with h|h|h
    .exact absurd (hNw _ h) e'
    .exact h
    .have:=w' (N-n) (by lia)
     rw[itn,show n+(N-n)=N by lia] at this
     exact absurd this hNe
   dsimp only;rw[itn,hjN];refine Am (h2 λhk=>?_);obtain⟨e,he,hke⟩:=(Z.mem k).mp hk;obtain⟨i,hi,ei⟩:=Cu.mp he;have ei':es[i]? = Ab e:=by rw[<- Bk,Ar hi,ei]
   obtain⟨m,w1,w2⟩:=T.way i e ei';obtain⟨k',g1,g2⟩:=Z.good e he;have:=isT.inj hke g2;subst this;rw[g1] at w1 w2;have hmN:m<N:=by
    apply Fz;intro hc;by_cases hmN:m=N
    .subst hmN
     exact hNe (Bp (by rw[Bk];exact w1))
    .exact hNe (w2 N (by lia))
   exact miss j q m i e (by lia) w1 ei' hke
  |cand j i hj w' e' hh q =>
   rw[itn] at e';have hi:i<es.size:=by
    rw[<- T.size];exact(Dy.mp e').1
   have ei:es[i]? = Ab es[i]:=Eb hi;have hjN:n+j<N:=by
    rcases Ye (n+j) N with h|h|h
    .exact h
    .rw[h] at e'
     exact absurd (Bp (by rw[Bk];exact e')) hNe
    .have:=w' (N-n) (by lia)
     rw[itn,show n+(N-n)=N by lia] at this
     exact absurd this hNe
   obtain⟨k',g1,g2⟩:=Z.good es[i] (by simp)
   dsimp only;have main:Ao (As prog w) A (do
     let Ab (_,y):=es[i]?|unsupported "internal:set-entry"
     let equal <- holding [y] (eqBool y x)
     let (es',_,t') <- Wl S
     if true&&equal then return .there none
     let Ab same:=t'.sameMemory t.moves t.mask|unsupported "set.changed-during-lookup:is-the-new-block-at-the-old-address"
     let still <- match (if same then t'.slot (it t.mask j (it t.mask n (st t.mask (Bu (Bh prog w) k)))).j else .empty) with
      |.live i'=>match es'[i']? with
       |some (_,y')=>do pure (if <- isSame y' y then Ab i' else none)
       |none=>pure none
      |_=>pure none
     match still with
     |none=>rule "set.search.anew";Ri S x (Bu (Bh prog w) k) true fuel none
     |some i'=>if equal then return .there (Ab i') else Ri S x (Bu (Bh prog w) k) true fuel (Ab (it t.mask (j+1) (it t.mask n (st t.mask (Bu (Bh prog w) k)))))) Q E s:=by
    rw[ei];dsimp only;refine Ad (Ee (eqT hu hS g2 hx ?_));refine Ad (Gf ho hd T.fits ?_);by_cases hkk:k'=k
    .subst hkk
     simp only[Kf,Bool.and_self,Dw];exact Am (h1 ((Z.mem k').mpr ⟨es[i],by simp,g2⟩))
    .simp only[hkk,Ki,Ll,By,Ef]
     have hm:t.sameMemory t.moves t.mask=Ab true:=by simp[SetTable.sameMemory]
     rw[hm];dsimp only;rw[itn,lH T.tb e'];simp only[Dw,ei];refine Ad (EW g2 ?_);simp only[Dw];refine Ad (Am ?_);dsimp only;refine UU hu hS ho hd T Z hx N hNw hNe hNf h1 h2 fuel (n+j+1) _ ?_ (by lia) (by lia) λm i' e hm ei' ee hk=>?_
     .rw[Oq,itn]
      rfl
     .by_cases hmj:m<n+j
      .exact miss j q m i' e hmj ei' ee hk
      .have:m=n+j:=by lia
       subst this;have:=XQ T.tb.rs ei' e';subst this;rw[ei] at ee;cases ee;exact hkk (isT.inj g2 hk)
   refine iT (λ_=>?_) λ_=>?_
   .refine Ad (EY hS hx (λy hy=>?_) ?_)
    .obtain⟨e,he,rfl⟩:=Dc.mp hy
     have:e∈es.toList:=by
      have:=(OL.mp he);exact OL.mpr (Array.mem_filter.mp this).1
     obtain⟨k2,_,g⟩:=Z.good e this;exact⟨k2,g⟩
    .simp only[By,Ef]
     exact main
   .exact main
end
end _S
namespace _S
open PySem
open PySem.SetTable (Probe leap runEnd turns bits)
@[reducible] def setO (es:Ax (Al × Ac))(ep:Ai)(t:Ga):Co:={ cls:=.type "set",dict:=none,data:=.set es ep t }
theorem b8 {h:Bq}{S:Af}{es es':Ax (Al × Ac)}{ep:Ai}{t t':Ga}(ho:h.get? S=Ab (setO es ep t)):(h.update S (o0 es' t')).get? S=Ab (setO es' (ep+1) t'):=Gd _ ho rfl
structure SetK {K:Type}(is:K->Ac->Prop)(hash:K->Al)(S:Af)(led:Aq)(V:Aa Ac)(seen:Aa K)(h:Bq):Prop where
 ex:∃ es ep t,h.get? S=Ab (setO es ep t)/\Set0 is hash es seen/\TabT t es/\t.led=led/\∀ e∈es.toList,e.2∈V
section
variable {prog:Bd}{w:Bz}{h0:Bq}{A:Bt}{E:Ac->Ag->Prop}{s:Ag}{S:Af}{led:Aq}{V:Aa Ac}
theorem U0 (a:Af)(wanted:Ai):setRelay a wanted=(do
  let (es,_,t) <- Wl a
  if Fg wanted>sizeLine then unsupported "set:memory"
  let (es,t) <- (do
   let Ab (t,qS):=t.relaid (es.map (·.1)) wanted|unsupported "internal:set-table-without-room"
   let es':=qS.filterMap (es[·]?)
   if es'.size != es.size then unsupported "internal:set-table-lost-an-element"
   pure (es',t))
  storeSet a es t):=rfl
theorem CA {seen:Aa (Aa Al)}{k:Aa Al}{x:Ac}{Q:Aq->Ag->Prop}(hu:A.units<Fi)(hS:Sup h0 s.heap)(Z:SetK (isT prog w h0) (Bu (Bh prog w)) S led V seen s.heap)(hx:isT prog w h0 k x)(hV:x∈V){U:Aa (Aa Al)}(hU:U.length<=1000)(hU1:∀ k'∈seen,k'∈U)(hU2:k∈U)
  (h:∀ (b:Aq) (h':Bq) (tk:Ai),s.toks<=tk->Fe S s.heap h'->SetK (isT prog w h0) (Bu (Bh prog w)) S led V (k::seen) h'->Q b { s with heap:=h',toks:=tk }) : Ao (As prog w) A (Zb S x) Q E s:=by
 obtain⟨es,ep,t,ho,Z,T,hl,hm⟩:=Z;unfold Zb;refine Ee (Ad (RQ hu hS hx ?_));unfold setAddHashed setAddHashedIn;refine Ee (Ad (Gf (s:={ s with toks:=s.toks+(k.length+1) }) ho rfl T.fits ?_))
 dsimp only;have hsc:byScan x es=false:=by
  obtain⟨a,rfl,_⟩:=hx;rfl
 rw[hsc];simp only[By,Ef];obtain⟨e,he,hne⟩:=T.gap;have first:∃ N,Way t (st t.mask (Bu (Bh prog w) k)) N/\(it t.mask N (st t.mask (Bu (Bh prog w) k))).j ∉ t.place.toList/\N<10*turns t.mask:=by
  obtain⟨N,hN,eN⟩:=sU T.msk (Bu (Bh prog w) k) he;have gm:=g9 T.tb (λ_=>Bu (Bh prog w) k+1) (Bu (Bh prog w) k) (10*turns t.mask) (st t.mask (Bu (Bh prog w) k)) rfl ⟨N,hN,by rw[eN];exact hne⟩
  generalize Ld t _ _ _ _=r at gm;cases gm with
  |emp j hj w' e' q=>exact⟨j,w',e',hj⟩
  |cand j i hj w' e' hh q=>exact absurd hh (by lia)
 obtain⟨N,hNw,hNe,hNf⟩:=first
 have hNt:N<100000:=by
  have:turns t.mask<=2200:=by
   unfold turns;rcases T.msk with h|h|h|h|h <;> rw[h] <;> lia
  lia
 refine Ad (UU (s:={ s with toks:=s.toks+(k.length+1) }) hu hS ho rfl T Z hx N hNw hNe hNf (λhk=>?_) (λhk=>?_) 100000 0 none rfl (by lia) (by lia) λm i e hm=>by lia)
 .exact Am (h _ s.heap _ (by lia) (Re _ _) ⟨es,ep,t,ho,Z.again hk,T,hl,hm⟩)
 .have hle:es.size<1000:=Bb (Z.few hU1 hU2 hk) hU
  dsimp only;refine Ad (Gf (s:={ s with toks:=s.toks+(k.length+1) }) ho rfl T.fits ?_)
  obtain⟨p1,p2,p3,p4⟩:=T.put (h:=Bu (Bh prog w) k) (x:=x) hNw hNe (JT _ _ _);generalize hj:(it t.mask N (st t.mask (Bu (Bh prog w) k))).j=j at *;have m1:(t.put j).1.mask=t.mask:=rfl;have m2:(t.put j).1.plain=true:=T.plain;have m3:(t.put j).1.led=led:=hl;generalize hp:t.put j=tp at *;obtain⟨t1,p⟩:=tp;dsimp only at p1 p2 p3 p4 m1 m2 m3 ⊢;rw[m2];simp only[Dw];refine Ad (CD (s:={ s with toks:=s.toks+(k.length+1) }) hS hx ?_)
  simp only[Dw,Vb,Gh];have hsz:(Ca es p (Bu (Bh prog w) k,x)).size=es.size+1:=vV _ _ _;have hline:es.size+1<=sizeLine:=by rw[Ej];lia
  refine Ad (Nx (s:={ s with toks:=s.toks+(k.length+1) }) ho rfl ?_ (by rw[hsz];exact hline))
  have Z1:Set0 (isT prog w h0) (Bu (Bh prog w)) (Ca es p (Bu (Bh prog w) k,x)) (k::seen):=by
   refine Z.push (λa b=>isT.inj a b) hx hk ?_;have:=Ix es p (Bu (Bh prog w) k,x);rw[Er] at this;exact this
  have hm1:∀ e∈(Ca es p (Bu (Bh prog w) k,x)).toList,e.2∈V:=λe he=>by
   have:=(Ix es p (Bu (Bh prog w) k,x)).mem_iff.mp he;rw[Er] at this;rcases Cq.mp this with h1|h1
   .exact hm e h1
   .simp at h1;subst h1;exact hV
  have ho1:=b8 (es':=Ca es p (Bu (Bh prog w) k,x)) (t':=t1) ho;have sb1:=Ho s.heap S (o0 (Ca es p (Bu (Bh prog w) k,x)) t1);have hfit:t1.fits (Ca es p (Bu (Bh prog w) k,x)).size=true:=by
   have h3:t1.fill=es.size+1:=by unfold Md;rw[p1.dm,p2,hsz];rfl
   have h2:=T.few;unfold Vz;rw[h3,p2,hsz,m1];rcases T.msk with h|h|h|h|h <;> rw[h] at h2 ⊢ <;> simp <;> lia
  refine iT (λhf=>?_) λhf=>?_
  .have hM1:Msk t1.mask:=by rw[m1];exact T.msk
   have h3:((Ca es p (Bu (Bh prog w) k,x)).size-1)*5<t1.mask*3:=by rw[hsz,m1];exact T.few
   obtain⟨q1,t2,qS,q2,q3,q4,q5,_⟩:=bJ hM1 m2 p2 (by rw[hsz];lia) (by simpa using hf) p1.dm h3 (by rw[hsz];lia)
   rw[hsz] at q1 q2;rw[U0];refine Ad ?_;refine Ad (Gf (s:={ s with heap:=_,toks:=s.toks+(k.length+1) }) ho1 rfl hfit ?_)
   dsimp only;rw[Bm (by rw[Ej];lia)]
   refine Ad ?_;rw[q2];dsimp only;have hs2:(qS.filterMap λx_1=>(Ca es p (Bu (Bh prog w) k,x))[x_1]?).size=es.size+1:=by rw[<- Bg,q4.length_eq,Bg,hsz]
   rw[Bm (by rw[hs2,hsz];simp)]
   refine Am ?_;refine Nx (s:={ s with heap:=_,toks:=s.toks+(k.length+1) }) ho1 rfl ?_ (by rw[hs2];exact hline)
   refine Am (h _ _ _ (Hy _ _) (sb1.trans (Ho _ S _)) ⟨_,_,t2,b8 ho1,Z1.perm q4,q5,by rw[q3];exact m3,λe he=>hm1 e (q4.mem_iff.mp he)⟩)
  .refine Am (h _ _ _ (Hy _ _) sb1 ⟨_,_,t1,ho1,Z1,⟨p1,by rw[m1];exact T.msk,p2,by rw[m1];exact p3,?_,by rw[m1];exact p4,m2⟩,m3,hm1⟩)
   have h3:t1.fill=es.size+1:=by unfold Md;rw[p1.dm,p2,hsz];rfl
   unfold Sh at hf;rw[h3] at hf;rw[hsz];simpa using hf
end
end _S
namespace _S
open PySem
open PySem.SetTable (Probe leap runEnd turns bits)
variable {seen:Aa Al}
def isI (prog:Bd)(w:Bz)(k:Al)(v:Ac):Prop:=(Bh prog w).is k v=true
section
variable {prog:Bd}{w:Bz}{A:Bt}{E:Ac->Ag->Prop}{s:Ag}{S:Af}{led:Aq}{V:Aa Ac}
set_option tactic.hygienic true in
theorem wL {k:Al}{v:Ac}(h:isI prog w k v):∃ t,v=.int k t:=by
 cases v <;> first|(exact absurd h (by rintro⟨⟩)) | skip
 rename_i i t;refine⟨t,?_⟩;have:i=k:=(Bh prog w).inj (.int i t) i k (Wa _ _ _ _) h;rw[this]
theorem sG {es:Ax (Al × Ac)}(Z:Set0 (isI prog w) (Bh prog w).hash es seen):ElemsOf (Bh prog w) es.toList:=λe he=>by
 obtain⟨k,h1,h2⟩:=Z.good e he;refine⟨⟨k,h2,h1⟩,?_⟩;obtain⟨t,q⟩:=wL h2;rw[q];rfl
theorem HZ {k:Al}{x:Ac}{Q:Aq->Ag->Prop}(Z:SetK (isI prog w) (Bh prog w).hash S led V seen s.heap)(hx:isI prog w k x)(hV:x∈V){U:Aa Al}(hU:U.length<=1000)(hU1:∀ k'∈seen,k'∈U)(hU2:k∈U)
  (h:∀ (b:Aq) (h':Bq) (tk:Ai),s.toks<=tk->Fe S s.heap h'->SetK (isI prog w) (Bh prog w).hash S led V (k::seen) h'->Q b { s with heap:=h',toks:=tk }) : Ao (As prog w) A (Zb S x) Q E s:=by
 obtain⟨es,ep,t,ho,Z,T,hl,hm⟩:=Z;have hsc:x.scannable=true:=by
  obtain⟨tk,q⟩:=wL hx;rw[q];rfl
 have hf:=T.fits;have hb:es.size<scanBound:=by
  have h1:=T.few;have:scanBound=4096:=rfl;rcases T.msk with h|h|h|h|h <;> rw[h] at h1 <;> lia
 unfold Zb;refine Ee (Ad ((Bh prog w).pyHash (k:=k) hx ?_));unfold setAddHashed setAddHashedIn;refine Ee (Ad (Gf (s:={ s with toks:=s.toks+1 }) ho rfl hf ?_))
 dsimp only;rw[byScan_of hsc hb (sG Z)];simp only[Dw];unfold setAddByScan;refine Ad (Ad (Hd (Ad (wpAny_setScan_of (s:={ s with toks:=s.toks+1 }) hx ho rfl hf (sG Z) ?_))))
 cases hr:es.toList.findIdx? (λe=>(Bh prog w).is k e.2) with
 |some j =>
  dsimp only;obtain⟨hj,hpj,_⟩:=List.findIdx?_eq_some_iff_getElem.mp hr;have hk:k∈seen:=(Z.mem k).mpr ⟨es.toList[j],Sf hj,hpj⟩;exact Am (Am (h _ s.heap _ (Hy _ _) (Re _ _) ⟨es,ep,t,ho,Z.again hk,T,hl,hm⟩))
 |none =>
  dsimp only;have hk:k ∉ seen:=λhk=>by
   obtain⟨e,he,q⟩:=(Z.mem k).mp hk;have:=List.findIdx?_eq_none_iff.mp hr e he;rw[show (Bh prog w).is k e.2=true from q] at this
   cases this
  have hle:es.size<1000:=Bb (Z.few hU1 hU2 hk) hU;obtain⟨e,he,hne⟩:=T.gap;have first:∃ N,Way t (st t.mask ((Bh prog w).hash k)) N/\(it t.mask N (st t.mask ((Bh prog w).hash k))).j ∉ t.place.toList/\t.freeSlot ((Bh prog w).hash k)=Ab ((it t.mask N (st t.mask ((Bh prog w).hash k))).j,false):=by
   obtain⟨N,hN,eN⟩:=sU T.msk ((Bh prog w).hash k) he;have gm:=g9 T.tb (λ_=>(Bh prog w).hash k+1) ((Bh prog w).hash k) (10*turns t.mask) (st t.mask ((Bh prog w).hash k)) rfl ⟨N,hN,by rw[eN];exact hne⟩
   unfold SetTable.freeSlot SetTable.probe;rw[H9];generalize Ld t _ _ _ _=r at gm;cases gm with
   |emp j hj w' e' q=>exact⟨j,w',e',rfl⟩
   |cand j i hj w' e' hh q=>exact absurd hh (by lia)
  obtain⟨N,hNw,hNe,hfs⟩:=first
  obtain⟨p1,p2,p3,p4⟩:=T.put (h:=(Bh prog w).hash k) (x:=x) hNw hNe (JT _ _ _);generalize hj:(it t.mask N (st t.mask ((Bh prog w).hash k))).j=j at *;have m1:(t.put j).1.mask=t.mask:=rfl;have m2:(t.put j).1.plain=true:=T.plain;have m3:(t.put j).1.led=led:=hl;generalize hp:t.put j=tp at *;obtain⟨t1,p⟩:=tp;dsimp only at p1 p2 p3 p4 m1 m2 m3 ⊢;have hsz:(Ca es p ((Bh prog w).hash k,x)).size=es.size+1:=vV _ _ _;have hfit:t1.fits (Ca es p ((Bh prog w).hash k,x)).size=true:=by
   have h3:t1.fill=es.size+1:=by unfold Md;rw[p1.dm,p2,hsz];rfl
   have h2:=T.few;unfold Vz;rw[h3,p2,hsz,m1];rcases T.msk with h|h|h|h|h <;> rw[h] at h2 ⊢ <;> simp <;> lia
  have lay:layNew t es ((Bh prog w).hash k) x=(Ca es p ((Bh prog w).hash k,x),t1,false,false):=by
   unfold layNew;rw[hfs];dsimp only;rw[hp];dsimp only;unfold SetTable.orStandIn;rw[hfit];rfl
  rw[lay];dsimp only;refine Ad (Am (a:=()) ?_);have hbv:Qp 8 x=pure true:=by
   rw[hashByValue_scannable 8 hsc];obtain⟨tk,q⟩:=wL hx;subst q;rfl
  rw[hbv,ite_self];refine Ad (Am ?_);simp only[Dw];have hline:es.size+1<=sizeLine:=by rw[Ej];lia
  refine Ad (Nx (s:={ s with toks:=s.toks+1 }) ho rfl ?_ (by rw[hsz];exact hline))
  have pm:(Ca es p ((Bh prog w).hash k,x)).toList.Perm (es.toList++[((Bh prog w).hash k,x)]):=by
   have:=Ix es p ((Bh prog w).hash k,x);rw[Er] at this;exact this
  have Z1:Set0 (isI prog w) (Bh prog w).hash (Ca es p ((Bh prog w).hash k,x)) (k::seen):=Z.push (λa b=>(Bh prog w).inj _ _ _ a b) hx hk pm;have hm1:∀ e∈(Ca es p ((Bh prog w).hash k,x)).toList,e.2∈V:=λe he=>by
   rcases Cq.mp (pm.mem_iff.mp he) with h1|h1
   .exact hm e h1
   .simp at h1;subst h1;exact hV
  have ho1:=b8 (es':=Ca es p ((Bh prog w).hash k,x)) (t':=t1) ho;have sb1:=Ho s.heap S (o0 (Ca es p ((Bh prog w).hash k,x)) t1);refine iT (λhf=>?_) λhf=>?_
  .have hM1:Msk t1.mask:=by rw[m1];exact T.msk
   have h3:((Ca es p ((Bh prog w).hash k,x)).size-1)*5<t1.mask*3:=by rw[hsz,m1];exact T.few
   obtain⟨q1,t2,qS,q2,q3,q4,q5,q6⟩:=bJ hM1 m2 p2 (by rw[hsz];lia) (by simpa using hf) p1.dm h3 (by rw[hsz];lia)
   have hs2:(qS.filterMap λx_1=>(Ca es p ((Bh prog w).hash k,x))[x_1]?).size=es.size+1:=by rw[<- Bg,q4.length_eq,Bg,hsz]
   have rl:relayAll t1 (Ca es p ((Bh prog w).hash k,x)) (Hl (Ca es p ((Bh prog w).hash k,x)).size)=(qS.filterMap λx_1=>(Ca es p ((Bh prog w).hash k,x))[x_1]?,t2,false):=by
    unfold relayAll;rw[q2];dsimp only;have c1:coversAll qS (Ca es p ((Bh prog w).hash k,x)).size=true:=by
     unfold coversAll;exact List.isPerm_iff.mpr q6
    rw[c1,q5.fits];rfl
   rw[rl];dsimp only;refine Ad (Am (a:=()) ?_);refine Ad (Nx (s:={ s with heap:=_,toks:=s.toks+1 }) ho1 rfl ?_ (by rw[hs2];exact hline))
   exact Am (Am (h _ _ _ (Hy _ _) (sb1.trans (Ho _ S _)) ⟨_,_,t2,b8 ho1,Z1.perm q4,q5,by rw[q3];exact m3,λe he=>hm1 e (q4.mem_iff.mp he)⟩))
  .refine Am (Am (h _ _ _ (Hy _ _) sb1 ⟨_,_,t1,ho1,Z1,⟨p1,by rw[m1];exact T.msk,p2,by rw[m1];exact p3,?_,by rw[m1];exact p4,m2⟩,m3,hm1⟩))
   have h3:t1.fill=es.size+1:=by unfold Md;rw[p1.dm,p2,hsz];rfl
   unfold Sh at hf;rw[h3] at hf;rw[hsz];simpa using hf
end
end _S
namespace _S
open PySem
variable {Q:Ac->Ag->Prop}{i:Ai}
structure AddS (prog:Bd)(w:Bz){K:Type}(is:K->Ac->Prop)(hash:K->Al)(h0:Bq):Prop where
 add:∀ {A:Bt} {E:Ac->Ag->Prop} {s:Ag} {S:Af} {led:Aq} {V:Aa Ac} {seen U:Aa K} {k:K} {x:Ac} {Q:Aq->Ag->Prop},A.units<Fi->Sup h0 s.heap->SetK is hash S led V seen s.heap->is k x->x∈V->U.length<=1000->(∀ k'∈seen,k'∈U)->k∈U ->
  (∀ (b:Aq) (h':Bq) (tk:Ai),s.toks<=tk->Fe S s.heap h'->SetK is hash S led V (k::seen) h'->Q b { s with heap:=h',toks:=tk }) -> Ao (As prog w) A (Zb S x) Q E s
theorem M3 {prog:Bd}{w:Bz}(h0:Bq):AddS prog w (isT prog w h0) (Bu (Bh prog w)) h0:=⟨λhu hS Z hx hV h1 h2 h3 h=>CA hu hS Z hx hV h1 h2 h3 h⟩
theorem M2 {prog:Bd}{w:Bz}(h0:Bq):AddS prog w (isI prog w) (Bh prog w).hash h0:=⟨λ_ _ Z hx hV h1 h2 h3 h=>HZ Z hx hV h1 h2 h3 h⟩
noncomputable def y9 {K:Type}(key:Ai->K):Ai->Aa K
 |0=>[]
 |i+1=>key i::y9 key i
theorem jS {K:Type}{key:Ai->K}{k:K}:∀ {n:Ai},k∈y9 key n↔∃ i,i<n/\key i=k
 |0=>by simp[y9]
 |n+1=>by
  rw[y9,Aw,jS];constructor
  .rintro (rfl|⟨i,h,e⟩)
   .exact⟨n,by omega,rfl⟩
   .exact⟨i,by omega,e⟩
  .rintro⟨i,h,e⟩
   by_cases hi:i=n
   .subst hi;exact .inl e.symm
   .exact .inr ⟨i,by omega,e⟩
section
variable {prog:Bd}{w:Bz}{A:Bt}{R:Wj->Ag->Prop}{I:Af}{fp wr:Aa Af}{G:Ax Zh->Ax Zh->Prop}{n:Ai}{P:Ai->Ac->Prop}{St:Ai->Ag->Prop}
variable {K:Type}{is:K->Ac->Prop}{hash:K->Al}{h0:Bq}{led:Aq}{V:Aa Ac}{U:Aa K}
theorem SetK.sup {S:Af}{seen:Aa K}{h h':Bq}(Z:SetK is hash S led V seen h)(e:∀ o,h.get? S=Ab o->h'.get? S=Ab o):SetK is hash S led V seen h':=by
 obtain⟨es,ep,t,ho,r⟩:=Z;exact⟨es,ep,t,e _ ho,r⟩
theorem aK (a:AddS prog w is hash h0)(W:WalksS prog w A.in1 I fp wr G n P St)(S:Af)(hSf:S ∉ fp)(hu:A.in1.units<Fi)(key:Ai->K)(hkey:∀ i v,P i v->is (key i) v/\v∈V)(hU:U.length<=1000)(hUk:∀ i,i<n->key i∈U)
  (hS0:h0.get? S=none) (hw0:∀ b∈wr,h0.get? b=none):∀ (k i:Ai) (s:Ag),n-i=k->i<=n->St i s->Sup h0 s.heap->SetK is hash S led V (y9 key i) s.heap ->
   (∀ s',Moved (S::wr) G s s'->SetK is hash S led V (y9 key n) s'.heap->R (.ok (.ret .none)) s')->Hu (As prog w) A (.builtin "set.update.loop" ⟨[.ref S,.ref I],[]⟩) R s:=by
 have hSw:S ∉ wr:=λh=>hSf (W.sub _ h);have hsub:∀ b∈wr,b∈S::wr:=λb hb=>Cd _ hb;intro k
 induction k with
 |zero =>
  intro i s hk hi hst hS Z hR;have hin:i=n:=by omega
  subst hin;refine Gu Mp ?_;rw[Hi IN _];show Ao _ A.in1 (Nl (.ref I) >>= _) _ _ s;refine Ad (W.done s _ _ hst λs' hm=>?_);exact Am (hR s' (hm.mono hsub) (Z.sup λo e=>hm.heap S _ hSw e))
 |succ k ih =>
  intro i s hk hi hst hS Z hR;have hlt:i<n:=by omega
  refine Gu Mp ?_;rw[Hi IN _];show Ao _ A.in1 (Nl (.ref I) >>= _) _ _ s;refine Ad (W.item i s _ _ hlt hst λv s' hP hst' hm=>?_);obtain⟨q1,q2⟩:=hkey i v hP;have hS':Sup h0 s'.heap:=λb o e=>hm.heap b o (λhb=>by rw[hw0 b hb] at e;cases e) (hS b o e)
  show Ao _ A.in1 (holding [v] (Zb S v) >>= _) _ _ s';refine Ad (Ee (a.add hu hS' (Z.sup λo e=>hm.heap S _ hSw e) q1 q2 hU (λk' hk'=>?_) (hUk i hlt) λb h' tk htk hsb Z'=>?_))
  .obtain⟨j,hj,e⟩:=jS.mp hk'
   exact e▸hUk j (by omega)
  .refine Am ⟨Oy IN _,ih (i+1) _ (by omega) hlt (W.frame _ s' _ _ hst' htk λb hb o e=>?_) (λb o e=>?_) Z' λs'' hm'' Z''=>?_⟩
   .rw[hsb.2 b (λh:b=S=>hSf (by rw[<- h];exact hb))];exact e
   .rw[hsb.2 b (λh:b=S=>by rw[h,hS0] at e;cases e)];exact hS' b o e
   .refine hR s'' (Moved.trans W.gtrans ((hm.mono hsub).then_heap htk λb o hb e=>?_) hm'') Z''
    rw[hsb.2 b (λh:b=S=>hb (by rw[h];exact Dj))];exact e
end
section
variable {prog:Bd}{w:Bz}{A:Bt}{E:Ac->Ag->Prop}{s:Ag}
noncomputable def wG (w:Bz):Aq:=!w.params.followText "set-order"
@[reducible] def set0 (w:Bz):Co:=setO #[] 0 (.fresh 0 0 (wG w))
theorem bI (a:Ac){Q₁:Ac->Ag->Prop}(h:Q₁ (.ref s.heap.objs.size) { s with heap:=s.heap.push (set0 w) }) : Hu (As prog w) A (.call (.builtin "set.__new__") ⟨[.type "set",a],[]⟩) (wants Q₁ E) s:=by
 refine OX ?_;show Ao _ A.in1 (do Sd "set.__new__" ⟨[.type "set",a],[]⟩;again (.builtin "set.__new__" ⟨[.type "set",a],[]⟩)) _ _ s
 refine Ad (Qn (PySem.F.newCall_set_1 a) (Am ⟨Oy Ui _,Gu PySem.F.entry_set_new ?_⟩));rw[Hi Ui _];unfold Hn.«set.__new__» Aa0;have hsub:=PySem.sub_set_self;obtain⟨hp,g,d,tk,os⟩:=s;dsimp only
 wp_walk
 refine Kc (Am ?_);dsimp only;simp only[newObj];exact Ad (wpAny_alloc (Am (Am h)))
theorem lM (w:Bz):TabT (.fresh 0 0 (wG w)) #[]:=⟨⟨by unfold Rs;exact Nr,rfl⟩,.inl rfl,rfl,λx hx=>(by cases hx),(show 0*5<7*3 by decide),λi e h=>(by simp at h),rfl⟩
variable {K:Type}{is:K->Ac->Prop}{hash:K->Al}{U:Aa K}
theorem WG (a:AddS prog w is hash s.heap){l:Af}{items:Ax Ac}{Q:Ac->Ag->Prop}(hh:A.handled=none)(hu:A.units+8<Fi)(hl:s.heap.IsList l items)(key:Ai->K)(hkey:∀ i v,items[i]? = Ab v->is (key i) v)(hU:U.length<=1000)(hUk:∀ i,i<items.size->key i∈U)
  (h:∀ (h':Bq) (tk:Ai),SetK is hash s.heap.objs.size (wG w) items.toList (y9 key items.size) h'->(∀ b o,s.heap.get? b=Ab o->h'.get? b=Ab o)->Q (.ref s.heap.objs.size) { s with heap:=h',toks:=tk }) :
  Ao (As prog w) A (call (.type "set") [.ref l]) Q E s:=by
 obtain⟨c,tl,hmro⟩:=Dr.mro;have hmade:=Dr.made;have hsub:=Dr.sub;refine Ph (OX ?_);show Ao _ _ (callAny (.type "set") _) _ _ _;refine Am ⟨Qf _ (by decide +kernel),Gu Sx ?_⟩
 rw[Wx (Uj "set" [.ref l] []) rfl];have h1:=Dr.notType;have h2:=Dr.canCreate;have hct:=Tv (.ref l)
 repeat (any_goals (first|assumption|wp_step))
 refine Ji (bI (.ref l) (E:=E) (Q₁:=λobj s₁=>obj=.ref s.heap.objs.size/\s₁={ s with heap:=s.heap.push (set0 w) }) ⟨rfl,rfl⟩) λr s₁ hr=>?_
 cases r with
 |error e=>exact hr
 |ok fl =>
  cases fl with
  |ret obj =>
   obtain⟨rfl,rfl⟩:=hr;have hS:(s.heap.push (set0 w)).get? s.heap.objs.size=Ab (set0 w):=Ba _ rfl;have hT:Rj { s with heap:=s.heap.push (set0 w) } (.ref s.heap.objs.size) "set":=⟨_,hS,rfl⟩
   have hli:=Dr.init.lookup;have hbi:=Dr.init.bind (.ref s.heap.objs.size)
   repeat (any_goals (first|assumption|wp_step))
   refine Ji (Lp (R:=wants (λr s₂=>r=.none/\∃ h' tk,s₂={ s with heap:=h',toks:=tk } /\ SetK is hash s.heap.objs.size (wG w) items.toList (y9 key items.size) h'/\∀ b o,s.heap.get? b=Ab o->h'.get? b=Ab o) E) Dr.init.plain Tw (Zc hT ?_)) λr₂ s₂ hr₂=>?_
   .obtain⟨ol,hol,hcl,nl,hdl⟩:=hl
    obtain⟨ocls,odict,odata,oslots⟩:=ol;simp only at hcl hdl;subst hcl;subst hdl;have hol':(s.heap.push (set0 w)).get? l=Ab { cls:=.type "list",dict:=odict,data:=.seq items nl,slots:=oslots }:=Ah _ hol;have hsls:=PySem.F.sub_list_set;have hslf:=PySem.F.sub_list_frozenset;have hne:(Hb "list" == Hb "dict")=false:=by decide
    have hl1:(s.heap.push (set0 w)).IsList l items:=⟨_,hol',rfl,nl,rfl⟩;unfold Hn.«set.__init__» noKeywords Pm;generalize hPI:Og=PI
    wp_walk
    subst hPI;refine Gp hl1 ?_;refine Ad (Pv ?_);have hlS:l<s.heap.objs.size:=Ay hol;have hneI:l≠(s.heap.push (set0 w)).objs.size:=by
     rw[Dz];exact Ci (Rk hlS)
    have nS:s.heap.get? s.heap.objs.size=none:=Jv (Au _);have nI:s.heap.get? (s.heap.push (set0 w)).objs.size=none:=Jv (by rw[Dz];exact Qo _)
    refine aK (led:=wG w) (V:=items.toList) a ((Walks.list (A:=A.in1.in1.in1) (by simp[hh]) _ l hneI items).toS) s.heap.objs.size ?_ (by show A.units+3<Fi;omega) key (λi v hv=>⟨hkey i v hv,?_⟩) hU hUk nS (λb hb=>?_) (items.size-0) 0 _ (by omega) (Io _)
     ⟨⟨_,Ba _ rfl,rfl,rfl⟩,hl1.push _⟩ (λb o e=>Ah _ (Ah _ e)) ?_ λs' hm hS'=>?_
    .rw[Dz];simp only[Aw,Dq,Dl,Hg,Wk]
     exact⟨Ci (Ke _),Gi hlS⟩
    .exact Bp (by rw[Bk];exact hv)
    .rw[Dq.mp hb];exact nI
    .exact⟨#[],0,_,Ah _ hS,Set0.nil,lM w,rfl,λe he=>by simp at he⟩
    .obtain⟨h',g',d',tk',os'⟩:=s'
     have eg:g'=s.gens:=hm.gens;have ed:d'=s.drawn:=hm.drawn;have eo:os'=s.os:=hm.os;subst eg;subst ed;subst eo;refine Am (Am ⟨rfl,h',tk',rfl,hS',λb o e=>?_⟩);refine hm.heap b o (λhb=>?_) (Ah _ (Ah _ e));rcases Aw.mp hb with rfl|hb
     .rw[nS] at e;cases e
     .rw[Dq.mp hb,nI] at e;cases e
   .cases r₂ with
    |error e=>exact hr₂
    |ok fl₂ =>
     cases fl₂ with
     |ret r =>
      obtain⟨rfl,h',tk,rfl,hS',hk'⟩:=hr₂
      repeat (any_goals (first|assumption|wp_step))
      exact h _ _ hS' hk'
     |_=>exact hr₂.elim
  |_=>exact hr.elim
theorem oY (a:AddS prog w is hash s.heap){l:Af}{items:Ax Ac}{Q:Ac->Ag->Prop}(hh:A.handled=none)(hu:A.units+8<Fi)(hl:s.heap.IsTuple l items)(key:Ai->K)(hkey:∀ i v,items[i]? = Ab v->is (key i) v)(hU:U.length<=1000)(hUk:∀ i,i<items.size->key i∈U)
  (h:∀ (h':Bq) (tk:Ai),SetK is hash s.heap.objs.size (wG w) items.toList (y9 key items.size) h'->(∀ b o,s.heap.get? b=Ab o->h'.get? b=Ab o)->Q (.ref s.heap.objs.size) { s with heap:=h',toks:=tk }) :
  Ao (As prog w) A (call (.type "set") [.ref l]) Q E s:=by
 obtain⟨c,tl,hmro⟩:=Dr.mro;have hmade:=Dr.made;have hsub:=Dr.sub;refine Ph (OX ?_);show Ao _ _ (callAny (.type "set") _) _ _ _;refine Am ⟨Qf _ (by decide +kernel),Gu Sx ?_⟩
 rw[Wx (Uj "set" [.ref l] []) rfl];have h1:=Dr.notType;have h2:=Dr.canCreate;have hct:=Tv (.ref l)
 repeat (any_goals (first|assumption|wp_step))
 refine Ji (bI (.ref l) (E:=E) (Q₁:=λobj s₁=>obj=.ref s.heap.objs.size/\s₁={ s with heap:=s.heap.push (set0 w) }) ⟨rfl,rfl⟩) λr s₁ hr=>?_
 cases r with
 |error e=>exact hr
 |ok fl =>
  cases fl with
  |ret obj =>
   obtain⟨rfl,rfl⟩:=hr;have hS:(s.heap.push (set0 w)).get? s.heap.objs.size=Ab (set0 w):=Ba _ rfl;have hT:Rj { s with heap:=s.heap.push (set0 w) } (.ref s.heap.objs.size) "set":=⟨_,hS,rfl⟩
   have hli:=Dr.init.lookup;have hbi:=Dr.init.bind (.ref s.heap.objs.size)
   repeat (any_goals (first|assumption|wp_step))
   refine Ji (Lp (R:=wants (λr s₂=>r=.none/\∃ h' tk,s₂={ s with heap:=h',toks:=tk } /\ SetK is hash s.heap.objs.size (wG w) items.toList (y9 key items.size) h'/\∀ b o,s.heap.get? b=Ab o->h'.get? b=Ab o) E) Dr.init.plain Tw (Zc hT ?_)) λr₂ s₂ hr₂=>?_
   .obtain⟨ol,hol,hcl,nl,hdl⟩:=hl
    obtain⟨ocls,odict,odata,oslots⟩:=ol;simp only at hcl hdl;subst hcl;subst hdl;have hol':(s.heap.push (set0 w)).get? l=Ab { cls:=.type "tuple",dict:=odict,data:=.seq items nl,slots:=oslots }:=Ah _ hol;have hsls:=PySem.F.sub_tuple_set;have hslf:=PySem.F.sub_tuple_frozenset;have hne:(Hb "tuple" == Hb "dict")=false:=by decide
    have hl1:(s.heap.push (set0 w)).IsTuple l items:=⟨_,hol',rfl,nl,rfl⟩;unfold Hn.«set.__init__» noKeywords Pm;generalize hPI:Og=PI
    wp_walk
    subst hPI;refine Gz hl1 ?_;refine Ad (Pv ?_);have hlS:l<s.heap.objs.size:=Ay hol;have hneI:l≠(s.heap.push (set0 w)).objs.size:=by
     rw[Dz];exact Ci (Rk hlS)
    have nS:s.heap.get? s.heap.objs.size=none:=Jv (Au _);have nI:s.heap.get? (s.heap.push (set0 w)).objs.size=none:=Jv (by rw[Dz];exact Qo _)
    refine aK (led:=wG w) (V:=items.toList) a ((Walks.tuple (A:=A.in1.in1.in1) (by simp[hh]) _ l hneI items).toS) s.heap.objs.size ?_ (by show A.units+3<Fi;omega) key (λi v hv=>⟨hkey i v hv,?_⟩) hU hUk nS (λb hb=>?_) (items.size-0) 0 _ (by omega) (Io _)
     ⟨⟨_,Ba _ rfl,rfl,rfl⟩,hl1.push _⟩ (λb o e=>Ah _ (Ah _ e)) ?_ λs' hm hS'=>?_
    .rw[Dz];simp only[Aw,Dq,Dl,Hg,Wk]
     exact⟨Ci (Ke _),Gi hlS⟩
    .exact Bp (by rw[Bk];exact hv)
    .rw[Dq.mp hb];exact nI
    .exact⟨#[],0,_,Ah _ hS,Set0.nil,lM w,rfl,λe he=>by simp at he⟩
    .obtain⟨h',g',d',tk',os'⟩:=s'
     have eg:g'=s.gens:=hm.gens;have ed:d'=s.drawn:=hm.drawn;have eo:os'=s.os:=hm.os;subst eg;subst ed;subst eo;refine Am (Am ⟨rfl,h',tk',rfl,hS',λb o e=>?_⟩);refine hm.heap b o (λhb=>?_) (Ah _ (Ah _ e));rcases Aw.mp hb with rfl|hb
     .rw[nS] at e;cases e
     .rw[Dq.mp hb,nI] at e;cases e
   .cases r₂ with
    |error e=>exact hr₂
    |ok fl₂ =>
     cases fl₂ with
     |ret r =>
      obtain⟨rfl,h',tk,rfl,hS',hk'⟩:=hr₂
      repeat (any_goals (first|assumption|wp_step))
      exact h _ _ hS' hk'
     |_=>exact hr₂.elim
  |_=>exact hr.elim
theorem iE (a:AddS prog w is hash s.heap){l:Af}{items:Ax Ac}{Q:Ac->Ag->Prop}(hh:A.handled=none)(hu:A.units+8<Fi)(hl:s.heap.IsList l items\/s.heap.IsTuple l items)(key:Ai->K)(hkey:∀ i v,items[i]? = Ab v->is (key i) v)(hU:U.length<=1000)(hUk:∀ i,i<items.size->key i∈U)
  (h:∀ (h':Bq) (tk:Ai),SetK is hash s.heap.objs.size (wG w) items.toList (y9 key items.size) h'->(∀ b o,s.heap.get? b=Ab o->h'.get? b=Ab o)->Q (.ref s.heap.objs.size) { s with heap:=h',toks:=tk }) :
  Ao (As prog w) A (call (.type "set") [.ref l]) Q E s:=by
 rcases hl with hl|hl
 .exact WG a hh hu hl key hkey hU hUk h
 .exact oY a hh hu hl key hkey hU hUk h
end
theorem fP {α:Type}:∀ {l:Aa α} {i:Ai} (h:i<l.length),(l[i]::l.eraseIdx i).Perm l
 |a::l,0,h=>by simp
 |a::l,i+1,h=>by
  rw[List.eraseIdx_cons_succ,List.getElem_cons_succ];exact(List.Perm.swap _ _ _).trans ((fP (l:=l) (i:=i) (by simpa using h)).cons a)
theorem lE {α:Type}(next:Ai->Ai):∀ (fuel k:Ai) (left:Aa α) (out:Ax α),left.length=fuel->(Xi next fuel k left out).toList.Perm (out.toList++left)
 |0,k,left,out,h=>by
  have:left=[]:=Kv h;subst this;unfold Xi;simp
 |fuel+1,k,left,out,h=>by
  unfold Xi;have hlt:next k % left.length<left.length:=Pk _ (by omega)
  rw[Ar hlt];dsimp only;refine(lE next fuel (k+1) _ _ (by rw[List.length_eraseIdx,Bl hlt];omega)).trans ?_
  rw[Er,Cp];refine Hz _ ?_;exact fP hlt
theorem tY {α:Type}(next:Ai->Ai)(xs:Ax α) : (OZ next xs).toList.Perm xs.toList:=by
 have:=lE next xs.size 0 xs.toList #[] (by simp)
 simpa [OZ] using this
theorem yS:Slot "set_iterator" "__next__" "set_iterator.__next__":=
 .of (owner:="set_iterator") (n:="__next__") (by rw[Zq,Uk];kernel_rfl) (by decide +kernel) (by decide +kernel) (by decide +kernel) (.inl (by decide +kernel)) (by rw[Vc];kernel_rfl)
theorem fO:entryFor table "set_iterator.__next__" = Ab Hn.«set_iterator.__next__»:=entryFor_of_fast (by kernel_rfl)
theorem nN (a:Ac):Yx "set_iterator.__next__" ⟨[a],[]⟩:=by unfold Yx;kernel_rfl
theorem lI:Slot "set_iterator" "__iter__" "set_iterator.__iter__":=
 .of (owner:="set_iterator") (n:="__iter__") (by rw[Zq,Uk];kernel_rfl) (by decide +kernel) (by decide +kernel) (by decide +kernel) (.inl (by decide +kernel)) (by rw[Vc];kernel_rfl)
theorem iN:entryFor table "set_iterator.__iter__" = Ab Hn.«dict_keyiterator.__iter__»:=entryFor_alias (id':="dict_keyiterator.__iter__") (by kernel_rfl) rfl (by decide +kernel) (by kernel_rfl)
theorem oT (a:Ac):Yx "set_iterator.__iter__" ⟨[a],[]⟩:=by unfold Yx;kernel_rfl
theorem iM:entryFor table "set.__iter__" = Ab Hn.«frozenset.__iter__»:=entryFor_alias (id':="frozenset.__iter__") (by kernel_rfl) rfl (by decide +kernel) (by kernel_rfl)
theorem PY (a:Af)(slot given epochThen:Ai):setNext a slot given epochThen=(do
  let (es,epoch,t) <- Wl a
  if <- sB then
   if epoch != epochThen then unsupported "set_iterator.__next__:elements-changed"
   return ((<- setWalk a)[given]?).map λe=>(e.2,slot)
  if !t.plain&&es.size>1 then unsupported "set_iterator.__next__:the-table-is-plain-no-more"
  (do if !t.led&&!es.isEmpty then unsupported "set:maker-not-led")
  return match es[Cf t.place slot]?,t.place[Cf t.place slot]? with
   |some (_,x),Ab j=>Ab (x,j+1)
   |_,_=>none):=rfl
theorem FK (a:Af):setWalk a=(do
  let (es,epoch,t) <- Wl a
  if <- sB then return OZ ((<- ask).params.setOrder a epoch) es
  if !t.plain&&es.size>1 then return (<- drawOrder es.size es.toList).toArray
  (do if !t.led&&es.size>1 then unsupported "set:maker-not-led")
  return es):=rfl
theorem Y0 (a:Af):setDrawn a=(do
  let (es,_,t) <- Wl a
  let byText <- sB
  return !byText&&(!t.plain&&es.size>1)):=rfl
structure Still (w:Bz)(S:Af)(es:Ax (Al × Ac))(ep:Ai)(t:Ga):Prop where
 tab:TabT t es
 led:t.led=wG w
def qS (w:Bz)(S:Af)(ep:Ai)(es:Ax (Al × Ac)):Ax (Al × Ac):=if w.params.followText "set-order" = true then OZ (w.params.setOrder S ep) es else es
theorem mD (w:Bz)(S:Af)(ep:Ai)(es:Ax (Al × Ac)):(qS w S ep es).toList.Perm es.toList:=by
 unfold qS
 split
 .exact tY _ _
 .exact Np _
theorem uI (w:Bz)(S:Af)(ep:Ai)(es:Ax (Al × Ac)):(qS w S ep es).size=es.size:=by
 rw[<- Bg,(mD w S ep es).length_eq,Bg]
noncomputable def itO (slot i:Ai)(S:Af)(n ep:Ai):Co:={ cls:=.type "set_iterator",data:=.fields #[.int slot 0,.int i 0,.ref S,.int n 0,.int ep 0] }
def At (w:Bz)(I S:Af)(es:Ax (Al × Ac))(ep:Ai)(t:Ga)(i:Ai)(h:Bq):Prop:=
 ∃ slot,h.get? I=Ab (itO slot i S es.size ep)/\h.get? S=Ab (setO es ep t)/\(w.params.followText "set-order" = true\/Cf t.place slot=i)
section
variable {prog:Bd}{w:Bz}{A:Bt}{E:Ac->Ag->Prop}{s:Ag}{S I:Af}{es:Ax (Al × Ac)}{ep:Ai}{t:Ga}
theorem oE {slot:Ai}{Q:Ak (Ac × Ai)->Ag->Prop}(Z:Still w S es ep t)(ho:s.heap.get? S=Ab (setO es ep t))(hs:w.params.followText "set-order" = true\/Cf t.place slot=i)
  (h1:∀ e slot',(qS w S ep es)[i]? = Ab e->(w.params.followText "set-order" = true\/Cf t.place slot'=i+1)->Q (Ab (e.2,slot')) s) (h2:(qS w S ep es)[i]? = none->Q none s):Ao (As prog w) A (setNext S slot i ep) Q E s:=by
 rw[PY];refine Ad (Gf ho rfl Z.tab.fits ?_);dsimp only;refine Ad (Ad (Kc (Am ?_)));cases hf:w.params.followText "set-order" with
 |true =>
  show Ao _ _ (if (w.params.followText "set-order")=true then _ else _) _ _ _
  rw[Bl hf];have hb:(ep != ep)=false:=by simp
  rw[hb];simp only[By,Ef];refine Ad ?_;rw[FK];refine Ad (Gf ho rfl Z.tab.fits ?_);dsimp only;refine Ad (Ad (Kc (Am ?_)));show Ao _ _ (if (w.params.followText "set-order")=true then _ else _) _ _ _
  rw[Bl hf];refine Ad (Kc (Am (Am ?_)));show Q (((OZ (w.params.setOrder S ep) es)[i]?).map λe=>(e.2,slot)) s;have ho':qS w S ep es=OZ (w.params.setOrder S ep) es:=by unfold qS;rw[Bl hf]
  rw[ho'] at h1 h2;cases hx:(OZ (w.params.setOrder S ep) es)[i]? with
  |none=>exact h2 hx
  |some e=>exact h1 e slot hx (.inl hf)
 |false =>
  show Ao _ _ (if (w.params.followText "set-order")=true then _ else _) _ _ _
  rw[Bm (by rw[hf];decide),Z.tab.plain,Z.led]
  unfold wG;rw[hf];simp only[Ku,Fm,By,Ef,Vb];have hb:Cf t.place slot=i:=by
   rcases hs with h|h
   .rw[hf] at h;cases h
   .exact h
  rw[hb];have ho':qS w S ep es=es:=by unfold qS;rw[Bm (by rw[hf];decide)]
  rw[ho'] at h1 h2;refine Am ?_;cases hx:es[i]? with
  |none=>exact h2 hx
  |some e =>
   have hi:i<t.place.size:=by rw[Z.tab.size];exact(Dy.mp hx).1
   have hp:t.place[i]? = Ab t.place[i]:=Eb hi;rw[hp];exact h1 e _ hx (.inr (iC Z.tab.tb.rs hp))
theorem At.type (h:At w I S es ep t i s.heap):s.TypeIs (.ref I) "set_iterator":=by
 obtain⟨slot,h,_⟩:=h;exact⟨_,h,rfl⟩
theorem lB (Z:Still w S es ep t)(hI:At w I S es ep t i s.heap)
  (h1:∀ e slot' slot,(qS w S ep es)[i]? = Ab e->s.heap.get? I=Ab (itO slot i S es.size ep)->s.heap.get? S=Ab (setO es ep t)->(w.params.followText "set-order" = true\/Cf t.place slot'=i+1) ->
   Q e.2 { s with heap:=(s.heap.update I (Wb (·.setIfInBounds 0 (Gj slot')))).update I (Wb (·.setIfInBounds 1 (Gj ((i:Al)+1)))) })
  (h2:(qS w S ep es)[i]? = none->Ao (As prog w) A (do setField (.ref I) 2 .none;raiseNew (<- newExc (.type "StopIteration") [])) (λ(fin:PySem.Fin) s'=>∃ r,fin=.done (.ret r)/\Q r s') E s) :
  Ao (As prog w) A (Hn.«set_iterator.__next__» ⟨[.ref I],[]⟩) (λfin s'=>∃ r,fin=.done (.ret r)/\Q r s') E s:=by
 obtain⟨slot,hg,hS,hb⟩:=hI;show Ao _ _ (fieldsOf (.ref I) >>= _) _ _ s;refine Ad (wpAny_fieldsOf hg rfl ?_);show Ao _ _ (setEntries S >>= _) _ _ s;refine Ad (Wc hS rfl Z.tab.fits ?_);have hne:(((es.size:Ai):Al) != ((es.size:Ai):Al))=false:=by simp
 rw[hne];simp only[By,Ef];show Ao _ _ (setNext S (slot:Al).toNat (i:Al).toNat (ep:Al).toNat >>= _) _ _ s;rw[Ez,Ez,Ez];refine Ad (oE Z hS hb (λe slot' he hb'=>?_) λhe=>?_)
 .dsimp only
  refine Ad (No hg rfl (by show 0<5;decide) ?_)
  have hg2:=Gd (Wb (·.setIfInBounds 0 (Gj slot'))) hg rfl
  refine Ad (No hg2 rfl (by show 1<5;decide) ?_)
  exact Am ⟨_,rfl,h1 e slot' slot he hg hS hb'⟩
 .exact h2 he
theorem FJ (hh:A.handled=none)(hne:S≠I)(Z:Still w S es ep t):Walks prog w A I [I,S] [I] es.size (λi v=>∃ e,(qS w S ep es)[i]? = Ab e/\e.2=v) (λi h=>At w I S es ep t i h) where
 sub:=λb hb=>by simp at hb;simp[hb]
 frame:=λi h h' ⟨slot,h1,h2,h3⟩ hk=>⟨slot,hk I (by simp) _ h1,hk S (by simp) _ h2,h3⟩
 item:=λi s Q E hi st hQ=>by
  unfold Nl;refine Ad (Iu (Eh (name:=Il "__next__") st.type yS (Em yS st.type fO (lB Z st (λe slot' slot he hg hS hb=>?_) λhe=>?_) (nN _))))
  .refine Am (hQ e.2 _ s.toks ⟨e,he,rfl⟩ ⟨slot',?_,?_,hb⟩ λb o hb e=>?_)
   .exact Gd _ (Gd _ hg rfl) rfl
   .rw[Di _ _ hne.symm,Di _ _ hne.symm];exact hS
   .have hb:I≠b:=λz=>hb (by simp[z])
    rw[Di _ _ hb,Di _ _ hb];exact e
  .have:=Array.getElem?_eq_none_iff.mp he
   rw[uI] at this;omega
 done:=λs Q E st hQ=>by
  unfold Nl;refine Ad (Iu (Eh (name:=Il "__next__") st.type yS (Em yS st.type fO (lB Z st (λe slot' slot he hg hS hb=>?_) λhe=>?_) (nN _))))
  .have:=(Dy.mp he).1
   rw[uI] at this;omega
  .obtain⟨slot,hg,hS,hb⟩:=st
   refine Ad (No hg rfl (by show 2<5;decide) ?_)
   refine Ad ?_;simp only[newExc,newTuple];refine Ad (Eo ?_ (by size_fits))
   refine Ad (m:=Ps _ _) (Qn (a:=Dm) (by first|rfl|(simp only[Ps];rfl)) ?_)
   refine Eo ?_ (by size_fits)
   simp only[raiseNew];refine Ad (wpAny_handled ?_);rw[show A.in1.handled=none from hh]
   refine Ad (Am (wpAny_throw ?_));refine Ad (Ou (T:="StopIteration") (b:=true) ⟨_,Ba _ rfl,rfl⟩ Ux ?_);refine Am (hQ _ s.toks λb o hb e=>?_);exact(((Ho ..).extBut.push _).push _) b o (λz=>hb (by simp[z])) e
 self:=λi s Q E st hQ=>by
  refine Yf st.type lI (Em lI st.type iN ?_ (oT _));show Ao _ _ (ret (.ref I)) _ _ s;exact Am ⟨_,rfl,"set_iterator",_,st.type,yS.lookup,hQ⟩
theorem YU (Z:Still w S es ep t)(ho:s.heap.get? S=Ab (setO es ep t))(h:Q (.ref s.heap.objs.size) { s with heap:=s.heap.push (itO 0 0 S es.size ep) }) : Ao (As prog w) A (Og (.ref S)) Q E s:=by
 have hT:s.TypeIs (.ref S) "set":=⟨_,ho,rfl⟩;refine Yf hT Ul (Em Ul hT iM ?_ (PySem.F.args_set_iter_1 _));show Ao _ _ (Rx S >>= _) _ _ s;unfold Rx;refine Ad (Ad (Wc ho rfl Z.tab.fits (Am ?_)));refine Ad ?_;rw[Y0];refine Ad (Gf ho rfl Z.tab.fits ?_);dsimp only;refine Ad (Ad (Kc (Am (Am ?_))));rw[Z.tab.plain];simp only[Ku,Fm,Ll,By,Ef];refine Ad (Am ?_);unfold setEpoch;refine Ad (Ad (Gf ho rfl Z.tab.fits (Am ?_)));refine Ad (Eo (Am ⟨_,rfl,"set_iterator",_,⟨_,Ba _ rfl,rfl⟩,yS.lookup,h⟩))
theorem JZ (Z:Still w S es ep t)(ho:s.heap.get? S=Ab (setO es ep t)):At w s.heap.objs.size S es ep t 0 (s.heap.push (itO 0 0 S es.size ep)):=
 ⟨0,Ba _ rfl,Ah _ ho,.inr (iD Z.tab.tb.rs)⟩
end
end _S
namespace _S
open PySem PySem.W PyProof.Rows
variable {vs:Aa Ac}{n lo:Ai}{arr m:Ax Bs}
structure Ord {K:Type}(lt:K->K->Aq):Prop where
 irr:∀ a,lt a a=false
 tr:∀ {a b c},lt a b=true->lt b c=true->lt a c=true
 tri:∀ {a b},lt a b=false->a=b\/lt b a=true
noncomputable def ltI (a b:Al):Aq:=decide (a<b)
theorem VD:Ord ltI:=⟨λa=>by simp[ltI],λ{a b c} h1 h2=>by simp only[ltI,Bv] at *;omega,λ{a b} h=>by simp only[ltI,Bv,Ip] at *;omega⟩
theorem cO:∀ a:Aa Al,_H.lexLt a a=false
 |[]=>rfl
 |x::xs=>by rw[_H.lexLt_cons,Bl rfl];exact cO xs
theorem ZC:∀ {a b c:Aa Al},_H.lexLt a b=true->_H.lexLt b c=true->_H.lexLt a c=true
 |_,[],[],_,h=>by cases h
 |_,_::_,[],_,h=>by cases h
 |[],_,_::_,_,_=>rfl
 |_::_,[],_::_,h,_=>by cases h
 |x::xs,y::ys,z::zs,h1,h2=>by
  rw[_H.lexLt_cons] at h1 h2 ⊢;by_cases e1:x=y
  .subst e1
   rw[Bl rfl] at h1;by_cases e2:x=z
   .rw[Bl e2] at h2 ⊢;exact ZC h1 h2
   .rw[Bm e2] at h2 ⊢;exact h2
  .rw[Bm e1] at h1
   have h1:=Cw h1;by_cases e2:y=z
   .subst e2;rw[Bm e1];exact Dk h1
   .rw[Bm e2] at h2
    have h2:=Cw h2;rw[Bm (by omega)]
    exact Dk (by omega)
theorem cP:∀ {a b:Aa Al},_H.lexLt a b=false->a=b\/_H.lexLt b a=true
 |[],[],_=>.inl rfl
 |[],_::_,h=>by cases h
 |_::_,[],_=>.inr rfl
 |x::xs,y::ys,h=>by
  rw[_H.lexLt_cons] at h ⊢;by_cases e:x=y
  .subst e
   rw[Bl rfl] at h ⊢;rcases cP h with h|h
   .exact .inl (by rw[h])
   .exact .inr h
  .rw[Bm e] at h
   have h:=Wy h;rw[Bm (Gb e)];exact .inr (Dk (by omega))
theorem gL:Ord _H.lexLt:=⟨cO,ZC,cP⟩
theorem nW {α:Type}{p q:α->Aq}:∀ {l:Aa α},(∀ x∈l,p x=true->q x=true)->(∃ x∈l,q x=true/\p x=false)->l.countP p<l.countP q
 |[],_,⟨x,h,_⟩=>by simp at h
 |a::l,h,⟨x,hx,h1,h2⟩=>by
  have le:l.countP p<=l.countP q:=Um λy hy=>h y (by simp[hy])
  rw[Zd,Zd];rcases Aw.mp hx with rfl|hx
  .rw[Bm (by rw[h2];decide),Bl h1];omega
  .have ih:=nW (l:=l) (λy hy=>h y (by simp[hy])) ⟨x,hx,h1,h2⟩
   have:=h a (by simp)
   cases hp:p a with
   |false=>rw[Bm (by decide)];split <;> omega
   |true=>rw[Bl rfl,Bl (this hp)];omega
section
variable {K:Type}{lt':K->K->Aq}
noncomputable def gM (lt':K->K->Aq)(ks:Aa K)(x:K):Al:=(ks.countP (λk=>lt' k x):Ai)
theorem rK (O:Ord lt'){ks:Aa K}{x y:K}(hx:x∈ks):lt' x y=decide (gM lt' ks x<gM lt' ks y):=by
 unfold gM;cases h:lt' x y with
 |true =>
  refine(Dk ?_).symm;have:=nW (l:=ks) (p:=λk=>lt' k x) (q:=λk=>lt' k y) (λz _ hz=>O.tr hz h) ⟨x,hx,h,O.irr x⟩;omega
 |false =>
  refine(Dd ?_).symm;have:ks.countP (λk=>lt' k y)<=ks.countP (λk=>lt' k x):=by
   rcases O.tri h with e|h'
   .rw[e];exact Au _
   .exact Um λz _ hz=>O.tr hz h'
  omega
noncomputable def dN (lt':K->K->Aq)(ks:Aa K)(d:K)(i j:Ai):Aq:=lt' (ks.getD i d) (ks.getD j d)
def Nf (lt':K->K->Aq)(l:Aa K):Prop:=l.Pairwise λa b=>lt' b a=false
theorem tS (O:Ord lt'):∀ {a b:Aa K},Nf lt' a->Nf lt' b->a.Perm b->a=b
 |[],b,_,_,p=>(List.nil_perm.mp p).symm
 |x::a,b,ha,hb,p=>by
  cases b with
  |nil=>exact absurd p.symm (by simp)
  |cons y b =>
   unfold Nf at ha hb;rw[Cz] at ha hb;have e:x=y:=by
    rcases Aw.mp (p.mem_iff.mp (.head _)) with e|e
    .exact e
    .rcases Aw.mp (p.mem_iff.mpr (.head _)) with e'|e'
     .exact e'.symm
     .have h1:=ha.1 y e'
      have h2:=hb.1 x e;rcases O.tri h1 with e|h
      .exact e.symm
      .rw[h2] at h;cases h
   subst e;rw[tS O ha.2 hb.2 (List.Perm.cons_inv p)]
theorem ZP (O:Ord lt'){l:Aa K}(h:Nf lt' l)(nd:l.Nodup):l.Pairwise λa b=>lt' a b=true:=by
 refine List.Pairwise.imp₂ (λ{a b} h1 h2=>?_) h nd;exact(O.tri h1).elim (λe=>absurd e.symm h2) id
noncomputable def jH (lt':K->K->Aq)(l:Aa K):Aa K:=l.mergeSort λa b=>!lt' b a
theorem lK (l:Aa K):(jH lt' l).Perm l:=List.mergeSort_perm _ _
theorem aP (O:Ord lt')(l:Aa K):Nf lt' (jH lt' l):=by
 have:=List.pairwise_mergeSort (le:=λa b=>!lt' b a) (λa b c h1 h2=>?_) (λa b=>?_) l
 .exact this.imp λh=>by simpa using h
 .have h1:lt' b a=false:=by simpa using h1
  have h2:lt' c b=false:=by simpa using h2
  cases h3:lt' c a with
  |false=>rfl
  |true =>
   rcases O.tri h1 with e|h
   .rw[<- e] at h3;rw[h3] at h2;cases h2
   .have:=O.tr h3 h;rw[h2] at this;cases this
 .cases h:lt' b a with
  |false=>rfl
  |true =>
   cases h':lt' a b with
   |false=>rfl
   |true=>have:=O.tr h h';rw[O.irr] at this;cases this
noncomputable def j6 (lt':K->K->Aq)(x:K):Aa K->Aa K
 |[]=>[x]
 |y::l=>if lt' x y then x::y::l else if lt' y x then y::j6 lt' x l else y::l
noncomputable def srt (lt':K->K->Aq):Aa K->Aa K
 |[]=>[]
 |x::xs=>j6 lt' x (srt lt' xs)
set_option tactic.hygienic true in
theorem bY (O:Ord lt')(x y:K):∀ l:Aa K,y∈j6 lt' x l↔y=x\/y∈l
 |[]=>by simp[j6]
 |z::l=>by
  unfold j6
  split
  .simp
  .rename_i h1
   split
   .rw[Aw,bY O x y l,Aw]
    exact⟨λh=>by rcases h with h|h|h <;> simp[h],λh=>by rcases h with h|h|h <;> simp[h]⟩
   .rename_i h2
    have:x=z:=(O.tri (by simpa using h1)).elim id λh=>absurd h h2
    subst this;simp
set_option tactic.hygienic true in
theorem cC (O:Ord lt')(x:K):∀ l:Aa K,l.Pairwise (λa b=>lt' a b=true)->(j6 lt' x l).Pairwise (λa b=>lt' a b=true)
 |[],_=>by simp[j6]
 |z::l,h=>by
  rw[Cz] at h;unfold j6
  split
  .rename_i h1
   refine Cz.mpr ⟨λy hy=>?_,Cz.mpr h⟩;rcases Aw.mp hy with rfl|hy
   .exact h1
   .exact O.tr h1 (h.1 y hy)
  .split
   .rename_i h2
    refine Cz.mpr ⟨λy hy=>?_,cC O x l h.2⟩;rcases (bY O x y l).mp hy with rfl|hy
    .exact h2
    .exact h.1 y hy
   .exact Cz.mpr h
theorem uM (O:Ord lt')(y:K):∀ l:Aa K,y∈srt lt' l↔y∈l
 |[]=>by simp[srt]
 |x::l=>by rw[srt,bY O,uM O y l,Aw]
theorem pJ (O:Ord lt'):∀ l:Aa K,(srt lt' l).Pairwise (λa b=>lt' a b=true)
 |[]=>by simp[srt]
 |x::l=>cC O x _ (pJ O l)
theorem nJ (O:Ord lt'):∀ {a b:Aa K},a.Pairwise (λa b=>lt' a b=true)->b.Pairwise (λa b=>lt' a b=true)->(∀ x,x∈a↔x∈b)->a=b
 |[],[],_,_,_=>rfl
 |[],y::b,_,_,h=>by have:=(h y).mpr (by simp);simp at this
 |x::a,[],_,_,h=>by have:=(h x).mp (by simp);simp at this
 |x::a,y::b,ha,hb,h=>by
  rw[Cz] at ha hb;have asym:∀ {u v},lt' u v=true->lt' v u=true->Fh:=λp q=>by have:=O.tr p q;rw[O.irr] at this;cases this
  have e:x=y:=by
   rcases Aw.mp ((h x).mp (by simp)) with e|e
   .exact e
   .rcases Aw.mp ((h y).mpr (by simp)) with e'|e'
    .exact e'.symm
    .exact(asym (hb.1 x e) (ha.1 y e')).elim
  subst e;have ne:∀ {z:K} {l:Aa K},(∀ y∈l,lt' x y=true)->z∈l->z≠x:=λh hz e=>by subst e;have:=h _ hz;rw[O.irr] at this;cases this
  rw[nJ O ha.2 hb.2 λz=>⟨λhz=>?_,λhz=>?_⟩]
  .exact(Aw.mp ((h z).mp (by simp[hz]))).elim (λe=>absurd e (ne ha.1 hz)) id
  .exact(Aw.mp ((h z).mpr (by simp[hz]))).elim (λe=>absurd e (ne hb.1 hz)) id
theorem NV (O:Ord lt'){l xs:Aa K}(h:Nf lt' l)(nd:l.Nodup)(m:∀ x,x∈l↔x∈xs):l=srt lt' xs:=
 nJ O (ZP O h nd) (pJ O xs) λx=>by rw[m,uM O]
end
theorem PH:typeLookup (.type "set") "__len__" = pure (Ab (.builtin "set.__len__")):=PySem.F.slot_set_len.lookup
section
variable {prog:Bd}{w:Bz}{A:Bt}{E:Ac->Ag->Prop}{s:Ag}{S:Af}{es:Ax (Al × Ac)}{ep:Ai}{t:Ga}
theorem YK {r:Af}(hT:s.TypeIs (.ref r) "set"){Q:Aq->Ag->Prop}(h:Q false s):Ao (As prog w) A (Pw (.ref r)) Q E s:=by
 unfold Pw;refine Ad (Zp hT PH ?_);generalize hid:("set.__len__" : Dx)=id0
 wp_delta
 rw[show splitId id0=Ab ("set","__len__") from by subst hid;decide +kernel]
 subst hid;refine Ad (Ou (T:="set") (b:=true) hT (by rw[Vc];kernel_rfl) ?_)
 refine Tx (λhab=>absurd hab (by decide)) (λ_=>?_)
 refine Tx (λ_=>?_) (λhab=>absurd (by decide +kernel) hab)
 exact Ad (Ng hT (Am h))
theorem eD {Q:Aa Ac->Ag->Prop}(hh:A.handled=none)(Z:Still w S es ep t)(ho:s.heap.get? S=Ab (setO es ep t))(hn:es.size<=1000)
  (h:∀ h' tk,(∀ b o,s.heap.get? b=Ab o->h'.get? b=Ab o)->s.heap.objs.size<h'.objs.size->Q ((qS w S ep es).toList.map (·.2)) { s with heap:=h',toks:=tk }) : Ao (As prog w) A (collect (.ref S)) Q E s:=by
 have hS:S<s.heap.objs.size:=Ay ho;unfold collect;refine Ad (Pv (Gu Px ?_));rw[Hi Py _];show Ao _ A.in1 (newList [] >>= λl=>again (.builtin "list.__iadd__" ⟨[l,.ref S],[]⟩)) _ _ s;refine Ad (Eo (Am ⟨Oy Kj _,Gu Sy ?_⟩));rw[Hi Kj _];have hD:(s.heap.push { cls:=.type "list",data:=.seq ([] : Aa Ac).toArray }).get? s.heap.objs.size=Ab { cls:=.type "list",data:=.seq #[] }:=Ba _ rfl;have ho1:(s.heap.push { cls:=.type "list",data:=.seq ([] : Aa Ac).toArray }).get? S=Ab (setO es ep t):=Ah _ ho;show Ao _ A.in1 (Lm (.ref s.heap.objs.size) (.ref S) (.ref s.heap.objs.size)) _ _ _;unfold Lm;have hT1:Rj { s with heap:=s.heap.push { cls:=.type "list",data:=.seq ([] : Aa Ac).toArray } } (.ref S) "set":=⟨_,ho1,rfl⟩
 refine Ad (Ng hT1 ?_);have h1:Ry (.ref s.heap.objs.size) (.ref S)=false:=by simp[Ry];exact Gi hS
 rw[Bm (by rw[h1];decide)]
 refine Ad (YU (s:={ s with heap:=s.heap.push { cls:=.type "list",data:=.seq ([] : Aa Ac).toArray } }) Z ho1 ?_)
 have hD2:=Ah (itO 0 0 S es.size ep) hD;have hT2:Rj { s with heap:=(s.heap.push { cls:=.type "list",data:=.seq ([] : Aa Ac).toArray }).push (itO 0 0 S es.size ep) } (.ref S) "set":=⟨_,Ah _ ho1,rfl⟩
 refine Ad (Ee (YK hT2 ?_));refine Tx (λ_=>?_) (λhab=>absurd (by decide) hab)
 refine Ad (Hd (Ad ?_));show Ao _ _ (updateSeq s.heap.objs.size (·.push .none) >>= λ_=>updateSeq s.heap.objs.size (·.pop)) _ _ _
 refine Ad (Zr hD2 rfl ?_);have hD3:=Gd (Fb (·.push Dm)) hD2 rfl
 refine Zr (hz:=by seq_fits) hD3 rfl ?_
 have hD4:=Gd (Fb (·.pop)) hD3 rfl
 have sz:(s.heap.push { cls:=.type "list",data:=.seq ([] : Aa Ac).toArray }).objs.size=s.heap.objs.size+1:=Dz ..;have oth:∀ {b:Af} {o:Co},b≠s.heap.objs.size->((s.heap.push { cls:=.type "list",data:=.seq ([] : Aa Ac).toArray }).push (itO 0 0 S es.size ep)).get? b=Ab o ->
   ((((s.heap.push { cls:=.type "list",data:=.seq ([] : Aa Ac).toArray }).push (itO 0 0 S es.size ep)).update s.heap.objs.size (Fb (·.push Dm))).update s.heap.objs.size (Fb (·.pop))).get? b=Ab o:=
  λhb e=>(Di _ _ (Gb hb)).trans ((Di _ _ (Gb hb)).trans e)
 have at0:=JZ (w:=w) (s:={ s with heap:=s.heap.push { cls:=.type "list",data:=.seq ([] : Aa Ac).toArray } }) Z ho1
 refine Am ⟨Oy PySem.F.plain_extend_loop _,?_⟩;refine codeAny_extend_loopS ((FJ (prog:=prog) (A:=A.in1) (I:=(s.heap.push { cls:=.type "list",data:=.seq ([] : Aa Ac).toArray }).objs.size) hh (by rw[sz];exact Ci (Rk hS)) Z).toS) (by rw[Ej];lia) s.heap.objs.size ?_ _ es.size 0 _ #[] _ rfl (Io _) ?_ hD4 (ItemsOf.nil _) λs' acc c hm hS' hacc=>?_
 .rw[sz]
  simp only[Aw,Dl,Hg,Wk];exact⟨Ci (Ke _),Gi hS⟩
 .obtain⟨slot,a1,a2,a3⟩:=at0
  exact⟨slot,oth (by rw[sz];exact Gi (Ke _)) a1,oth (Ci hS) a2,a3⟩
 .show Ao _ A (load s.heap.objs.size >>= _) _ _ s'
  refine Ad (Zw hS' ?_);obtain⟨h',g',d',tk',os'⟩:=s';have eg:g'=s.gens:=hm.gens;have ed:d'=s.drawn:=hm.drawn;have eo:os'=s.os:=hm.os;subst eg;subst ed;subst eo;have e:acc.toList=(qS w S ep es).toList.map (·.2):=by
   refine Rf λi=>?_;rw[Bk,Dp,Bk];by_cases hi:i<es.size
   .have hi':i<acc.size:=by rw[hacc.1];exact hi
    obtain⟨e,he,q⟩:=hacc.2 i acc[i] (Eb hi');rw[Eb hi',he,OY,q]
   .rw[Tz (by rw[hacc.1];lia),Tz (by rw[uI];lia)]
    rfl
  refine Am ?_;show Q acc.toList _;rw[e];refine h h' tk' (λb o q=>?_) (Ay hS');have hb:b<s.heap.objs.size:=Ay q;refine hm.heap b o (λhx=>?_) (oth (Ci hb) (Ah _ (Ah _ q)));simp only[Aw,Dl,Hg] at hx;rcases hx with hx|hx
  .exact absurd hb (by rw[hx];exact Et _)
  .exact absurd hb (by rw[hx,sz];exact NE.mpr (Qo _))
end
noncomputable def tE:Aq->Bs->Ax Bs->Ai->Ai->Ai->OH Gg Ky (Ak Ai):=sortPriv% PySem.Builtin.gallop
noncomputable def V6:Ax Bs->Ax Bs->OH Gg Ky (Ax Bs):=sortPriv% PySem.Builtin.mergeLo
noncomputable def V5:Ax Bs->Ax Bs->OH Gg Ky (Ax Bs):=sortPriv% PySem.Builtin.mergeHi
noncomputable def nv:Bs:=(Dm,Dm)
section
variable {M:Kz}{A:Bt}{E:Ac->Ag->Prop}{s:Ag}{κ : Mq}{U:Bs->Prop}{r:Bs->Al}
structure Cm (M:Kz)(A:Bt)(s:Ag)(κ : Mq)(U:Bs->Prop)(r:Bs->Al):Prop where
 lt:∀ {x y:Bs},U x->U y->∀ {E:Ac->Ag->Prop} {Q:Ak Aq->Gg->Prop} {st:Gg},kindOf st=κ->Q (Ab (decide (r x<r y))) st->wpS M A E s (lt' x y) Q st
theorem zB {i:Ai}{Q:Bs->Gg->Prop}{st:Gg}(h:i<arr.size)(q:Q (arr.getD i nv) st):wpS M A E s (elem' arr i) Q st:=by
 rw[elem'_eq,getElem?_pos arr i h];have e:arr.getD i nv=arr[i]:=by simp[Gr,h]
 rw[e] at q;exact Br q
theorem oQ (C:Cm M A s κ U r){left:Aq}{key:Bs}{arr:Ax Bs}{i:Ai}{Q:Ak Aq->Gg->Prop}{st:Gg}(hk:kindOf st=κ)(hi:i<arr.size)(hU:U (arr.getD i nv))(hkU:U key)
  (q:Q (Ab (if left then decide (r (arr.getD i nv)<r key) else !decide (r key<r (arr.getD i nv)))) st) :
  wpS M A E s (do let x <- elem' arr i;if left then lt' x key else (do let a <- lt' key x;pure (a.map (λb=>!b)))) Q st:=by
 refine AT (zB hi ?_);cases left with
 |true=>exact C.lt hU hkU hk q
 |false=>exact AT (C.lt hkU hU hk (Br q))
theorem mJ (C:Cm M A s κ U r){left:Aq}{key:Bs}{arr:Ax Bs}{base n hint cut:Ai}{Q:Ak Ai->Gg->Prop}{st:Gg}(hk:kindOf st=κ)(hh:hint<n)(hb:base+n<=arr.size)(hU:∀ i,i<n->U (arr.getD (base+i) nv))(hkU:U key)(hc:cut<=n)
  (hB:∀ i,i<n->(if left then decide (r (arr.getD (base+i) nv)<r key) else !decide (r key<r (arr.getD (base+i) nv)))=decide (i<cut)) (h:Q (Ab cut) st):wpS M A E s (tE left key arr base n hint) Q st:=by
 have B:∀ {i:Ai} {E:Ac->Ag->Prop} {Q:Ak Aq->Gg->Prop},i<n->Q (Ab (decide (i<cut))) st->wpS M A E s (do let x <- elem' arr (base+i);if left then lt' x key else (do let a <- lt' key x;pure (a.map (λb=>!b)))) Q st:=by
  intro i E Q hi q;exact oQ C hk (by lia) (hU i hi) hkU (by rw[hB i hi];exact q)
 have bin:∀ {lo hi:Ai} {f:Ai->Ak (Ak Ai) × Ai × Ai->OH Gg Ky (ForInStep (Ak (Ak Ai) × Ai × Ai))},lo<=cut->cut<=hi->hi<=n ->
   (∀ x a b,f x (none,a,b)=if a>=b then pure (.done (none,a,b)) else ((do let x <- elem' arr (base+(a+(b-a)/2));if left then lt' x key else (do let a <- lt' key x;pure (a.map (λb=>!b)))) >>= λo=>match o with
    |some more=>if more then pure (.yield (none,a+(b-a)/2+1,b)) else pure (.yield (none,a,a+(b-a)/2))
    |_=>pure (.done (Ab none,a,b))))->wpS M A E s (forIn [0:n] (none,lo,hi) f) (λc st'=>st'=st/\∃ a,c=(none,a,cut)) st:=by
  intro lo hi f h1 h2 h3 hf;refine Fu (I:=λx c st'=>st'=st/\∃ a b,c=(none,a,b)/\a<=cut/\cut<=b/\b<=n/\b-a<=n-x) ?_ ?_ ⟨rfl,lo,hi,rfl,h1,h2,h3,by lia⟩
  .rintro x c st' _ hx ⟨rfl,a,b,rfl,q1,q2,q3,q4⟩
   rw[hf];by_cases g:a>=b
   .rw[Bl g];exact Br ⟨rfl,a,by rw[show b=cut by lia]⟩
   .rw[Bm g]
    refine AT (B (by lia) ?_)
    by_cases z:a+(b-a)/2<cut
    .simp only[z,Kf,Dw]
     exact Br ⟨rfl,_,_,rfl,by lia,q2,q3,by lia⟩
    .simp only[z,Ki,By,Ef]
     exact Br ⟨rfl,_,_,rfl,q1,by lia,by lia,by lia⟩
  .rintro c st' ⟨rfl,a,b,rfl,q1,q2,q3,q4⟩
   exact⟨rfl,a,by rw[show b=cut by lia]⟩
 refine AT (B hh ?_);dsimp only;by_cases hr:hint<cut
 .simp only[hr,Kf,Dw]
  refine AT (Hq (Fu (I:=λx c st'=>st'=st/\∃ a b,c=(none,a,b)/\hint+a<cut/\a<b/\x<b)
   (Q:=λc st'=>st'=st/\∃ a b,c=(none,a,b)/\hint+a<cut/\cut<=hint+min b (n-hint)) ?_ ?_ ⟨rfl,0,1,rfl,hr,by lia,by lia⟩) ?_)
  .rintro x c st' _ hx ⟨rfl,a,b,rfl,q1,q2,q3⟩
   dsimp only;by_cases g:b>=n-hint
   .rw[Bl g];exact Br ⟨rfl,a,b,rfl,q1,by lia⟩
   .rw[Bm g]
    refine AT (B (by lia) ?_)
    by_cases z:hint+b<cut
    .simp only[z,Kf,Ku,By,Ef]
     exact Br ⟨rfl,_,_,rfl,z,by lia,by lia⟩
    .simp only[z,Ki,Vb,Dw]
     exact Br ⟨rfl,a,b,rfl,q1,by lia⟩
  .rintro c st' ⟨rfl,a,b,rfl,q1,q2,q3⟩
   exact⟨rfl,a,b,rfl,q1,by lia⟩
  .rintro c st' ⟨rfl,a,b,rfl,q1,q2⟩
   dsimp only;refine AT (Hq (bin (lo:=hint+a+1) (hi:=hint+min b (n-hint)) (by lia) q2 (by lia) λ_ _ _=>rfl) ?_)
   rintro c st' ⟨rfl,a',rfl⟩;exact Br h
 .simp only[hr,Ki,By,Ef]
  refine AT (Hq (Fu (I:=λx c st'=>st'=st/\∃ a b,c=(none,a,b)/\cut+a<=hint/\a<b/\x<b)
   (Q:=λc st'=>st'=st/\∃ a b,c=(none,a,b)/\cut+a<=hint/\hint+1<=cut+min b (hint+1)) ?_ ?_ ⟨rfl,0,1,rfl,by lia,by lia,by lia⟩) ?_)
  .rintro x c st' _ hx ⟨rfl,a,b,rfl,q1,q2,q3⟩
   dsimp only;by_cases g:b>=hint+1
   .rw[Bl g];exact Br ⟨rfl,a,b,rfl,q1,by lia⟩
   .rw[Bm g]
    refine AT (B (by lia) ?_)
    by_cases z:hint-b<cut
    .simp only[z,Kf,Dw]
     exact Br ⟨rfl,a,b,rfl,q1,by lia⟩
    .simp only[z,Ki,By,Ef]
     exact Br ⟨rfl,_,_,rfl,by lia,by lia,by lia⟩
  .rintro c st' ⟨rfl,a,b,rfl,q1,q2,q3⟩
   exact⟨rfl,a,b,rfl,q1,by lia⟩
  .rintro c st' ⟨rfl,a,b,rfl,q1,q2⟩
   dsimp only;refine AT (Hq (bin (lo:=hint+1-min b (hint+1)) (hi:=hint-a) (by lia) (by lia) (by lia) λ_ _ _=>rfl) ?_)
   rintro c st' ⟨rfl,a',rfl⟩;exact Br h
end
def Le (r:Bs->Al)(x y:Bs):Prop:=r x<=r y
structure Mg (r:Bs->Al)(o A B T:Aa Bs):Prop where
 p1:(o++A).Pairwise (Le r)
 p2:(o++B).Pairwise (Le r)
 pm:(o++A++B).Perm T
structure Mh (r:Bs->Al)(A B o T:Aa Bs):Prop where
 p1:(A++o).Pairwise (Le r)
 p2:(B++o).Pairwise (Le r)
 pm:(A++B++o).Perm T
section
variable {r:Bs->Al}{o A B A1 A2 B1 B2 T:Aa Bs}
theorem Mg.b (h:Mg r o A (B1++B2) T)(l:∀ x∈B1,∀ y∈A,Le r x y):Mg r (o++B1) A B2 T:=by
 obtain⟨p1,p2,pm⟩:=h;refine⟨?_,by rw[Cp];exact p2,?_⟩
 .rw[Cp]
  rw[Dt] at p1 p2 ⊢;refine⟨p1.1,?_,λx hx y hy=>?_⟩
  .rw[Dt]
   exact⟨(Dt.mp p2.2.1).1,p1.2.1,l⟩
  .rcases Cq.mp hy with hy|hy
   .exact p2.2.2 x hx y (Df _ hy)
   .exact p1.2.2 x hx y hy
 .refine Mr ?_ pm
  simp only[Cp];refine Hz _ ?_;simp only[<- Cp];exact Kw _ Lf
theorem Mg.a (h:Mg r o (A1++A2) B T)(l:∀ x∈A1,∀ y∈B,Le r x y):Mg r (o++A1) A2 B T:=by
 obtain⟨p1,p2,pm⟩:=h;refine⟨by rw[Cp];exact p1,?_,by simpa only [Cp] using pm⟩
 rw[Cp];rw[Dt] at p1 p2 ⊢;refine⟨p2.1,?_,λx hx y hy=>?_⟩
 .rw[Dt]
  exact⟨(Dt.mp p1.2.1).1,p2.2.1,l⟩
 .rcases Cq.mp hy with hy|hy
  .exact p1.2.2 x hx y (Df _ hy)
  .exact p2.2.2 x hx y hy
theorem Mh.a (h:Mh r (A1++A2) B o T)(l:∀ x∈B,∀ y∈A2,Le r x y):Mh r A1 B (A2++o) T:=by
 obtain⟨p1,p2,pm⟩:=h;refine⟨by rw[<- Cp];exact p1,?_,?_⟩
 .rw[Cp] at p1
  rw[Dt] at p1 p2 ⊢;refine⟨p2.1,p1.2.1,λx hx y hy=>?_⟩;rcases Cq.mp hy with hy|hy
  .exact l x hx y hy
  .exact p2.2.2 x hx y hy
 .refine Mr ?_ pm
  simp only[Cp];refine Hz _ ?_;simp only[<- Cp];exact Kw _ Lf
theorem Mh.b (h:Mh r A (B1++B2) o T)(l:∀ x∈A,∀ y∈B2,Le r x y):Mh r A B1 (B2++o) T:=by
 obtain⟨p1,p2,pm⟩:=h;refine⟨?_,by rw[<- Cp];exact p2,by simpa only [Cp] using pm⟩
 rw[Cp] at p2;rw[Dt] at p1 p2 ⊢;refine⟨p1.1,p2.2.1,λx hx y hy=>?_⟩;rcases Cq.mp hy with hy|hy
 .exact l x hx y hy
 .exact p1.2.2 x hx y hy
end
structure Mo (r:Bs->Al)(T:Aa Bs)(m:Ax Bs):Prop where
 pm:m.toList.Perm T
 up:m.toList.Pairwise (Le r)
noncomputable abbrev vE (st:Gg)(g:Ai):Gg:=Dh (kindOf st) (arrOf st) (pendingOf st) g (failedOf st)
theorem mW {a:Ax Bs}{i:Ai}(h:i<a.size):a.toList.drop i=a.getD i nv::a.toList.drop (i+1):=by
 rw[Hx (by simpa using h)]
 congr 1
 simp[Gr,h]
theorem zL {a:Ax Bs}{i:Ai}(h:i<a.size):a.getD i nv∈a.toList:=by
 have e:a.getD i nv=a[i]:=by simp[Gr,h]
 rw[e];exact Array.getElem_mem_toList h
theorem y7 {r:Bs->Al}{a:Ax Bs}(s:a.toList.Pairwise (Le r)){i j:Ai}(h:i<=j)(hj:j<a.size):r (a.getD i nv)<=r (a.getD j nv):=by
 rcases Nat.lt_or_ge i j with l|l
 .have e:=Js.mp s i j (by simpa using Im l hj) (by simpa using hj) l
  have hi:i<a.size:=Im l hj;simpa [Gr,hi,hj,Le] using e
 .rw[T0 h l];exact Ms _
theorem gF {a:Ax Bs}{i:Ai}{x:Bs}(h:x∈a.toList.drop i):∃ j,i<=j/\j<a.size/\x=a.getD j nv:=by
 obtain⟨k,hk,e⟩:=Cu.mp h;rw[Rh] at e;have hk':k<a.size-i:=by simpa using hk
 refine⟨i+k,by lia,by lia,?_⟩
 have:i+k<a.size:=by lia
 simp[Gr,this,<- e]
theorem gH {a:Ax Bs}{x:Bs}(h:x∈a.toList.take n):∃ j,j<n/\j<a.size/\x=a.getD j nv:=by
 obtain⟨k,hk,e⟩:=Cu.mp h;rw[Rg] at e;have hk':k<n/\k<a.size:=by rw[El,Bg] at hk;lia
 refine⟨k,hk'.1,hk'.2,?_⟩;simp[Gr,hk'.2,<- e]
theorem bV {a:Ax Bs}{i k:Ai}:(a.extract i (i+k)).toList++a.toList.drop (i+k)=a.toList.drop i:=by
 rw[Jw,HT,Kk,<- List.drop_drop];exact OI _ _
theorem pR {a:Ax Bs}{i:Ai}:(a.extract i a.size).toList=a.toList.drop i:=by
 rw[Jw,HT];exact Gm (by simp)
theorem tP {a:Ax Bs}{i k:Ai}{x:Bs}(h:x∈(a.extract i (i+k)).toList):∃ j,i<=j/\j<i+k/\j<a.size/\x=a.getD j nv:=by
 rw[Jw,HT,Kk] at h;obtain⟨m,hm,e⟩:=Cu.mp h;rw[Rg,Rh] at e;have hm':m<k/\i+m<a.size:=by rw[El,Hw,Bg] at hm;lia
 refine⟨i+m,by lia,by lia,hm'.2,?_⟩
 simp[Gr,hm'.2,<- e]
def GL (r:Bs->Al)(a b o:Ax Bs)(i j:Ai):Prop:=Mg r o.toList (a.toList.drop i) (b.toList.drop j) (a.toList++b.toList)
section
variable {r:Bs->Al}{a b o:Ax Bs}{i j k:Ai}
theorem GL.pb (sa:a.toList.Pairwise (Le r))(h:GL r a b o i j)(hj:j<b.size)(l:i<a.size->r (b.getD j nv)<=r (a.getD i nv)):GL r a b (o.push (b.getD j nv)) i (j+1):=by
 have h':Mg r o.toList (a.toList.drop i) ([b.getD j nv]++b.toList.drop (j+1)) (a.toList++b.toList):=by rw[Uo,<- mW hj];exact h
 have:=h'.b λx hx y hy=>by
  cases Dq.mp hx;obtain⟨m,h1,h2,rfl⟩:=gF hy;exact Fv (l (by lia)) (y7 sa h1 h2)
 unfold GL;rw[Er];exact this
theorem GL.pa (sb:b.toList.Pairwise (Le r))(h:GL r a b o i j)(hi:i<a.size)(l:j<b.size->r (a.getD i nv)<=r (b.getD j nv)):GL r a b (o.push (a.getD i nv)) (i+1) j:=by
 have h':Mg r o.toList ([a.getD i nv]++a.toList.drop (i+1)) (b.toList.drop j) (a.toList++b.toList):=by rw[Uo,<- mW hi];exact h
 have:=h'.a λx hx y hy=>by
  cases Dq.mp hx;obtain⟨m,h1,h2,rfl⟩:=gF hy;exact Fv (l (by lia)) (y7 sb h1 h2)
 unfold GL;rw[Er];exact this
theorem GL.ea (sb:b.toList.Pairwise (Le r))(h:GL r a b o i j)(hj:j<b.size)(l:∀ m,m<k->r (a.getD (i+m) nv)<=r (b.getD j nv)):GL r a b (o++a.extract i (i+k)) (i+k) j:=by
 have h':Mg r o.toList ((a.extract i (i+k)).toList++a.toList.drop (i+k)) (b.toList.drop j) (a.toList++b.toList):=by rw[bV];exact h
 have:=h'.a λx hx y hy=>by
  obtain⟨m,h1,h2,h3,rfl⟩:=tP hx;obtain⟨m',h4,h5,rfl⟩:=gF hy;have:=l (m-i) (by lia)
  rw[show i+(m-i)=m by lia] at this
  exact Fv this (y7 sb h4 h5)
 unfold GL;rw[Ds];exact this
theorem GL.eb (sa:a.toList.Pairwise (Le r))(h:GL r a b o i j)(hi:i<a.size)(l:∀ m,m<k->r (b.getD (j+m) nv)<=r (a.getD i nv)):GL r a b (o++b.extract j (j+k)) i (j+k):=by
 have h':Mg r o.toList (a.toList.drop i) ((b.extract j (j+k)).toList++b.toList.drop (j+k)) (a.toList++b.toList):=by rw[bV];exact h
 have:=h'.b λx hx y hy=>by
  obtain⟨m,h1,h2,h3,rfl⟩:=tP hx;obtain⟨m',h4,h5,rfl⟩:=gF hy;have:=l (m-j) (by lia)
  rw[show j+(m-j)=m by lia] at this
  exact Fv this (y7 sa h4 h5)
 unfold GL;rw[Ds];exact this
theorem GL.fin (h:GL r a b o i j)(e:i=a.size\/j=b.size):Mo r (a.toList++b.toList) (o++a.extract i a.size++b.extract j b.size):=by
 refine⟨?_,?_⟩ <;> rw[Ds,Ds,pR,pR]
 .exact h.pm
 .rcases e with rfl|rfl
  .rw[Ob (by simp),Fx];exact h.p2
  .rw[Ob (l:=b.toList) (by simp),Fx];exact h.p1
theorem GL.last (h:GL r a b o i j)(e:i+1=a.size)(l:∀ x∈b.toList,Le r x (a.getD (a.size-1) nv)):Mo r (a.toList++b.toList) (o++b.extract j b.size++a.extract i a.size):=by
 have hi:i<a.size:=by lia
 have hd:a.toList.drop i=[a.getD i nv]:=by rw[mW hi,Ob (by simp;lia)]
 refine⟨?_,?_⟩ <;> rw[Ds,Ds,pR,pR]
 .refine Mr ?_ h.pm
  rw[Cp,Cp];exact Hz _ Lf
 .have p1:=h.p1
  rw[hd] at p1 ⊢;rw[Dt] at p1 ⊢;refine⟨h.p2,Sz _ _,λx hx y hy=>?_⟩;rcases Cq.mp hx with hx|hx
  .exact p1.2.2 x hx y hy
  .cases Dq.mp hy
   have:=l x (Lq hx);rw[show a.size-1=i by lia] at this
   exact this
end
theorem sD {p:Ai->Aq}:∀ (n:Ai),(∀ i j,i<=j->j<n->p j=true->p i=true)->∃ c,c<=n/\∀ i,i<n->p i=decide (i<c)
 |0,_=>⟨0,Au _,λi h=>by lia⟩
 |n+1,h=>by
  obtain⟨c,hc,e⟩:=sD n λi j a b=>h i j a (by lia)
  by_cases q:p n=true
  .refine⟨n+1,Au _,λi hi=>?_⟩
   rw[h i n (by lia) (by lia) q]
   simp[hi]
  .refine⟨c,by lia,λi hi=>?_⟩
   rcases Nat.lt_or_ge i n with l|l
   .exact e i l
   .have:i=n:=by lia
    subst this;have:¬ i<c:=by lia
    simp[this,q]
section
variable {M:Kz}{A:Bt}{E:Ac->Ag->Prop}{s:Ag}{κ : Mq}{U:Bs->Prop}{r:Bs->Al}
theorem qP {σ α:Type}{c:Prop}[Jk c]{x y:OH σ Ky α}{Q:α->σ->Prop}{st:σ}(h1:c->wpS M A E s x Q st)(h2:¬ c->wpS M A E s y Q st):wpS M A E s (if c then x else y) Q st:=by
 by_cases h:c
 .rw[Bl h];exact h1 h
 .rw[Bm h];exact h2 h
theorem YG (C:Cm M A s κ U r){key:Bs}{arr:Ax Bs}{base n hint:Ai}{Q:Ak Ai->Gg->Prop}{st:Gg}(hk:kindOf st=κ)(hh:hint<n)(hb:base+n<=arr.size)(hU:∀ i,i<n->U (arr.getD (base+i) nv))(hkU:U key)
  (sa:∀ i j,i<=j->j<n->r (arr.getD (base+i) nv)<=r (arr.getD (base+j) nv)) (h:∀ c,c<=n->(∀ i,i<c->r (arr.getD (base+i) nv)<=r key)->(∀ i,c<=i->i<n->r key<r (arr.getD (base+i) nv))->Q (Ab c) st):wpS M A E s (tE false key arr base n hint) Q st:=by
 obtain⟨c,hc,e⟩:=sD (p:=λi=>!decide (r key<r (arr.getD (base+i) nv))) n λi j a b q=>by
  have:=sa i j a b;simp only[Nu,Ip] at q ⊢
  lia
 refine mJ C hk hh hb hU hkU hc (λi hi=>by simpa using e i hi) (h c hc (λi hi=>?_) λi hi hn=>?_)
 .have:=e i (by lia)
  simp only[hi,Kf,Nu,Ip] at this
  lia
 .have:=e i hn
  simp only[show ¬ i<c by lia,Ki,Bool.not_eq_false',Bv] at this
  exact this
theorem YH (C:Cm M A s κ U r){key:Bs}{arr:Ax Bs}{base n hint:Ai}{Q:Ak Ai->Gg->Prop}{st:Gg}(hk:kindOf st=κ)(hh:hint<n)(hb:base+n<=arr.size)(hU:∀ i,i<n->U (arr.getD (base+i) nv))(hkU:U key)
  (sa:∀ i j,i<=j->j<n->r (arr.getD (base+i) nv)<=r (arr.getD (base+j) nv)) (h:∀ c,c<=n->(∀ i,i<c->r (arr.getD (base+i) nv)<r key)->(∀ i,c<=i->i<n->r key<=r (arr.getD (base+i) nv))->Q (Ab c) st):wpS M A E s (tE true key arr base n hint) Q st:=by
 obtain⟨c,hc,e⟩:=sD (p:=λi=>decide (r (arr.getD (base+i) nv)<r key)) n λi j a b q=>by
  have:=sa i j a b;simp only[Bv] at q ⊢
  lia
 refine mJ C hk hh hb hU hkU hc (λi hi=>by simpa using e i hi) (h c hc (λi hi=>?_) λi hi hn=>?_)
 .have:=e i (by lia)
  simp only[hi,Kf,Bv] at this;exact this
 .have:=e i hn
  simp only[show ¬ i<c by lia,Ki,Ip] at this
  lia
end
section
variable {M:Kz}{A:Bt}{E:Ac->Ag->Prop}{s:Ag}{σ α γ δ:Type}{Q:α->σ->Prop}{st:σ}{c c' c2:Prop}[Jk c][Jk c'][Jk c2]
theorem aS {K:γ->OH σ Ky α}{x y:γ}(h:∀ z,wpS M A E s (K z) Q st):wpS M A E s (if c then K x else K y) Q st:=qP (λ_=>h x) λ_=>h y
theorem W3 {K:γ->δ->OH σ Ky α}{u:OH σ Ky α}{x y:γ}{w v:δ}(P:γ->δ->Prop)(hK:∀ z w,P z w->wpS M A E s (K z w) Q st)(h1:c->c'->wpS M A E s u Q st)(h2:c->¬ c'->P x w)(h3:¬ c->P y v):wpS M A E s (if c then (if c' then u else K x w) else K y v) Q st:=qP (λe=>qP (h1 e) λe'=>hK _ _ (h2 e e')) λe=>hK _ _ (h3 e)
theorem W4 {K:γ->δ->OH σ Ky α}{u u':OH σ Ky α}{x y:γ}{w v:δ}(P:γ->δ->Prop)(hK:∀ z w,P z w->wpS M A E s (K z w) Q st)(h1:c->c'->wpS M A E s u Q st)(h1':c->¬ c'->c2->wpS M A E s u' Q st)(h2:c->¬ c'->¬ c2->P x w)(h3:¬ c->P y v):wpS M A E s (if c then (if c' then u else if c2 then u' else K x w) else K y v) Q st:=qP (λe=>qP (h1 e) λe'=>qP (h1' e e') λe2=>hK _ _ (h2 e e' e2)) λe=>hK _ _ (h3 e)
end
section
variable {prog:Bd}{w:Bz}{A:Bt}{E:Ac->Ag->Prop}{s:Ag}{κ : Mq}{U:Bs->Prop}{r:Bs->Al}
theorem eU (C:Cm (As prog w) A s κ U r){a b:Ax Bs}{Q:Ax Bs->Gg->Prop}{st:Gg}(hk:kindOf st=κ)(ua:∀ x∈a.toList,U x)(ub:∀ x∈b.toList,U x)(sa:a.toList.Pairwise (Le r))(sb:b.toList.Pairwise (Le r))
  (h:∀ m g,Mo r (a.toList++b.toList) m->Q m (vE st g)) (ha:0<a.size) (hb:0<b.size) (h0:r (b.getD 0 nv)<=r (a.getD 0 nv)) (h1:∀ x∈b.toList,Le r x (a.getD (a.size-1) nv)):wpS (As prog w) A E s (V6 a b) Q st:=by
 have G0:GL r a b #[] 0 0:=⟨by simpa using sa,by simpa using sb,by simp⟩
 have G1:=G0.pb sa hb λ_=>h0;refine AT (Qs (Hd ⟨rfl,?_⟩));refine AT (zB hb ?_);dsimp only;refine qP (λe=>Br (h _ (TD st) (G1.fin (.inr (by simpa using e))))) λe1=>?_
 refine qP (λe=>Br (h _ (TD st) (G1.last (by simpa using e) h1))) λe2=>?_
 have e1:1<b.size:=by
  have:¬ 1=b.size:=by simpa using e1
  lia
 have e2:0+1<a.size:=by
  have:¬ 0+1=a.size:=by simpa using e2
  lia
 refine AT (Nk ?_);refine AT (Hq (Fu (I:=λx c st'=>(∃ g,st'=vE st g)/\∃ o i j g,c=(none,o,i,j,g)/\GL r a b o i j/\i+1<a.size/\j<b.size/\x<i+j)
  (Q:=λc st'=>(∃ g,st'=vE st g)/\∃ m,c.1=Ab m/\Mo r (a.toList++b.toList) m) ?_ ?_ ⟨⟨TD st,rfl⟩,_,0,1,_,rfl,G1,e2,e1,by lia⟩) ?_)
 .rintro x c st' _ hx ⟨⟨g,rfl⟩,o,i,j,mg,rfl,G,hi,hj,hp⟩
  dsimp only;refine AT (Hq (Fu (I:=λy c st'=>(∃ g,st'=vE st g)/\∃ o i' j' p q,c=(none,o,i',j',p,q)/\GL r a b o i' j'/\i'+1<a.size/\j'<b.size/\i+j+y<=i'+j')
   (Q:=λc st'=>(∃ g,st'=vE st g)/\((∃ m,c.1=Ab m/\Mo r (a.toList++b.toList) m)\/∃ o i' j' p q,c=(none,o,i',j',p,q)/\GL r a b o i' j'/\i'+1<a.size/\j'<b.size/\x+1<i'+j')) ?_ ?_ ⟨⟨g,rfl⟩,o,i,j,0,0,rfl,G,hi,hj,by lia⟩) ?_)
  .rintro y c st' _ hy ⟨⟨g,rfl⟩,o,i',j',p,q,rfl,G,hi,hj,hq⟩
   dsimp only;refine AT (zB hj (AT (zB (i:=i') (by lia) (AT (C.lt (ub _ (zL hj)) (ua _ (zL (i:=i') (by lia))) hk ?_)))))
   dsimp only;refine qP (λl=>?_) λl=>?_
   .have l:r (b.getD j' nv)<r (a.getD i' nv):=by simpa using l
    have G2:=G.pb sa hj λ_=>Hs l;refine AT (zB hj ?_);refine qP (λe=>?_) λe=>?_
    .exact Br ⟨⟨g,rfl⟩,.inl ⟨_,rfl,G2.fin (.inr (by simpa using e))⟩⟩
    .have e:¬ j'+1=b.size:=by simpa using e
     refine qP (λ_=>?_) λ_=>?_
     .exact Br ⟨⟨g,rfl⟩,.inr ⟨_,_,_,_,_,rfl,G2,hi,by lia,by lia⟩⟩
     .exact Br ⟨⟨g,rfl⟩,_,_,_,_,_,rfl,G2,hi,by lia,by lia⟩
   .have l:¬ r (b.getD j' nv)<r (a.getD i' nv):=by simpa using l
    have G2:=G.pa sb (by lia) λ_=>sK.mp l
    refine AT (zB (i:=i') (by lia) ?_)
    refine qP (λe=>?_) λe=>?_
    .exact Br ⟨⟨g,rfl⟩,.inl ⟨_,rfl,G2.last (by simpa using e) h1⟩⟩
    .have e:¬ i'+1+1=a.size:=by simpa using e
     refine qP (λ_=>?_) λ_=>?_
     .exact Br ⟨⟨g,rfl⟩,.inr ⟨_,_,_,_,_,rfl,G2,by lia,hj,by lia⟩⟩
     .exact Br ⟨⟨g,rfl⟩,_,_,_,_,_,rfl,G2,by lia,hj,by lia⟩
  .rintro c st' ⟨z,o,i',j',p,q,rfl,G,hi,hj,hq⟩
   exact⟨z,.inr ⟨_,_,_,_,_,rfl,G,hi,hj,by lia⟩⟩
  .rintro c st' ⟨⟨g,rfl⟩,⟨m,hc,hm⟩|⟨o,i',j',p,q,rfl,G,hi,hj,hq⟩⟩
   .obtain⟨c0,c1⟩:=c
    cases hc;exact Br ⟨⟨g,rfl⟩,m,rfl,hm⟩
   dsimp only;refine AT (Qs (Hd ⟨rfl,?_⟩));refine AT (Hq (Fu (I:=λy c st'=>(∃ g,st'=vE st g)/\∃ o i' j' p q t,c=(none,o,i',j',p,q,t)/\GL r a b o i' j'/\i'+1<a.size/\j'<b.size/\x+1<i'+j')
    (Q:=λc st'=>(∃ g,st'=vE st g)/\((∃ m,c.1=Ab m/\Mo r (a.toList++b.toList) m)\/∃ o i' j' p q t,c=(none,o,i',j',p,q,t)/\GL r a b o i' j'/\i'+1<a.size/\j'<b.size/\x+1<i'+j')) ?_ ?_ ⟨⟨g,rfl⟩,o,i',j',_,_,_,rfl,G,hi,hj,hq⟩) ?_)
   .rintro y c st' _ hy ⟨⟨g,rfl⟩,o,i,j,p,q,t,rfl,G,hi,hj,hq⟩
    dsimp only;generalize p-1=p1;apply aS (x:=p1) (y:=p);intro mg;have hi0:i<a.size:=Rl hi;refine AT (Jj ?_);refine AT (zB hj ?_);refine AT (YG C hk (Rm hi0) (Xj (Wd (Fd hi0))) (λi' hi'=>ua _ (zL (Lg hi'))) (ub _ (zL hj)) (λi' j' h1 h2=>y7 sa (Iw h1 _) (Lg h2)) λk k1 k2 k3=>?_);dsimp only;have G2:=G.ea sb hj k2;have k4:i+k<=a.size:=Uq (Fd hi0) k1;have k5:i+k<a.size->r (b.getD j nv)<r (a.getD (i+k) nv):=λh=>k3 k (Au _) (Vh (by rw[Sn];exact h))
    have k6:x+1<i+k+j:=Bb hq (Vi (Hy _ _) _);have k7:k=0->i=i+k:=λh=>by rw[h];rfl
    generalize i+k=i1 at G2 k4 k5 k6 k7 ⊢;generalize o++a.extract i i1=o1 at G2 ⊢;apply W4 (x:=o1) (w:=i1) (y:=o) (v:=i) (P:=λout ia=>GL r a b out ia j/\ia+1<a.size/\x+1<ia+j/\r (b.getD j nv)<r (a.getD ia nv))
    case h1=>exact λ_ e=>Br ⟨⟨_,rfl⟩,.inl ⟨_,rfl,G2.last (by simpa using e) h1⟩⟩
    case h1'=>exact λ_ _ e=>Br ⟨⟨_,rfl⟩,.inl ⟨_,rfl,G2.fin (.inl (by simpa using e))⟩⟩
    case h2 =>
     intro _ e3 e4;have e3:¬ i1+1=a.size:=by simpa using e3
     have e4:¬ i1=a.size:=by simpa using e4
     have e5:i1<a.size:=Ic k4 e4;exact⟨G2,Ic e5 e3,k6,k5 e5⟩
    case h3 =>
     intro e;have e:=k7 (Kx e);exact⟨G,hi,hq,by rw[e];exact k5 (by rw[<- e];exact hi0)⟩
    case hK =>
     rintro out ia ⟨G2,hl,hq,hc⟩;have ha0:ia<a.size:=Rl hl;refine AT (zB hj ?_);have G3:=G2.pb sa hj λ_=>Hs hc;refine qP (λe=>Br ⟨⟨_,rfl⟩,.inl ⟨_,rfl,G3.fin (.inr (by simpa using e))⟩⟩) λe5=>?_
     have e5:¬ j+1=b.size:=by simpa using e5
     have hj1:j+1<b.size:=Ic hj e5;refine AT (zB ha0 ?_);refine AT (YH C hk (Rm hj1) (Xj (Wd hj)) (λi hi=>ub _ (zL (Lg hi))) (ua _ (zL ha0)) (λi j h1 h2=>y7 sb (Iw h1 _) (Lg h2)) λm m1 m2 m3=>?_);dsimp only;have G4:=G3.eb sa ha0 λi hi=>Hs (m2 i hi);have m4:j+1+m<=b.size:=Uq hj m1;have m5:j+1+m<b.size->r (a.getD ia nv)<=r (b.getD (j+1+m) nv):=λh=>m3 m (Au _) (Vh (by rw[Sn];exact h))
     have m6:j+1<=j+1+m:=Hy _ _;have m7:m=0->j+1=j+1+m:=λh=>by rw[h]
     generalize j+1+m=j1 at G4 m4 m5 m6 m7 ⊢;generalize out.push (b.getD j nv)++b.extract (j+1) j1=o2 at G4 ⊢;apply W3 (x:=o2) (w:=j1) (y:=out.push (b.getD j nv)) (v:=j+1) (P:=λout ib=>GL r a b out ia ib/\ib<b.size/\j+1<=ib/\r (a.getD ia nv)<=r (b.getD ib nv))
     case h1=>exact λ_ e=>Br ⟨⟨_,rfl⟩,.inl ⟨_,rfl,G4.fin (.inr (by simpa using e))⟩⟩
     case h2 =>
      intro _ e6;have e6:¬ j1=b.size:=by simpa using e6
      have e7:=Ic m4 e6;exact⟨G4,e7,m6,m5 e7⟩
     case h3 =>
      intro e;have e:=m7 (Kx e);exact⟨G3,hj1,Au _,by rw[e];exact m5 (by rw[<- e];exact hj1)⟩
     case hK =>
      rintro out ib ⟨G4,hb1,hb2,hc4⟩;refine AT (zB ha0 ?_);have G5:=G4.pa sb ha0 λ_=>hc4;refine qP (λe=>Br ⟨⟨_,rfl⟩,.inl ⟨_,rfl,G5.last (by simpa using e) h1⟩⟩) λe7=>?_
      have e7:¬ ia+1+1=a.size:=by simpa using e7
      have e8:ia+1+1<a.size:=Ic hl e7;have e9:x+1<ia+1+ib:=Bb hq (v4 (Qo _) (Nat.le_of_succ_le hb2));exact qP (λ_=>Br ⟨⟨_,rfl⟩,.inr ⟨_,_,_,_,_,_,rfl,G5,e8,hb1,e9⟩⟩) λ_=>Br ⟨⟨_,rfl⟩,_,_,_,_,_,_,rfl,G5,e8,hb1,e9⟩
   .rintro c st' ⟨z,o,i',j',p,q,t,rfl,G,hi,hj,hq⟩
    exact⟨z,.inr ⟨_,_,_,_,_,_,rfl,G,hi,hj,by lia⟩⟩
   .rintro c st' ⟨⟨g,rfl⟩,⟨m,hc,hm⟩|⟨o,i',j',p,q,t,rfl,G,hi,hj,hq⟩⟩
    .obtain⟨c0,c1⟩:=c
     cases hc;exact Br ⟨⟨g,rfl⟩,m,rfl,hm⟩
    dsimp only;refine AT (Jj ?_);exact Br ⟨⟨_,rfl⟩,_,_,_,_,rfl,G,hi,hj,by lia⟩
 .rintro c st' ⟨z,o,i',j',p,rfl,G,hi,hj,hq⟩
  exfalso
  lia
 .rintro c st' ⟨⟨g,rfl⟩,m,hc,hm⟩
  obtain⟨c0,c1⟩:=c;cases hc;exact Br (h m g hm)
end
theorem nH {a:Ax Bs}(h:0<n)(hn:n<=a.size):a.toList.take n=a.toList.take (n-1)++[a.getD (n-1) nv]:=by
 obtain⟨m,rfl⟩:∃ m,n=m+1:=⟨n-1,by lia⟩
 rw[Nat.add_sub_cancel,List.take_add_one];have hm:m<a.size:=by lia
 simp[Gr,hm]
theorem sN {a:Ax Bs}{i:Ai}(h:i<=n):a.toList.take i++(a.extract i n).toList=a.toList.take n:=by
 rw[Jw,HT]
 conv=>rhs;rw[show n=i+(n-i) by lia,List.take_add]
theorem kW {a:Ax Bs}:(a.extract 0 n).toList=a.toList.take n:=by
 rw[Jw,HT];simp
theorem gG {a:Ax Bs}{i:Ai}{x:Bs}(hn:i<=n)(h:x∈(a.extract i n).toList):∃ j,i<=j/\j<n/\j<a.size/\x=a.getD j nv:=by
 obtain⟨k,rfl⟩:∃ k,n=i+k:=⟨n-i,by lia⟩
 exact tP h
def GH (r:Bs->Al)(a b o:Ax Bs)(i j:Ai):Prop:=Mh r (a.toList.take i) (b.toList.take j) o.toList.reverse (a.toList++b.toList)
section
variable {r:Bs->Al}{a b o:Ax Bs}{i j k:Ai}
theorem GH.pa (sb:b.toList.Pairwise (Le r))(h:GH r a b o i j)(h1:0<i)(h2:i<=a.size)(hj:j<=b.size)(l:0<j->r (b.getD (j-1) nv)<=r (a.getD (i-1) nv)):GH r a b (o.push (a.getD (i-1) nv)) (i-1) j:=by
 have h':Mh r (a.toList.take (i-1)++[a.getD (i-1) nv]) (b.toList.take j) o.toList.reverse (a.toList++b.toList):=by rw[<- nH h1 h2];exact h
 have:=h'.a λx hx y hy=>by
  cases Dq.mp hy;obtain⟨m,q1,q2,rfl⟩:=gH hx;exact Fv (y7 sb (by lia) (by lia)) (l (by lia))
 unfold GH;rw[Er,Me];exact this
theorem GH.pb (sa:a.toList.Pairwise (Le r))(h:GH r a b o i j)(h1:0<j)(h2:j<=b.size)(hi:i<=a.size)(l:0<i->r (a.getD (i-1) nv)<=r (b.getD (j-1) nv)):GH r a b (o.push (b.getD (j-1) nv)) i (j-1):=by
 have h':Mh r (a.toList.take i) (b.toList.take (j-1)++[b.getD (j-1) nv]) o.toList.reverse (a.toList++b.toList):=by rw[<- nH h1 h2];exact h
 have:=h'.b λx hx y hy=>by
  cases Dq.mp hy;obtain⟨m,q1,q2,rfl⟩:=gH hx;exact Fv (y7 sa (by lia) (by lia)) (l (by lia))
 unfold GH;rw[Er,Me];exact this
theorem GH.ea (sb:b.toList.Pairwise (Le r))(h:GH r a b o i j)(hk:k<=i)(hj:j<=b.size)(l:0<j->∀ m,k<=m->m<i->m<a.size->r (b.getD (j-1) nv)<=r (a.getD m nv)):GH r a b (o++(a.extract k i).reverse) k j:=by
 have h':Mh r (a.toList.take k++(a.extract k i).toList) (b.toList.take j) o.toList.reverse (a.toList++b.toList):=by rw[sN hk];exact h
 have:=h'.a λx hx y hy=>by
  obtain⟨m,q1,q2,rfl⟩:=gH hx;obtain⟨m',q3,q4,q5,rfl⟩:=gG hk hy;exact Fv (y7 sb (by lia) (by lia)) (l (by lia) m' q3 q4 q5)
 unfold GH;rw[Ds,Lr,Me,Vj];exact this
theorem GH.eb (sa:a.toList.Pairwise (Le r))(h:GH r a b o i j)(hk:k<=j)(hi:i<=a.size)(l:0<i->∀ m,k<=m->m<j->m<b.size->r (a.getD (i-1) nv)<=r (b.getD m nv)):GH r a b (o++(b.extract k j).reverse) i k:=by
 have h':Mh r (a.toList.take i) (b.toList.take k++(b.extract k j).toList) o.toList.reverse (a.toList++b.toList):=by rw[sN hk];exact h
 have:=h'.b λx hx y hy=>by
  obtain⟨m,q1,q2,rfl⟩:=gH hx;obtain⟨m',q3,q4,q5,rfl⟩:=gG hk hy;exact Fv (y7 sa (by lia) (by lia)) (l (by lia) m' q3 q4 q5)
 unfold GH;rw[Ds,Lr,Me,Vj];exact this
theorem GH.fin (h:GH r a b o i j)(e:i=0\/j=0):Mo r (a.toList++b.toList) (a.extract 0 i++b.extract 0 j++o.reverse):=by
 refine⟨?_,?_⟩ <;> rw[Ds,Ds,kW,kW,Lr]
 .exact h.pm
 .rcases e with rfl|rfl
  .rw[v6,Gw];exact h.p2
  .rw[v6,Fx];exact h.p1
theorem GH.first (h:GH r a b o i j)(e:j=1)(hb:0<b.size)(l:∀ x∈a.toList,Le r (b.getD 0 nv) x):Mo r (a.toList++b.toList) (b.extract 0 j++a.extract 0 i++o.reverse):=by
 subst e;have hd:b.toList.take 1=[b.getD 0 nv]:=by rw[nH (by lia) (by lia)];rfl
 refine⟨?_,?_⟩ <;> rw[Ds,Ds,kW,kW,Lr]
 .refine Mr ?_ h.pm
  exact Kw _ Lf
 .have p2:=h.p2
  rw[hd] at p2 ⊢;rw[Cp];rw[Dt] at p2 ⊢;refine⟨p2.1,h.p1,λx hx y hy=>?_⟩;rcases Cq.mp hy with hy|hy
  .cases Dq.mp hx
   exact l y (Ls hy)
  .exact p2.2.2 x hx y hy
end
section
variable {prog:Bd}{w:Bz}{A:Bt}{E:Ac->Ag->Prop}{s:Ag}{κ : Mq}{U:Bs->Prop}{r:Bs->Al}
theorem eS (C:Cm (As prog w) A s κ U r){a b:Ax Bs}{Q:Ax Bs->Gg->Prop}{st:Gg}(hk:kindOf st=κ)(ua:∀ x∈a.toList,U x)(ub:∀ x∈b.toList,U x)(sa:a.toList.Pairwise (Le r))(sb:b.toList.Pairwise (Le r))
  (h:∀ m g,Mo r (a.toList++b.toList) m->Q m (vE st g)) (ha:0<a.size) (hb:0<b.size) (h0:∀ x∈a.toList,Le r (b.getD 0 nv) x) (h1:r (b.getD (b.size-1) nv)<=r (a.getD (a.size-1) nv)):wpS (As prog w) A E s (V5 a b) Q st:=by
 have G0:GH r a b #[] a.size b.size:=by
  unfold GH;rw[Gm (by simp),Gm (by simp)]
  exact⟨by simpa using sa,by simpa using sb,by simp⟩
 have G1:=G0.pa sb ha (Au _) (Au _) λ_=>h1;refine AT (Qs (Hd ⟨rfl,?_⟩));refine AT (zB (i:=a.size-1) (by lia) ?_)
 dsimp only;refine qP (λe=>Br (h _ (TD st) (G1.fin (.inl (by simpa using e))))) λe1=>?_
 refine qP (λe=>Br (h _ (TD st) (G1.first (by simpa using e) hb h0))) λe2=>?_
 have e1:¬ a.size-1=0:=by simpa using e1
 have e2:¬ b.size=1:=by simpa using e2
 refine AT (Nk ?_);refine AT (Hq (Fu (I:=λx c st'=>(∃ g,st'=vE st g)/\∃ o i j g,c=(none,i,j,o,g)/\GH r a b o i j/\0<i/\i<=a.size/\1<j/\j<=b.size/\x+i+j<a.size+b.size)
  (Q:=λc st'=>(∃ g,st'=vE st g)/\∃ m,c.1=Ab m/\Mo r (a.toList++b.toList) m) ?_ ?_ ⟨⟨TD st,rfl⟩,_,a.size-1,b.size,_,rfl,G1,by lia,by lia,by lia,by lia,by lia⟩) ?_)
 .rintro x c st' _ hx ⟨⟨g,rfl⟩,o,i,j,mg,rfl,G,hi,hi2,hj,hj2,hp⟩
  dsimp only;refine AT (Hq (Fu (I:=λy c st'=>(∃ g,st'=vE st g)/\∃ o i' j' p q,c=(none,i',j',o,p,q)/\GH r a b o i' j'/\0<i'/\i'<=a.size/\1<j'/\j'<=b.size/\i'+j'+y<=i+j)
   (Q:=λc st'=>(∃ g,st'=vE st g)/\((∃ m,c.1=Ab m/\Mo r (a.toList++b.toList) m)\/∃ o i' j' p q,c=(none,i',j',o,p,q)/\GH r a b o i' j'/\0<i'/\i'<=a.size/\1<j'/\j'<=b.size/\x+1+i'+j'<a.size+b.size)) ?_ ?_ ⟨⟨g,rfl⟩,o,i,j,0,0,rfl,G,hi,hi2,hj,hj2,by lia⟩) ?_)
  .rintro y c st' _ hy ⟨⟨g,rfl⟩,o,i',j',p,q,rfl,G,hi,hi2,hj,hj2,hq⟩
   dsimp only;refine AT (zB (i:=j'-1) (by lia) (AT (zB (i:=i'-1) (by lia) (AT (C.lt (ub _ (zL (i:=j'-1) (by lia))) (ua _ (zL (i:=i'-1) (by lia))) hk ?_)))))
   dsimp only;refine qP (λl=>?_) λl=>?_
   .have l:r (b.getD (j'-1) nv)<r (a.getD (i'-1) nv):=by simpa using l
    have G2:=G.pa sb hi hi2 hj2 λ_=>Hs l;refine AT (zB (i:=i'-1) (by lia) ?_)
    refine qP (λe=>Br ⟨⟨g,rfl⟩,.inl ⟨_,rfl,G2.fin (.inl (by simpa using e))⟩⟩) λe=>?_
    have e:¬ i'-1=0:=by simpa using e
    exact qP (λ_=>Br ⟨⟨g,rfl⟩,.inr ⟨_,_,_,_,_,rfl,G2,by lia,by lia,hj,hj2,by lia⟩⟩) λ_=>Br ⟨⟨g,rfl⟩,_,_,_,_,_,rfl,G2,by lia,by lia,hj,hj2,by lia⟩
   .have l:¬ r (b.getD (j'-1) nv)<r (a.getD (i'-1) nv):=by simpa using l
    have G2:=G.pb sa (by lia) hj2 hi2 λ_=>sK.mp l
    refine AT (zB (i:=j'-1) (by lia) ?_)
    refine qP (λe=>Br ⟨⟨g,rfl⟩,.inl ⟨_,rfl,G2.first (by simpa using e) hb h0⟩⟩) λe=>?_
    have e:¬ j'-1=1:=by simpa using e
    exact qP (λ_=>Br ⟨⟨g,rfl⟩,.inr ⟨_,_,_,_,_,rfl,G2,hi,hi2,by lia,by lia,by lia⟩⟩) λ_=>Br ⟨⟨g,rfl⟩,_,_,_,_,_,rfl,G2,hi,hi2,by lia,by lia,by lia⟩
  .rintro c st' ⟨z,o,i',j',p,q,rfl,G,hi,hi2,hj,hj2,hq⟩
   exact⟨z,.inr ⟨_,_,_,_,_,rfl,G,hi,hi2,hj,hj2,by lia⟩⟩
  .rintro c st' ⟨⟨g,rfl⟩,⟨m,hc,hm⟩|⟨o,i',j',p,q,rfl,G,hi,hi2,hj,hj2,hq⟩⟩
   .obtain⟨c0,c1⟩:=c
    cases hc;exact Br ⟨⟨g,rfl⟩,m,rfl,hm⟩
   dsimp only;refine AT (Qs (Hd ⟨rfl,?_⟩));refine AT (Hq (Fu (I:=λy c st'=>(∃ g,st'=vE st g)/\∃ o i' j' p q t,c=(none,i',j',o,p,q,t)/\GH r a b o i' j'/\0<i'/\i'<=a.size/\1<j'/\j'<=b.size/\x+1+i'+j'<a.size+b.size)
    (Q:=λc st'=>(∃ g,st'=vE st g)/\((∃ m,c.1=Ab m/\Mo r (a.toList++b.toList) m)\/∃ o i' j' p q t,c=(none,i',j',o,p,q,t)/\GH r a b o i' j'/\0<i'/\i'<=a.size/\1<j'/\j'<=b.size/\x+1+i'+j'<a.size+b.size)) ?_ ?_ ⟨⟨g,rfl⟩,o,i',j',_,_,_,rfl,G,hi,hi2,hj,hj2,hq⟩) ?_)
   .rintro y c st' _ hy ⟨⟨g,rfl⟩,o,i,j,p,q,t,rfl,G,hi,hi2,hj,hj2,hq⟩
    dsimp only;generalize p-1=p1;apply aS (x:=p1) (y:=p);intro mg;refine AT (Jj ?_);have j0:0<j:=Rl hj;have jb:j-1<b.size:=Bb (Mf j0 Lh) hj2;refine AT (zB jb ?_);refine AT (YG C hk (Mf hi Lh) (by rw[Hj];exact hi2) (λi' hi'=>ua _ (zL (by rw[Hj];exact Bb hi' hi2))) (ub _ (zL jb)) (λi' j' h1 h2=>y7 sa (Iw h1 0) (by rw[Hj];exact Bb h2 hi2)) λk k1 k2 k3=>?_)
    simp only[Hj] at k2 k3;dsimp only;have G2:=G.ea sb k1 hj2 λ_ m q1 q2 _=>Hs (k3 m q1 q2);have kc:i-k=0->k=i:=λh=>T0 k1 (Ur h);generalize i-k=ac at kc ⊢;generalize o++(a.extract k i).reverse=o1 at G2 ⊢;apply W3 (x:=k) (w:=o1) (y:=i) (v:=o) (P:=λna out=>GH r a b out na j/\0<na/\na<=a.size/\x+1+na+j<a.size+b.size/\r (a.getD (na-1) nv)<=r (b.getD (j-1) nv))
    case h1=>exact λ_ e=>Br ⟨⟨_,rfl⟩,.inl ⟨_,rfl,G2.fin (.inl (by simpa using e))⟩⟩
    case hK =>
     rintro na out ⟨G2,hl,hl2,hq,hc⟩;have na1:na-1<a.size:=Bb (Mf hl Lh) hl2;refine AT (zB jb ?_);have G3:=G2.pb sa j0 hj2 hl2 λ_=>hc;refine qP (λe=>Br ⟨⟨_,rfl⟩,.inl ⟨_,rfl,G3.first (by simpa using e) hb h0⟩⟩) λe5=>?_
     have e5:¬ j-1=1:=by simpa using e5
     have j1:0<j-1:=Rm hj;refine AT (zB na1 ?_);refine AT (YH C hk (Mf j1 Lh) (by rw[Hj];exact Fd jb) (λi hi=>ub _ (zL (by rw[Hj];exact Im hi jb))) (ua _ (zL na1)) (λi j h1 h2=>y7 sb (Iw h1 0) (by rw[Hj];exact Im h2 jb)) λm m1 m2 m3=>?_)
     simp only[Hj] at m2 m3;dsimp only;have G4:=G3.eb sa m1 hl2 λ_ m q1 q2 _=>m3 m q1 q2;have mc:j-1-m=0->m=j-1:=λh=>T0 m1 (Ur h);generalize j-1-m=bc at mc ⊢;generalize out.push (b.getD (j-1) nv)++(b.extract m (j-1)).reverse=o2 at G4 ⊢;apply W4 (x:=m) (w:=o2) (y:=j-1) (v:=out.push (b.getD (j-1) nv)) (P:=λnb out=>GH r a b out na nb/\1<nb/\nb<=j-1/\r (b.getD (nb-1) nv)<=r (a.getD (na-1) nv))
     case h1=>exact λ_ e=>Br ⟨⟨_,rfl⟩,.inl ⟨_,rfl,G4.first (by simpa using e) hb h0⟩⟩
     case h1'=>exact λ_ _ e=>Br ⟨⟨_,rfl⟩,.inl ⟨_,rfl,G4.fin (.inr (by simpa using e))⟩⟩
     case hK =>
      rintro nb out ⟨G4,h4,h5,hc4⟩;have h6:nb<=b.size:=DL h5 (Fd jb);have hq2:x+1+(na-1)+nb<a.size+b.size:=Mz (v4 (Iw (Nat.sub_le _ _) _) (DL h5 (Nat.sub_le _ _))) hq;refine AT (zB na1 ?_);have G5:=G4.pa sb hl hl2 h6 λ_=>hc4;refine qP (λe=>Br ⟨⟨_,rfl⟩,.inl ⟨_,rfl,G5.fin (.inl (by simpa using e))⟩⟩) λe7=>?_
      have e7:0<na-1:=Nb (by simpa using e7)
      exact qP (λ_=>Br ⟨⟨_,rfl⟩,.inr ⟨_,_,_,_,_,_,rfl,G5,e7,Fd na1,h4,h6,hq2⟩⟩) λ_=>Br ⟨⟨_,rfl⟩,_,_,_,_,_,_,rfl,G5,e7,Fd na1,h4,h6,hq2⟩
     case h2 =>
      intro _ e6 e7;have e6:¬ m=1:=by simpa using e6
      have e7:¬ m=0:=by simpa using e7
      exact⟨G4,Ic (Nb e7) (Gb e6),m1,Hs (m2 (m-1) (Mf (Nb e7) Lh))⟩
     case h3 =>
      intro e;cases mc (Kx e);exact⟨G3,Ic j1 (Gb e5),Au _,Hs (m2 (j-1-1) (Mf j1 Lh))⟩
    case h2 =>
     intro _ e;have e3:0<k:=Nb (by simpa using e)
     exact⟨G2,e3,DL k1 hi2,Mz (Vi (Iw k1 _) _) hq,k2 (k-1) (Mf e3 Lh)⟩
    case h3 =>
     intro e;have e:=kc (Kx e);exact⟨G,hi,hi2,hq,k2 (i-1) (by rw[e];exact Mf hi Lh)⟩
   .rintro c st' ⟨z,o,i',j',p,q,t,rfl,G,hi,hi2,hj,hj2,hq⟩
    exact⟨z,.inr ⟨_,_,_,_,_,_,rfl,G,hi,hi2,hj,hj2,by lia⟩⟩
   .rintro c st' ⟨⟨g,rfl⟩,⟨m,hc,hm⟩|⟨o,i',j',p,q,t,rfl,G,hi,hi2,hj,hj2,hq⟩⟩
    .obtain⟨c0,c1⟩:=c
     cases hc;exact Br ⟨⟨g,rfl⟩,m,rfl,hm⟩
    dsimp only;refine AT (Jj ?_);exact Br ⟨⟨_,rfl⟩,_,_,_,_,rfl,G,hi,hi2,hj,hj2,by lia⟩
 .rintro c st' ⟨z,o,i',j',p,rfl,G,hi,hi2,hj,hj2,hq⟩
  exfalso
  lia
 .rintro c st' ⟨⟨g,rfl⟩,m,hc,hm⟩
  obtain⟨c0,c1⟩:=c;cases hc;exact Br (h m g hm)
end
theorem oP:∀ (l:Aa Bs) (arr:Ax Bs) (o d:Ai),o+d+l.length<=arr.size->∀ k,((l.zipIdx d).foldl (λa p=>a.setIfInBounds (o+p.2) p.1) arr)[k]? = if o+d<=k/\k<o+d+l.length then l[k-(o+d)]? else arr[k]?
 |[],arr,o,d,h,k=>by
  rw[Bm (by simp only[Ec];lia)];rfl
 |x::l,arr,o,d,h,k=>by
  rw[Bj] at h;rw[Sg,Kq,oP l _ o (d+1) (by rw[Array.size_setIfInBounds];lia) k,Bj]
  by_cases h1:k=o+d
  .subst h1
   rw[Bm (by lia),Bl (by lia),Xk,Array.getElem?_setIfInBounds_self_of_lt (by lia)]
   rfl
  .by_cases h2:o+(d+1)<=k/\k<o+(d+1)+l.length
   .rw[Bl h2,Bl (by lia),show k-(o+d)=(k-(o+(d+1)))+1 by lia,Sw]
   .rw[Bm h2,Bm (by lia),Array.getElem?_setIfInBounds_ne (by lia)]
noncomputable def wb (arr:Ax Bs)(o:Ai)(m:Ax Bs):Ax Bs:=m.toList.zipIdx.foldl (λa p=>a.setIfInBounds (o+p.2) p.1) arr
theorem FM {o:Ai}(h:o+m.size<=arr.size)(k:Ai):(wb arr o m).getD k nv=if o<=k/\k<o+m.size then m.getD (k-o) nv else arr.getD k nv:=by
 have e:=oP m.toList arr o 0 (by simpa using h) k
 simp only[Xl,Bg,Bk] at e;rw[Fo,Fo,Fo];unfold wb;rw[e]
 split <;> rfl
theorem FN {o:Ai}(h:o+m.size<=arr.size):(wb arr o m).toList=arr.toList.take o++(m.toList++arr.toList.drop (o+m.size)):=by
 apply Rf;intro k;have e:=oP m.toList arr o 0 (by simpa using h) k
 simp only[Xl,Bg,Bk] at e;unfold wb;rw[Bk,e];have lt:(arr.toList.take o).length=o:=by rw[El,Bg];lia
 by_cases h1:k<o
 .rw[Bm (by lia),Bi (by lia),Mv h1,Bk]
 .rw[Cs (by lia),lt]
  by_cases h2:k<o+m.size
  .rw[Bl (by lia),Bi (by rw[Bg];lia),Bk]
  .rw[Bm (by lia),Cs (by rw[Bg];lia),Wv,Bg,Bk]
   congr 1
   lia
theorem FO {o:Ai}(h:o+n<=arr.size)(p:m.toList.Perm (arr.extract o (o+n)).toList):(wb arr o m).toList.Perm arr.toList:=by
 have hm:m.size=n:=by
  have:=p.length_eq;rw[Bg,Bg,Je] at this
  lia
 rw[FN (by lia),hm]
 have e:arr.toList=arr.toList.take o++((arr.extract o (o+n)).toList++arr.toList.drop (o+n)):=by rw[bV,OI]
 conv=>rhs;rw[e]
 exact Hz _ (Kw _ p)
def Seg (r:Bs->Al)(a:Ax Bs)(lo n:Ai):Prop:=∀ i j,lo<=i->i<=j->j<lo+n->r (a.getD i nv)<=r (a.getD j nv)
theorem aI {r:Bs->Al}{a:Ax Bs}(h:Seg r a lo n){i k:Ai}(h1:lo<=i)(h2:i+k<=lo+n)(h3:i+k<=a.size):(a.extract i (i+k)).toList.Pairwise (Le r):=by
 rw[Js];intro x y hx hy l;have hx':x<k:=by rw[Bg,Je] at hx;lia
 have hy':y<k:=by rw[Bg,Je] at hy;lia
 have e:=h (i+x) (i+y) (by lia) (by lia) (by lia)
 have q1:i+x<a.size:=by lia
 have q2:i+y<a.size:=by lia
 simpa [Gr,q1,q2,Le] using e
theorem sM {a:Ax Bs}{i k m:Ai}(h:m<k)(h3:i+k<=a.size):(a.extract i (i+k)).getD m nv=a.getD (i+m) nv:=by
 have q1:i+m<a.size:=by lia
 have q2:m<(a.extract i (i+k)).size:=by rw[Je];lia
 have q3:m<min (i+k) a.size-i:=by lia
 simp[Gr,q1,q3]
theorem YC {a:Ax Bs}{i j k:Ai}(h1:i<=j)(h2:j<=k):(a.extract i j).toList++(a.extract j k).toList=(a.extract i k).toList:=by
 rw[<- Ds,Array.extract_append_extract]
 congr 2 <;> lia
section
variable {prog:Bd}{w:Bz}{A:Bt}{E:Ac->Ag->Prop}{s:Ag}{κ : Mq}{U:Bs->Prop}{r:Bs->Al}
theorem FP {M:Kz}{σ:Type}{Q:PUnit->σ->Prop}{st st':σ}(h:Q ⟨⟩ st'):wpS M A E s (set st':OH σ Ky PUnit) Q st:=by
 unfold wpS;rw[StateT.run_set];exact Am ⟨rfl,h⟩
theorem eR (C:Cm (As prog w) A s κ U r){i sa na pw nb pz:Ai}{Q:Aq->Gg->Prop}{arr:Ax Bs}{pd:Ax (Ai × Ai × Ai)}{g:Ai}(ua:∀ x∈arr.toList,U x)(e1:pd[i]? = Ab (sa,na,pw))(e2:pd[i+1]? = Ab (sa+na,nb,pz))(p1:0<na)(p2:0<nb)(hz:sa+na+nb<=arr.size)
  (s1:Seg r arr sa na) (s2:Seg r arr (sa+na) nb)
  (h:∀ arr' g,arr'.toList.Perm arr.toList->(∀ k,k<sa\/sa+na+nb<=k->arr'.getD k nv=arr.getD k nv)->Seg r arr' sa (na+nb)->Q true (Dh κ arr' ((pd.setIfInBounds i (sa,na+nb,pw)).eraseIdxIfInBounds (i+1)) g none)) :
  wpS (As prog w) A E s (mergeAt' i) Q (Dh κ arr pd g none):=by
 refine AT (Nk ?_);dsimp only;rw[e1,e2];dsimp only;refine AT (FP ?_);refine AT (zB (i:=sa+na) (by omega) ?_)
 refine AT (YG C rfl (by omega) (by omega) (λi hi=>ua _ (zL (by omega))) (ua _ (zL (by omega))) (λi j a b=>s1 _ _ (by omega) (by omega) (by omega)) λk k1 k2 k3=>?_)
 dsimp only;refine qP (λe=>Br (h arr g (Np _) (λ_ _=>rfl) λi j a b c=>?_)) λe=>?_
 .have e:na-k=0:=by simpa using e
  by_cases q1:j<sa+na
  .exact s1 i j a b q1
  .by_cases q2:sa+na<=i
   .exact s2 i j q2 b (by omega)
   .have:=k2 (i-sa) (by omega)
    rw[show sa+(i-sa)=i by omega] at this
    exact Fv this (s2 _ _ (Au _) (by omega) (by omega))
 have e:¬ na-k=0:=by simpa using e
 refine AT (zB (i:=sa+k+(na-k)-1) (by omega) ?_)
 refine AT (YH C rfl (by omega) (by omega) (λi hi=>ua _ (zL (by omega))) (ua _ (zL (by omega))) (λi j a b=>s2 _ _ (by omega) (by omega) (by omega)) λm m1 m2 m3=>?_)
 dsimp only;rw[show sa+k+(na-k)-1=sa+na-1 by omega] at m2 m3
 have hk3:=k3 k (Au _) (by omega)
 refine qP (λe=>?_) λe'=>?_
 .exfalso
  have e:m=0:=by simpa using e
  subst e;have q1:=m3 0 (Au _) p2;have q2:=s1 (sa+k) (sa+na-1) (by omega) (by omega) (by omega)
  rw[Xl] at q1;omega
 have e':¬ m=0:=by simpa using e'
 have ex:arr.extract (sa+k) (sa+na)=arr.extract (sa+k) (sa+k+(na-k)):=by rw[show sa+k+(na-k)=sa+na by omega]
 have zx:(arr.extract (sa+k) (sa+na)).size=na-k:=by rw[Je];omega
 have zy:(arr.extract (sa+na) (sa+na+m)).size=m:=by rw[Je];omega
 have gx:∀ i,i<na-k->(arr.extract (sa+k) (sa+na)).getD i nv=arr.getD (sa+k+i) nv:=λi hi=>by rw[ex];exact sM hi (by omega)
 have gy:∀ i,i<m->(arr.extract (sa+na) (sa+na+m)).getD i nv=arr.getD (sa+na+i) nv:=λi hi=>sM hi (by omega)
 have px:(arr.extract (sa+k) (sa+na)).toList.Pairwise (Le r):=by rw[ex];exact aI s1 (by omega) (by omega) (by omega)
 have py:(arr.extract (sa+na) (sa+na+m)).toList.Pairwise (Le r):=aI s2 (by omega) (by omega) (by omega)
 have mx:∀ x∈(arr.extract (sa+k) (sa+na)).toList,∃ j,sa+k<=j/\j<sa+na/\x=arr.getD j nv:=λx hx=>by
  obtain⟨j,q1,q2,q3,q4⟩:=gG (by omega) hx
  exact⟨j,q1,q2,q4⟩
 have my:∀ x∈(arr.extract (sa+na) (sa+na+m)).toList,∃ j,sa+na<=j/\j<sa+na+m/\x=arr.getD j nv:=λx hx=>by
  obtain⟨j,q1,q2,q3,q4⟩:=gG (by omega) hx
  exact⟨j,q1,q2,q4⟩
 have lox:∀ x∈(arr.extract (sa+k) (sa+na)).toList,r (arr.getD (sa+na) nv)<=r x/\r x<=r (arr.getD (sa+na-1) nv):=λx hx=>by
  obtain⟨j,q1,q2,rfl⟩:=mx x hx;have:=s1 (sa+k) j (by omega) q1 q2
  exact⟨by omega,s1 j _ (by omega) (by omega) (by omega)⟩
 have loy:∀ x∈(arr.extract (sa+na) (sa+na+m)).toList,r (arr.getD (sa+na) nv)<=r x/\r x<=r (arr.getD (sa+na-1) nv):=λx hx=>by
  obtain⟨j,q1,q2,rfl⟩:=my x hx;have:=m2 (j-(sa+na)) (by omega)
  rw[show sa+na+(j-(sa+na))=j by omega] at this
  exact⟨s2 _ _ (Au _) q1 (by omega),by omega⟩
 have fin:∀ mg g',Mo r ((arr.extract (sa+k) (sa+na)).toList++(arr.extract (sa+na) (sa+na+m)).toList) mg->Q true (Dh κ (wb arr (sa+k) mg) ((pd.setIfInBounds i (sa,na+nb,pw)).eraseIdxIfInBounds (i+1)) g' none):=by
  intro mg g' M;have ej:(arr.extract (sa+k) (sa+na)).toList++(arr.extract (sa+na) (sa+na+m)).toList=(arr.extract (sa+k) (sa+k+(na-k+m))).toList:=by
   rw[YC (by omega) (by omega),show sa+k+(na-k+m)=sa+na+m by omega]
  have hm:mg.size=na-k+m:=by
   have:=M.pm.length_eq;rw[Cj,Bg,Bg,Bg,zx,zy] at this;exact this
  have gd:=λj=>FM (arr:=arr) (m:=mg) (o:=sa+k) (by omega) j
  refine h _ g' (FO (n:=na-k+m) (by omega) (ej▸M.pm)) (λj hj=>?_) λi j a b c=>?_
  .rw[gd,Bm (by omega)]
  .have bd:∀ j,sa+k<=j->j<sa+na+m->r (arr.getD (sa+na) nv)<=r (mg.getD (j-(sa+k)) nv)/\r (mg.getD (j-(sa+k)) nv)<=r (arr.getD (sa+na-1) nv):=λj h1 h2=>by
    have:=M.pm.mem_iff.mp (zL (a:=mg) (i:=j-(sa+k)) (by omega))
    rcases Cq.mp this with q|q
    .exact lox _ q
    .exact loy _ q
   rw[gd,gd,hm];by_cases i1:i<sa+k
   .rw[Bm (by omega)]
    have u:=k2 (i-sa) (by omega)
    rw[show sa+(i-sa)=i by omega] at u
    by_cases j1:j<sa+k
    .rw[Bm (by omega)];exact s1 i j a b (by omega)
    .by_cases j2:j<sa+na+m
     .rw[Bl (by omega)];exact Fv u (bd j (by omega) j2).1
     .rw[Bm (by omega)];exact Fv u (s2 _ _ (Au _) (by omega) (by omega))
   .by_cases i2:i<sa+na+m
    .rw[Bl (by omega)]
     by_cases j2:j<sa+na+m
     .rw[Bl (by omega)];exact y7 M.up (by omega) (by omega)
     .rw[Bm (by omega)]
      have v:=m3 (j-(sa+na)) (by omega) (by omega)
      rw[show sa+na+(j-(sa+na))=j by omega] at v
      exact Fv (bd i (by omega) i2).2 v
    .rw[Bm (by omega),Bm (by omega)]
     exact s2 i j (by omega) b (by omega)
 have ux:∀ x∈(arr.extract (sa+k) (sa+na)).toList,U x:=λx hx=>by obtain⟨j,q1,q2,rfl⟩:=mx x hx;exact ua _ (zL (by omega))
 have uy:∀ x∈(arr.extract (sa+na) (sa+na+m)).toList,U x:=λx hx=>by obtain⟨j,q1,q2,rfl⟩:=my x hx;exact ua _ (zL (by omega))
 have y0:(arr.extract (sa+na) (sa+na+m)).getD 0 nv=arr.getD (sa+na) nv:=gy 0 (by omega)
 have xl:(arr.extract (sa+k) (sa+na)).getD ((arr.extract (sa+k) (sa+na)).size-1) nv=arr.getD (sa+na-1) nv:=by rw[zx,gx _ (by omega)];congr 1;omega
 refine qP (λ_=>?_) λ_=>?_
 .refine AT (eU C rfl ux uy px py (λmg g' M=>?_) (by rw[zx];omega) (by rw[zy];omega) ?_ λx hx=>?_)
  .refine AT (Jj (AT (Nk (Br ?_))))
   exact fin mg g' M
  .rw[y0];exact(lox _ (zL (by rw[zx];omega))).1
  .rw[xl];exact(loy x hx).2
 .refine AT (eS C rfl ux uy px py (λmg g' M=>?_) (by rw[zx];omega) (by rw[zy];omega) (λx hx=>?_) ?_)
  .refine AT (Jj (AT (Nk (Br ?_))))
   exact fin mg g' M
  .rw[y0];exact(lox x hx).1
  .rw[xl];exact(loy _ (zL (by rw[zy];omega))).2
end
noncomputable def mir (a:Ax Bs)(i j:Ai):Ax Bs:=mirror a i j ((j-i)/2)
theorem wV {a:Ax Bs}{i j:Ai}(hj:j<=a.size)(k:Ai):(mir a i j).getD k nv=if i<=k/\k<j then a.getD (i+j-1-k) nv else a.getD k nv:=by
 rw[Fo,Fo,Fo];unfold mir;rw[getElem?_mirror_all hj]
 split <;> rfl
structure Cr (a b:Ax Bs)(lo n:Ai):Prop where
 pm:b.toList.Perm a.toList
 out:∀ k,k<lo\/lo+n<=k->b.getD k nv=a.getD k nv
theorem Cr.z {a b:Ax Bs}(h:Cr a b lo n):b.size=a.size:=by
 have:=h.pm.length_eq;simpa using this
theorem Cr.rfl' {a:Ax Bs}:Cr a a lo n:=⟨Np _,λ_ _=>rfl⟩
theorem Cr.mir {a b:Ax Bs}{i j:Ai}(h:Cr a b lo n)(h1:lo<=i)(h2:j<=lo+n)(h3:j<=a.size):Cr a (mir b i j) lo n:=
 ⟨(Qq.mp (mirror_perm _ _ _ _)).trans h.pm,λk hk=>by rw[wV (by rw[h.z];exact h3),Bm (by lia)];exact h.out k hk⟩
def Dsg (r:Bs->Al)(a:Ax Bs)(lo n:Ai):Prop:=∀ i j,lo<=i->i<=j->j<lo+n->r (a.getD j nv)<=r (a.getD i nv)
theorem U2 {r:Bs->Al}{a:Ax Bs}(h:Seg r a lo n)(h1:1<=n)(l:r (a.getD (lo+n-1) nv)<=r (a.getD (lo+n) nv)):Seg r a lo (n+1):=λi j h2 h3 h4=>by
 by_cases q:j<lo+n
 .exact h i j h2 h3 q
 .have:j=lo+n:=by lia
  subst this;by_cases q2:i=lo+n
  .subst q2;exact Ms _
  .exact Fv (h i (lo+n-1) h2 (by lia) (by lia)) l
theorem uW {r:Bs->Al}{a:Ax Bs}(h:Dsg r a lo n)(h1:1<=n)(l:r (a.getD (lo+n) nv)<=r (a.getD (lo+n-1) nv)):Dsg r a lo (n+1):=λi j h2 h3 h4=>by
 by_cases q:j<lo+n
 .exact h i j h2 h3 q
 .have:j=lo+n:=by lia
  subst this;by_cases q2:i=lo+n
  .subst q2;exact Ms _
  .exact Fv l (h i (lo+n-1) h2 (by lia) (by lia))
theorem aJ {r:Bs->Al}{a:Ax Bs}:Seg r a lo 1:=λi j h2 h3 h4=>by
 have:i=j:=by lia
 subst this;exact Ms _
theorem G9 {r:Bs->Al}{a:Ax Bs}:Dsg r a lo 1:=λi j h2 h3 h4=>by
 have:i=j:=by lia
 subst this;exact Ms _
def W9 (r:Bs->Al)(a:Ax Bs)(lo n q:Ai):Prop:=q+1<=n/\∀ k,lo+n-(q+1)<=k->k<lo+n->r (a.getD k nv)=r (a.getD (lo+n-1) nv)
set_option tactic.hygienic true in
theorem kU {r:Bs->Al}{a:Ax Bs}{q:Ai}(hn:lo+n<=a.size)(h:W9 r a lo n q)(k:Ai):r ((mir a (lo+n-(q+1)) (lo+n)).getD k nv)=r (a.getD k nv):=by
 rw[wV hn];have:=h.1
 split
 .rename_i c
  rw[h.2 k (by lia) c.2,h.2 _ (by lia) (by lia)]
 .rfl
theorem G8 {r:Bs->Al}{a:Ax Bs}(hn:lo+n<=a.size)(h:Dsg r a lo n):Seg r (mir a lo (lo+n)) lo n:=λi j h2 h3 h4=>by
 rw[wV hn,wV hn,Bl (by lia),Bl (by lia)]
 exact h _ _ (by lia) (by lia) (by lia)
section
variable {prog:Bd}{w:Bz}{A:Bt}{E:Ac->Ag->Prop}{s:Ag}{κ : Mq}{U:Bs->Prop}{r:Bs->Al}
theorem kM (C:Cm (As prog w) A s κ U r){i j:Ai}{arr:Ax Bs}{pd:Ax (Ai × Ai × Ai)}{g:Ai}{Q:Ak Aq->Gg->Prop}(ua:∀ x∈arr.toList,U x)(hi:i<arr.size)(hj:j<arr.size)
  (q:Q (Ab (decide (r (arr.getD i nv)<r (arr.getD j nv)))) (Dh κ arr pd g none)):wpS (As prog w) A E s (ltAt' i j) Q (Dh κ arr pd g none):=by
 refine AT (Nk ?_);exact AT (zB hi (AT (zB hj (C.lt (ua _ (zL hi)) (ua _ (zL hj)) rfl q))))
theorem bD {i j:Ai}{pd:Ax (Ai × Ai × Ai)}{g:Ai}{Q:PUnit->Gg->Prop}(q:Q ⟨⟩ (Dh κ (mir arr i j) pd g none)):wpS (As prog w) A E s (reverseSlice' i j) Q (Dh κ arr pd g none):=Jj q
theorem lS (C:Cm (As prog w) A s κ U r){lo N:Ai}{arr:Ax Bs}{pd:Ax (Ai × Ai × Ai)}{g:Ai}{Q:Ak Ai->Gg->Prop}(ua:∀ x∈arr.toList,U x)(h1:1<=N)(hz:lo+N<=arr.size)
  (h:∀ n b,1<=n->n<=N->Cr arr b lo N->Seg r b lo n->Q (Ab n) (Dh κ b pd g none)):wpS (As prog w) A E s (countRun' lo N) Q (Dh κ arr pd g none):=by
 have uc:∀ {b:Ax Bs},Cr arr b lo N->∀ x∈b.toList,U x:=λh x hx=>ua x (h.pm.mem_iff.mp hx);have asc:∀ {b:Ax Bs} {n:Ai} {f:Ai->Ak (Ak Ai) × Ai->OH Gg Ky (ForInStep (Ak (Ak Ai) × Ai))},Cr arr b lo N->1<=n->n<=N->Seg r b lo n ->
   (∀ x m,f x (none,m)=(ltAt' (lo+m) (lo+m-1) >>= λo=>match o with
    |some z=>if z then pure (.done (none,m)) else pure (.yield (none,m+1))
    |_=>pure (.done (Ab none,m))))->wpS (As prog w) A E s (forIn [n:N] (none,n) f) (λc st'=>st'=Dh κ b pd g none/\∃ m,c=(none,m)/\n<=m/\m<=N/\Seg r b lo m/\(m=N\/r (b.getD (lo+m) nv)<r (b.getD (lo+m-1) nv))) (Dh κ b pd g none):=by
  intro b n f cr hn hN sg hf;have zb:=cr.z;refine Fu (I:=λx c st'=>st'=Dh κ b pd g none/\c=(none,x)/\n<=x/\Seg r b lo x) ?_ ?_ ⟨rfl,rfl,Au _,sg⟩
  .rintro x c st' hx1 hx ⟨rfl,rfl,hx3,sg⟩
   rw[hf];refine AT (kM C (uc cr) (by lia) (by lia) ?_)
   by_cases l:r (b.getD (lo+x) nv)<r (b.getD (lo+x-1) nv)
   .simp only[l,Kf,Dw]
    exact Br ⟨rfl,x,rfl,hx1,by lia,sg,.inr l⟩
   .simp only[l,Ki,By,Ef]
    exact Br ⟨rfl,rfl,by lia,U2 sg (by lia) (by lia)⟩
  .rintro c st' ⟨rfl,rfl,hx3,sg⟩
   rw[show max n N=N by lia] at sg ⊢
   exact⟨rfl,N,rfl,hN,Au _,sg,.inl rfl⟩
 refine AT (Hq (asc Cr.rfl' (Au 1) h1 aJ λ_ _=>rfl) ?_);rintro c st' ⟨rfl,n,rfl,n1,n2,sg,nd⟩;dsimp only;refine qP (λe=>Br (h n arr n1 n2 Cr.rfl' sg)) λe=>?_;have e:¬ n=N:=by simpa using e
 have nd:r (arr.getD (lo+n) nv)<r (arr.getD (lo+n-1) nv):=by lia
 apply qP
 case' h1 =>
  intro np;refine AT (kM C ua (by lia) (by lia) ?_)
  dsimp only;refine qP (λe=>Br (h n arr n1 n2 Cr.rfl' sg)) λl=>?_;have l:¬ r (arr.getD lo nv)<r (arr.getD (lo+n-1) nv):=by simpa using l
  refine AT (bD ?_);have cr:Cr arr (mir arr lo (lo+n)) lo N:=Cr.rfl'.mir (Au _) (by lia) (by lia)
  have ds:Dsg r (mir arr lo (lo+n)) lo (n+1):=by
   refine uW (λi j a b c=>?_) n1 ?_
   .rw[wV (by lia),wV (by lia),Bl (by lia),Bl (by lia)]
    exact sg _ _ (by lia) (by lia) (by lia)
   .rw[wV (by lia),wV (by lia),Bm (by lia),Bl (by lia),show lo+(lo+n)-1-(lo+n-1)=lo by lia]
    lia
 case' h2 =>
  intro np;have cr:Cr arr arr lo N:=Cr.rfl';have ds:Dsg r arr lo (n+1):=by
   have:n=1:=by lia
   subst this;exact uW G9 (Au _) (Hs nd)
 all_goals
  refine AT (Qs (Hd ⟨rfl,?_⟩));refine AT (Hq (Fu (I:=λx c st'=>∃ b q,st'=Dh κ b pd g none/\c=(none,x,q)/\Cr arr b lo N/\Dsg r b lo x/\W9 r b lo x q)
   (Q:=λc st'=>∃ b m q,st'=Dh κ b pd g none/\c=(none,m,q)/\1<=m/\m<=N/\Cr arr b lo N/\Dsg r b lo m/\W9 r b lo m q) ?_ ?_ ⟨_,0,rfl,rfl,cr,ds,by lia,λk a b=>by rw[show k=lo+(n+1)-1 by lia]⟩) ?_)
  .rintro x c st' hx1 hx ⟨b,q,rfl,rfl,cr,ds,eq⟩
   dsimp only;have zb:=cr.z;refine AT (kM C (uc cr) (by lia) (by lia) ?_)
   dsimp only;refine qP (λl=>?_) λl=>?_
   .have l:r (b.getD (lo+x) nv)<r (b.getD (lo+x-1) nv):=by simpa using l
    refine qP (λqp=>AT (bD (Br ⟨_,0,rfl,rfl,cr.mir (by have:=eq.1;lia) (by lia) (by lia),λi j a c d=>?_,by lia,λk a b=>by rw[show k=lo+(x+1)-1 by lia]⟩))) λqp=>Br ⟨_,0,rfl,rfl,cr,uW ds (by lia) (Hs l),by lia,λk a b=>by rw[show k=lo+(x+1)-1 by lia]⟩
    rw[kU (by lia) eq,kU (by lia) eq]
    exact uW ds (by lia) (Hs l) i j a c d
   .have l:¬ r (b.getD (lo+x) nv)<r (b.getD (lo+x-1) nv):=by simpa using l
    refine AT (kM C (uc cr) (by lia) (by lia) ?_)
    dsimp only;refine qP (λl2=>Br ⟨b,x,q,rfl,rfl,by lia,by lia,cr,ds,eq⟩) λl2=>?_
    have l2:¬ r (b.getD (lo+x-1) nv)<r (b.getD (lo+x) nv):=by simpa using l2
    have ee:r (b.getD (lo+x) nv)=r (b.getD (lo+x-1) nv):=by lia
    refine Br ⟨b,q+1,rfl,rfl,cr,uW ds (by lia) (by lia),by have:=eq.1;lia,λk a c=>?_⟩
    rw[show lo+(x+1)-1=lo+x by lia]
    by_cases kx:k=lo+x
    .rw[kx]
    .rw[ee];exact eq.2 k (by lia) (by lia)
  .rintro c st' ⟨b,q,rfl,rfl,cr,ds,eq⟩
   rw[show max (n+1) N=N by lia] at ds eq ⊢
   exact⟨b,N,q,rfl,rfl,h1,Au _,cr,ds,eq⟩
  .rintro c st' ⟨b,m,q,rfl,rfl,m1,m2,cr,ds,eq⟩
   dsimp only;have zb:=cr.z;apply qP
   case' h1 =>
    intro qp;refine AT (bD ?_);have cr2:=cr.mir (i:=lo+m-(q+1)) (j:=lo+m) (by have:=eq.1;lia) (by lia) (by lia)
    have ds2:Dsg r (mir b (lo+m-(q+1)) (lo+m)) lo m:=λi j a c d=>by
     rw[kU (by lia) eq,kU (by lia) eq]
     exact ds i j a c d
   case' h2 =>
    intro qp;have cr2:=cr;have ds2:=ds
   all_goals
    have z2:=cr2.z;refine AT (bD ?_);refine AT (Hq (asc (cr2.mir (Au _) (by lia) (by lia)) m1 m2 (G8 (by lia) ds2) λ_ _=>rfl) ?_)
    rintro c st' ⟨rfl,n',rfl,q1,q2,q3,_⟩;exact Br (h n' _ (by lia) q2 (cr2.mir (Au _) (by lia) (by lia)) q3)
end
theorem dS {a:Ax Bs}{src d:Ai}(hs:src<a.size)(hd:d<=src)(k:Ai):(bubble a src d).getD k nv=if k=src-d then a.getD src nv else if src-d<k/\k<=src then a.getD (k-1) nv else a.getD k nv:=by
 simp only[Fo];rw[getElem?_bubble hs d hd]
 repeat' split
 all_goals rfl
section
variable {prog:Bd}{w:Bz}{A:Bt}{E:Ac->Ag->Prop}{s:Ag}{κ : Mq}{U:Bs->Prop}{r:Bs->Al}
theorem eB (C:Cm (As prog w) A s κ U r){lo n ok:Ai}{arr:Ax Bs}{pd:Ax (Ai × Ai × Ai)}{g:Ai}{Q:Aq->Gg->Prop}(ua:∀ x∈arr.toList,U x)(h1:ok<=n)(hz:lo+n<=arr.size)(sg:Seg r arr lo ok)
  (h:∀ b,Cr arr b lo n->Seg r b lo n->Q true (Dh κ b pd g none)):wpS (As prog w) A E s (binarySort' lo n ok) Q (Dh κ arr pd g none):=by
 have uc:∀ {b:Ax Bs},Cr arr b lo n->∀ x∈b.toList,U x:=λh x hx=>ua x (h.pm.mem_iff.mp hx);have sg1:Seg r arr lo (max ok 1):=by
  by_cases q:ok=0
  .rw[q];exact aJ
  .rw[show max ok 1=ok by lia];exact sg
 refine AT (Hq (Fu (I:=λk c st'=>c=(none,())/\∃ b,st'=Dh κ b pd g none/\Cr arr b lo n/\Seg r b lo (min k (max ok (max n 1))))
  (Q:=λc st'=>c=(none,())/\∃ b,st'=Dh κ b pd g none/\Cr arr b lo n/\Seg r b lo n) ?_ ?_ ⟨rfl,arr,rfl,Cr.rfl',?_⟩) ?_)
 .rintro k c st' hk hkn ⟨rfl,b,rfl,cr,sg⟩
  have zb:=cr.z;rw[show min k (max ok (max n 1))=k by lia] at sg
  dsimp only;refine AT (Hq (Fu (I:=λx c st'=>st'=Dh κ b pd g none/\∃ l u,c=(none,l,u)/\l<=u/\u<=k/\u-l<=k-x/\(∀ i,i<l->r (b.getD (lo+i) nv)<=r (b.getD (lo+k) nv))/\∀ i,u<=i->i<k->r (b.getD (lo+k) nv)<r (b.getD (lo+i) nv))
   (Q:=λc st'=>st'=Dh κ b pd g none/\∃ l u,c=(none,l,u)/\l<=k/\(∀ i,i<l->r (b.getD (lo+i) nv)<=r (b.getD (lo+k) nv))/\∀ i,l<=i->i<k->r (b.getD (lo+k) nv)<r (b.getD (lo+i) nv)) ?_ ?_
   ⟨rfl,0,k,rfl,by lia,by lia,by lia,λi hi=>by lia,λi a b=>by lia⟩) ?_)
  .rintro x c st' _ hx ⟨rfl,l,u,rfl,q1,q2,q3,q4,q5⟩
   dsimp only;refine qP (λe=>Br ⟨rfl,l,u,rfl,by lia,q4,λi a b=>q5 i (by lia) b⟩) λe=>?_
   refine AT (kM C (uc cr) (by lia) (by lia) ?_)
   dsimp only;refine qP (λz=>?_) λz=>?_
   .have z:r (b.getD (lo+k) nv)<r (b.getD (lo+(l+u)/2) nv):=by simpa using z
    exact Br ⟨rfl,_,_,rfl,by lia,by lia,by lia,q4,λi a c=>Int.lt_of_lt_of_le z (sg _ _ (by lia) (by lia) (by lia))⟩
   .have z:¬ r (b.getD (lo+k) nv)<r (b.getD (lo+(l+u)/2) nv):=by simpa using z
    exact Br ⟨rfl,_,_,rfl,by lia,by lia,by lia,λi a=>Fv (sg _ _ (by lia) (by lia) (by lia)) (sK.mp z),q5⟩
  .rintro c st' ⟨rfl,l,u,rfl,q1,q2,q3,q4,q5⟩
   exact⟨rfl,l,u,rfl,by lia,q4,λi a b=>q5 i (by lia) b⟩
  .rintro c st' ⟨rfl,l,u,rfl,q1,q4,q5⟩
   dsimp only;refine AT (Jj (Br ⟨rfl,_,rfl,⟨(Qq.mp (bubble_perm _ _ _)).trans cr.pm,λj hj=>?_⟩,?_⟩))
   .show (bubble b (lo+k) (lo+k-(lo+l))).getD j nv=_
    rw[dS (by lia) (by lia),Bm (by lia),Bm (by lia)]
    exact cr.out j hj
   .rw[show min (k+1) (max ok (max n 1))=k+1 by lia]
    have e:∀ j,(bubble b (lo+k) (lo+k-(lo+l))).getD j nv=if j=lo+l then b.getD (lo+k) nv else if lo+l<j/\j<=lo+k then b.getD (j-1) nv else b.getD j nv:=λj=>by
     rw[dS (by lia) (by lia),show lo+k-(lo+k-(lo+l))=lo+l by lia]
    intro i j a c d;show r ((bubble b (lo+k) (lo+k-(lo+l))).getD i nv)<=r ((bubble b (lo+k) (lo+k-(lo+l))).getD j nv);rw[e,e];by_cases i1:i<lo+l
    .rw[Bm (by lia),Bm (by lia)]
     have u1:=q4 (i-lo) (by lia)
     rw[show lo+(i-lo)=i by lia] at u1
     by_cases j1:j<lo+l
     .rw[Bm (by lia),Bm (by lia)];exact sg i j a c (by lia)
     .by_cases j2:j=lo+l
      .rw[Bl j2];exact u1
      .rw[Bm j2,Bl (by lia)];exact sg _ _ a (by lia) (by lia)
    .by_cases i2:i=lo+l
     .rw[Bl i2]
      by_cases j2:j=lo+l
      .rw[Bl j2];exact Ms _
      .rw[Bm j2,Bl (by lia)]
       have:=q5 (j-1-lo) (by lia) (by lia)
       rw[show lo+(j-1-lo)=j-1 by lia] at this
       exact Hs this
     .rw[Bm i2,Bl (by lia),Bm (by lia),Bl (by lia)]
      exact sg _ _ (by lia) (by lia) (by lia)
 .rintro c st' ⟨rfl,b,rfl,cr,sg⟩
  refine⟨rfl,b,rfl,cr,?_⟩;intro i j a c d;exact sg i j a c (by lia)
 .rw[show min (max ok 1) (max ok (max n 1))=max ok 1 by lia];exact sg1
 .rintro c st' ⟨rfl,b,rfl,cr,sg⟩
  exact Br (h b cr sg)
end
def Rn (r:Bs->Al)(a:Ax Bs):Aa (Ai × Ai × Ai)->Ai->Ai->Prop
 |[],x,y=>x=y
 |(s,n,_)::t,x,y=>s=x/\0<n/\Seg r a s n/\Rn r a t (x+n) y
section
variable {r:Bs->Al}{a b:Ax Bs}
theorem Rn.app:∀ {L1 L2:Aa (Ai × Ai × Ai)} {x y:Ai},Rn r a (L1++L2) x y↔∃ m,Rn r a L1 x m/\Rn r a L2 m y
 |[],L2,x,y=>⟨λh=>⟨x,rfl,h⟩,λ⟨m,h1,h2⟩=>by cases h1;exact h2⟩
 |(s,n,p)::t,L2,x,y=>by
  show s=x/\0<n/\Seg r a s n/\Rn r a (t++L2) (x+n) y↔∃ m,(s=x/\0<n/\Seg r a s n/\Rn r a t (x+n) m)/\Rn r a L2 m y;rw[Rn.app];exact⟨λ⟨h1,h2,h3,m,h4,h5⟩=>⟨m,⟨h1,h2,h3,h4⟩,h5⟩,λ⟨m,⟨h1,h2,h3,h4⟩,h5⟩=>⟨h1,h2,h3,m,h4,h5⟩⟩
theorem Rn.le:∀ {L:Aa (Ai × Ai × Ai)} {x y:Ai},Rn r a L x y->x+L.length<=y
 |[],x,y,h=>by cases h;simp
 |(s,n,p)::t,x,y,h=>by have:=Rn.le h.2.2.2;have:=h.2.1;simp only[Bj];lia
theorem Rn.congr:∀ {L:Aa (Ai × Ai × Ai)} {x y:Ai},Rn r a L x y->(∀ k,x<=k->k<y->b.getD k nv=a.getD k nv)->Rn r b L x y
 |[],x,y,h,_=>h
 |(s,n,p)::t,x,y,h,e=>by
  obtain⟨rfl,h2,h3,h4⟩:=h;have l:=Rn.le h4;refine⟨rfl,h2,λi j a c d=>?_,Rn.congr h4 λk h1 h2=>e k (by lia) h2⟩
  rw[e i (by lia) (by lia),e j (by lia) (by lia)]
  exact h3 i j a c d
theorem Rn.mod {f:Ai × Ai × Ai->Ai × Ai × Ai}(hf:∀ u v p,∃ p',f (u,v,p)=(u,v,p')):∀ {L:Aa (Ai × Ai × Ai)} {i x y:Ai},Rn r a L x y->Rn r a (L.modify i f) x y
 |[],i,x,y,h=>by simpa using h
 |(s,n,p)::t,0,x,y,h=>by
  obtain⟨p',e⟩:=hf s n p;rw[List.modify_zero_cons,e];exact h
 |(s,n,p)::t,i+1,x,y,h=>by
  rw[List.modify_succ_cons];exact⟨h.1,h.2.1,h.2.2.1,Rn.mod hf h.2.2.2⟩
end
theorem SL {α:Type}{l:Aa α}{i:Ai}(h:i+1<l.length):∃ L1 x y L2,l=L1++x::y::L2/\L1.length=i:=by
 refine⟨l.take i,l[i],l[i+1],l.drop (i+2),?_,by rw[El];lia⟩
 rw[<- Hx h,<- Hx (by lia),OI]
section
variable {prog:Bd}{w:Bz}{A:Bt}{E:Ac->Ag->Prop}{s:Ag}{κ : Mq}{U:Bs->Prop}{r:Bs->Al}
theorem fZ (C:Cm (As prog w) A s κ U r){i e:Ai}{Q:Aq->Gg->Prop}{arr:Ax Bs}{pd:Ax (Ai × Ai × Ai)}{g:Ai}(ua:∀ x∈arr.toList,U x)(hi:i+1<pd.size)(R:Rn r arr pd.toList 0 e)(he:e<=arr.size)
  (h:∀ b pd' g,b.toList.Perm arr.toList->(∀ k,e<=k->b.getD k nv=arr.getD k nv)->Rn r b pd'.toList 0 e->pd'.size+1=pd.size->Q true (Dh κ b pd' g none)):wpS (As prog w) A E s (mergeAt' i) Q (Dh κ arr pd g none):=by
 obtain⟨L1,⟨sa,na,pa⟩,⟨sb,nb,pb⟩,L2,el,hl⟩:=SL (l:=pd.toList) (i:=i) (by simpa using hi)
 rw[el] at R;obtain⟨m,R1,rfl,p1,s1,rfl,p2,s2,R2⟩:=Rn.app.mp R;have l2:=Rn.le R2;have e1:pd[i]? = Ab (sa,na,pa):=by
  rw[<- Bk,el,<- hl,Cs (Au _),Xk];rfl
 have e2:pd[i+1]? = Ab (sa+na,nb,pb):=by
  rw[<- Bk,el,<- hl,Cs (by lia),Kk];rfl
 refine eR C ua e1 e2 p1 p2 (by lia) s1 s2 λb g pm out sg=>?_
 have ep:((pd.setIfInBounds i (sa,na+nb,pa)).eraseIdxIfInBounds (i+1)).toList=L1++(sa,na+nb,pa)::L2:=by
  rw[Array.toList_eraseIdxIfInBounds,Array.toList_setIfInBounds,el,<- hl,List.set_append_right _ _ (Au _),Xk,List.set_cons_zero,List.eraseIdx_append_of_length_le (by lia),Kk]
  rfl
 refine h b _ g pm (λk hk=>out k (by lia)) ?_ ?_
 .rw[ep]
  refine Rn.app.mpr ⟨sa,R1.congr λk _ hk=>out k (by lia),rfl,by lia,sg,?_⟩
  rw[<- Nat.add_assoc];exact R2.congr λk hk _=>out k (by lia)
 .have:=congrArg Ol ep
  have q:=congrArg Ol el;simp only[Bg,Cj,Bj] at this q
  lia
theorem lT (C:Cm (As prog w) A s κ U r){Q:Qv->Gg->Prop}{arr:Ax Bs}{g:Ai}(ua:∀ x∈arr.toList,U x)(h2:0<arr.size)
  (h:∀ b pd g,b.toList.Perm arr.toList->b.toList.Pairwise (Le r)->Q () (Dh κ b pd g none)):wpS (As prog w) A E s sortRuns' Q (Dh κ arr #[] g none):=by
 have uc:∀ {b:Ax Bs},b.toList.Perm arr.toList->∀ x∈b.toList,U x:=λh x hx=>ua x (h.mem_iff.mp hx);have zc:∀ {b:Ax Bs},b.toList.Perm arr.toList->b.size=arr.size:=λh=>by simpa using h.length_eq
 refine AT (Nk ?_);dsimp only;refine AT (Hq (Fu (I:=λx c st'=>∃ b pd g lo,st'=Dh κ b pd g none/\c=(none,lo)/\b.toList.Perm arr.toList/\lo<=arr.size/\min x arr.size<=lo/\Rn r b pd.toList 0 lo)
  (Q:=λc st'=>∃ b pd g,st'=Dh κ b pd g none/\c=(none,arr.size)/\b.toList.Perm arr.toList/\Rn r b pd.toList 0 arr.size) ?_ ?_ ⟨arr,#[],g,0,rfl,rfl,Np _,by lia,by lia,rfl⟩) ?_)
 .rintro x c st' _ hx ⟨b,pd,g,lo,rfl,rfl,pm,lo1,lo2,R⟩
  have zb:=zc pm;dsimp only;refine qP (λe=>Br ⟨b,pd,g,rfl,by rw[show lo=arr.size by lia],pm,by rw[show arr.size=lo by lia];exact R⟩) λe=>?_
  refine AT (lS C (uc pm) (by lia) (by lia) λn b2 n1 n2 cr sg=>?_)
  have R2:Rn r b2 pd.toList 0 lo:=R.congr λk _ hk=>cr.out k (.inl hk);have pm2:=cr.pm.trans pm;have z2:=zc pm2;dsimp only;apply qP
  case' h1 =>
   intro lt;refine AT (Qs (Hd ⟨rfl,?_⟩));refine AT (eB C (uc pm2) (by lia) (by lia) sg λb3 cr3 sg3=>?_)
   have R3:Rn r b3 pd.toList 0 lo:=R2.congr λk _ hk=>cr3.out k (.inl hk);have pm3:=cr3.pm.trans pm2;refine qP (λe=>by simp at e) λ_=>?_
   have n3:lo+min (arr.size-lo) ((sortPriv% PySem.Builtin.minRun) arr.size arr.size 0)<=arr.size:=by lia
   have n4:0<min (arr.size-lo) ((sortPriv% PySem.Builtin.minRun) arr.size arr.size 0):=by lia
  case' h2 =>
   intro lt;have R3:=R2;have pm3:=pm2;have sg3:=sg;have n3:lo+n<=arr.size:=by lia
   have n4:0<n:=n1
  all_goals
   refine AT (Nk ?_);dsimp only;rcases hb:pd.back? with _|⟨s1,l1,p1⟩
   .dsimp only
    refine AT (Jj (Br ⟨_,_,_,_,rfl,rfl,pm3,n3,by lia,?_⟩))
    show Rn r _ (pd.push _).toList 0 _;rw[Er];exact Rn.app.mpr ⟨lo,R3,rfl,n4,sg3,rfl⟩
   .dsimp only
    refine AT (Hq (Fu (I:=λ_ c st'=>c=(none,())/\∃ b pd g,st'=Dh κ b pd g none/\b.toList.Perm arr.toList/\Rn r b pd.toList 0 lo/\Seg r b lo _)
     (Q:=λc st'=>c=(none,())/\∃ b pd g,st'=Dh κ b pd g none/\b.toList.Perm arr.toList/\Rn r b pd.toList 0 lo/\Seg r b lo _) ?_ (λ_ _ z=>z) ⟨rfl,_,pd,g,rfl,pm3,R3,sg3⟩) ?_)
    .rintro y c st' _ hy ⟨rfl,b,pd,g,rfl,pm,R,sg⟩
     have zb:=zc pm;refine AT (Nk ?_);dsimp only;by_cases hp:pd.size>1
     .rw[Bl hp]
      rcases hq:pd[pd.size-2]? with _|⟨u,v,old⟩
      .exact Br ⟨rfl,b,pd,g,rfl,pm,R,sg⟩
      .dsimp only
       refine qP (λ_=>Br ⟨rfl,b,pd,g,rfl,pm,R,sg⟩) λ_=>?_;refine AT (fZ C (uc pm) (by lia) R (by lia) λb' pd' g' p' out R' _=>?_)
       refine qP (λe=>by simp at e) λ_=>Br ⟨rfl,b',pd',g',rfl,p'.trans pm,R',λi j a c d=>?_⟩
       rw[out i a,out j (by lia)]
       exact sg i j a c d
     .rw[Bm hp]
      exact Br ⟨rfl,b,pd,g,rfl,pm,R,sg⟩
    .rintro c st' ⟨rfl,b,pd,g,rfl,pm,R,sg⟩
     dsimp only;refine AT (Jj (AT (Jj (Br ⟨_,_,_,_,rfl,rfl,pm,n3,by lia,?_⟩))))
     show Rn r b ((pd.modify (pd.size-1) _).push _).toList 0 _;rw[Er,Array.toList_modify];exact Rn.app.mpr ⟨lo,Rn.mod (λ_ _ _=>⟨_,rfl⟩) R,rfl,n4,sg,rfl⟩
 .rintro c st' ⟨b,pd,g,lo,rfl,rfl,pm,lo1,lo2,R⟩
  have:lo=arr.size:=by lia
  subst this;exact⟨b,pd,g,rfl,rfl,pm,R⟩
 .rintro c st' ⟨b,pd,g,rfl,rfl,pm,R⟩
  dsimp only;have hl:=R.le;rw[Bg] at hl;refine AT (Hq (Fu (I:=λx c st'=>c=(none,())/\∃ b pd g,st'=Dh κ b pd g none/\b.toList.Perm arr.toList/\Rn r b pd.toList 0 arr.size/\(pd.size<=1\/pd.size+x<=arr.size))
   (Q:=λc st'=>c=(none,())/\∃ b pd g,st'=Dh κ b pd g none/\b.toList.Perm arr.toList/\Rn r b pd.toList 0 arr.size/\pd.size<=1) ?_ ?_ ⟨rfl,b,pd,g,rfl,pm,R,by lia⟩) ?_)
  .rintro x c st' _ hx ⟨rfl,b,pd,g,rfl,pm,R,hs⟩
   have zb:=zc pm;refine AT (Nk ?_);dsimp only;refine qP (λe=>Br ⟨rfl,b,pd,g,rfl,pm,R,e⟩) λe=>?_;refine AT (fZ C (uc pm) ?_ R (by lia) λb' pd' g' p' out R' z'=>?_)
   .have e:¬ pd.size<=1:=e
    have q:∀ (c:Prop) [Jk c],(if c then pd.size-2-1 else pd.size-2)+1<pd.size:=λc _=>by split <;> lia
    exact q _
   exact qP (λe=>by simp at e) λ_=>Br ⟨rfl,b',pd',g',rfl,p'.trans pm,R',by lia⟩
  .rintro c st' ⟨rfl,b,pd,g,rfl,pm,R,hs⟩
   exact⟨rfl,b,pd,g,rfl,pm,R,by lia⟩
  .rintro c st' ⟨rfl,b,pd,g,rfl,pm,R,hs⟩
   have zb:=zc pm;refine Br (h b pd g pm ?_);have hs:pd.toList.length<=1:=by simpa using hs
   revert R hs
   cases pd.toList with
   |nil=>intro R;have:0=arr.size:=R;lia
   |cons q t =>
    obtain⟨s0,n0,p0⟩:=q;intro R hs;have:t=[]:=by cases t with|nil=>rfl|cons _ _=>simp at hs
    subst this;obtain⟨rfl,_,sg,e⟩:=R;have e:n0=arr.size:=by have:0+n0=arr.size:=e;lia
    subst e;rw[Js];intro i j hi hj l;have hi':i<b.size:=by simpa using hi
    have hj':j<b.size:=by simpa using hj
    have:=sg i j (by lia) (by lia) (by lia)
    simpa [Gr,hi',hj',Le] using this
end
structure Cmps (prog:Bd)(w:Bz)(h0:Bq)(vs:Aa Ac)(f:Ai->Ai->Aq):Prop where
 ex:∃ κ,∀ (A:Bt),A.units+8<Fi->∀ (s:Ag),Sup h0 s.heap->(∀ (Q:Mq->Ag->Prop) (E:Ac->Ag->Prop),Q κ s->Ao (As prog w) A (keyKind' vs.toArray) Q E s)/\∀ i j (C:Aq->Ag->Prop),i<vs.length->j<vs.length->C (f i j) s->kas_ask prog w A κ vs i j C s
open Classical in
def kV {K:Type}(is:K->Ac->Prop)(d:K)(v:Ac):K:=if h:∃ k,is k v then choose h else d
open Classical in
theorem fX {K:Type}{is:K->Ac->Prop}{d:K}{v:Ac}(h:∃ k,is k v):is (kV is d v) v:=by
 unfold kV;rw[dif_pos h];exact choose_spec h
section
variable {prog:Bd}{w:Bz}{A:Bt}{E:Ac->Ag->Prop}{s:Ag}
theorem J9 {K:Type}{is:K->Ac->Prop}{lt':K->K->Aq}{d:K}(O:Ord lt')(inj:∀ {k k':K} {v:Ac},is k v->is k' v->k=k'){a:Af}{vs:Aa Ac}{ks:Aa K}{n:Ai}{h0:Bq}{P:PySem.Fin->Ag->Prop}(hlen:vs.length=ks.length)(hks:∀ i v,vs[i]? = Ab v->is (ks.getD i d) v)(ho:s.heap.get? a=Ab (Es "list" vs.toArray n))(hu:A.units+8<Fi)(hz:vs.length<=100000)(c:2<=vs.length->Cmps prog w h0 vs (dN lt' ks d))(hS:Sup h0 s.heap)(ha:h0.get? a=none)
  (h:∀ ps:Aa (K × Ac),ps.Perm (ks.zip vs)->Nf lt' (ps.map (·.1))->P (.done (.ret .none)) { s with heap:=sortedHeap s.heap a vs (ps.map (·.2)).toArray }) : Ao (As prog w) A (Hn.«list.sort» ⟨[.ref a],[]⟩) P E s:=by
 rw[list_sort_plain];have hb:a<s.heap.objs.size:=Ay ho;have hsz:vs.toArray.size=vs.length:=by simp
 refine Ad (listItems_at ho rfl (Ad (listUpdate_at ho rfl ?_ (by rw[hsz,Ej];lia) (Io _))))
 obtain⟨e1,ho1⟩:∃ e1,(s.heap.update a (Fb λ_=>#[])).get? a=Ab (Es "list" #[] e1):=⟨_,Mt ho (λ_=>#[])⟩;refine Ad (seqEpoch_at ho1 rfl (Ad (Uw (Ad (We (Ee ?_) (Io _))) (by show vs.length<=_;rw[Ej];lia))))
 have ho6:(((s.heap.update a (Fb λ_=>#[])).push (Es "tuple" vs.toArray 0)).push (Es "list" #[] 0)).get? a=Ab (Es "list" #[] e1):=
  Ah _ (Ah _ ho1)
 have S6:Sup h0 (((s.heap.update a (Fb λ_=>#[])).push (Es "tuple" vs.toArray 0)).push (Es "list" #[] 0)):=λb o e =>
  Ah _ (Ah _ ((Di _ _ (λz:a=b=>by rw[<- z,ha] at e;cases e)).trans (hS b o e)))
 show Ao (As prog w) A _ P E { s with heap:=((s.heap.update a (Fb λ_=>#[])).push (Es "tuple" vs.toArray 0)).push (Es "list" #[] 0) }
 dsimp only;have fin:∀ (st':Gg) (ps:Aa (K × Ac)),(arrOf st').map (·.2)=(ps.map (·.2)).toArray->failedOf st'=none->ps.Perm (ks.zip vs)->Nf lt' (ps.map (·.1))->Ao (As prog w) A (do
   let touched:=(<- seqEpoch a) != e1
   Builtin.List.listUpdate (.ref a) λ_=>(arrOf st').map (·.2)
   if let Ab e:=failedOf st' then rule "list.sort.comparison-raised";throw e
   if touched then rule "list.sort.modified";raiseError "ValueError" "list modified during sort"
   ret .none) P E { s with heap:=((s.heap.update a (Fb λ_=>#[])).push (Es "tuple" vs.toArray 0)).push (Es "list" #[] 0) }:=by
  intro st' ps h1 h2 h3 h4;have hl:(ps.map (·.2)).length=vs.length:=by rw[Av,h3.length_eq,Pa,hlen,Xe]
  refine Ad (seqEpoch_at ho6 rfl ?_);rw[h1];refine Ad (listUpdate_at ho6 rfl ?_ (Io _) (by show (ps.map (·.2)).toArray.size<=_;rw[Bf,hl,Ej];lia))
  rw[h2];simp only[bne_self_eq_false,By,Ef];exact Am (h ps h3 h4)
 by_cases h2:vs.toArray.size<2
 .rw[Bl h2,Bl h2]
  refine Ad (Am ?_);rw[StateT.run_pure];refine Ad (Am ?_);refine fin (Dh general' (vs.toArray.zip vs.toArray) #[] 7 none) (ks.zip vs) ?_ rfl (Np _) ?_
  .show (vs.toArray.zip vs.toArray).map (·.2)=_
   apply Ze.mp;simp[List.map_snd_zip,hlen]
  .rw[Si (by lia)]
   match ks,hlen with
   |[],_=>exact Nr
   |[_],_=>exact Sz _ _
   |_::_::_,e=>simp at e h2;lia
 .rw[Bm h2,Bm h2]
  have h2':2<=vs.length:=by lia
  obtain⟨κ,C⟩:=c h2';obtain⟨k1,k2⟩:=C A hu { s with heap:=((s.heap.update a (Fb λ_=>#[])).push (Es "tuple" vs.toArray 0)).push (Es "list" #[] 0) } S6
  have kv:∀ i,i<vs.length->kV is d (vs.getD i Dm)=ks.getD i d:=λi hi=>by
   have q:=hks i (vs.getD i Dm) (by rw[Qr,Ar hi];rfl)
   exact inj (fX ⟨_,q⟩) q
  have km:∀ i,i<vs.length->ks.getD i d∈ks:=λi hi=>by
   have:i<ks.length:=by lia
   simp[Kh,this]
  have cm:Cm (As prog w) A { s with heap:=((s.heap.update a (Fb λ_=>#[])).push (Es "tuple" vs.toArray 0)).push (Es "list" #[] 0) } κ (λx=>∃ i,i<vs.length/\x=(vs.getD i Dm,vs.getD i Dm)) (λx=>gM lt' ks (kV is d x.1)):=by
   refine⟨?_⟩;rintro x y ⟨i,hi,rfl⟩ ⟨j,hj,rfl⟩ E Q st hk q;rw[lt'_eq];refine AT (Nk ?_);rw[hk];rw[kv i hi,kv j hj,<- rK O (km i hi)] at q;refine AT (Qs (Iu (Hm (k2 i j (λb s'=>s'=_/\b=dN lt' ks d i j) hi hj ⟨rfl,rfl⟩) ?_ λ_ _ e=>e.elim)));rintro b s' ⟨rfl,rfl⟩;exact⟨rfl,Br q⟩
  have pl:(vs.toArray.zip vs.toArray).toList=(De vs.length).map λi=>(vs.getD i Dm,vs.getD i Dm):=by
   apply Ox
   .simp
   .intro i h1 h2
    have:i<vs.length:=by simpa using h2
    simp[this]
  refine Ad (k1 _ _ ?_);refine Ad (Hm (lT (E:=E) (Q:=λ_ st'=>∃ b pd g,st'=Dh κ b pd g none/\b.toList.Perm (vs.toArray.zip vs.toArray).toList/\b.toList.Pairwise (Le λx=>gM lt' ks (kV is d x.1))) cm (arr:=vs.toArray.zip vs.toArray) (g:=7) ?_ ?_ λb pd g p q=>⟨b,pd,g,rfl,p,q⟩) ?_ λ_ _ e=>e)
  .intro x hx
   rw[pl] at hx;obtain⟨i,hi,rfl⟩:=Dc.mp hx;exact⟨i,Fk.mp hi,rfl⟩
  .simp;lia
  .rintro⟨⟨⟩,st'⟩ s' ⟨rfl,b,pd,g,rfl,pm,up⟩
   refine fin _ (b.toList.map λx=>(kV is d x.1,x.2)) ?_ rfl ?_ ?_
   .show b.map (·.2)=_
    apply Ze.mp;simp
   .refine(pm.map _).trans ?_
    rw[pl,Ht];have:ks.zip vs=(De vs.length).map λi=>(ks.getD i d,vs.getD i Dm):=by
     apply Ox
     .simp[hlen]
     .intro i h1 h2
      have h3:i<vs.length:=by simpa using h2
      have h4:i<ks.length:=by lia
      simp[h3,h4]
    rw[this];refine List.Perm.of_eq (List.map_congr_left λi hi=>?_);show (kV is d (vs.getD i Dm),_)=_;rw[kv i (Fk.mp hi)]
   .unfold Nf
    rw[Ht,Ge];refine up.imp_of_mem λ{x y} hx hy h=>?_;have hx:=pm.mem_iff.mp hx;have hy:=pm.mem_iff.mp hy;rw[pl] at hx hy;obtain⟨i,hi,rfl⟩:=Dc.mp hx;obtain⟨j,hj,rfl⟩:=Dc.mp hy;have h:gM lt' ks (kV is d (vs.getD i Dm))<=gM lt' ks (kV is d (vs.getD j Dm)):=h;show lt' (kV is d (vs.getD j Dm)) (kV is d (vs.getD i Dm))=false;have hj:=Fk.mp hj;rw[rK O (ks:=ks) (by rw[kv j hj];exact km j hj)]
    exact Dd (by lia)
end
section
variable {prog:Bd}{w:Bz}{h0:Bq}
theorem PL {A:Bt}{s:Ag}{b:Aq}{Q:Aq->Ag->Prop}:∀ {xs ys:Aa Al} {us vs:Aa Ac} {i:Ai} {N M:Ai},ItemsAre (Bh prog w) xs us->ItemsAre (Bh prog w) ys vs->N+ys.length=M+xs.length->Q (_H.lexLt xs ys) s->KatLex prog w A b (decide (N<M)) Q (us.zip vs) i s:=by
 intro xs ys us vs i N M hx
 induction hx generalizing ys vs i with
 |nil =>
  intro hy hl h;cases hy with
  |nil =>
   have:decide (N<M)=false:=Dd (by simp at hl;lia)
   rw[this];exact h
  |@cons k v ys vs q r =>
   have:decide (N<M)=true:=Dk (by simp at hl;lia)
   rw[this];exact h
 |@cons x u xs us qx rx ih =>
  intro hy hl h;cases hy with
  |nil =>
   have:decide (N<M)=false:=Dd (by simp at hl;lia)
   rw[this];exact h
  |@cons y v ys vs qy ry =>
   obtain⟨t,rfl⟩:=wL (prog:=prog) (w:=w) qx;obtain⟨t',rfl⟩:=wL (prog:=prog) (w:=w) qy;rw[Qc];refine kat_cons (Yi ?_);rw[_H.lexLt_cons] at h;refine kat_go (λe=>kat_yes ?_) λe=>kat_no ?_
   .rw[Bl (by simpa using e)] at h
    exact ih ry (by simp at hl;lia) h
   .rw[Bm (by simpa using e)] at h
    cases b&&i == 0 with
    |true=>exact oneLt_int h
    |false=>exact kat_one _ _ (Vr h)
theorem aR {h:Bq}:∀ {vs:Aa Ac} {ks:Aa (Aa Al)},vs.length=ks.length->(∀ i v,vs[i]? = Ab v->isT prog w h (ks.getD i []) v)->(∀ k∈ks,k≠[])->∃ fs,KatTups h vs fs/\fs.length=vs.length/\∀ f∈fs,∃ n t,f=Jm n t
 |[],[],_,_,_=>⟨[],trivial,rfl,λf hf=>by simp at hf⟩
 |v::vs,k::ks,hl,hv,hne=>by
  obtain⟨fs,a1,a2,a3⟩:=aR (vs:=vs) (ks:=ks) (by simpa using hl) (λi u hu=>by simpa using hv (i+1) u (by simpa using hu)) λk hk=>hne k (by simp[hk])
  obtain⟨a,rfl,o,items,n,ho,hc,hd,hi⟩:=hv 0 v rfl;have hk:k≠[]:=hne k (by simp)
  have hi':ItemsAre (Bh prog w) k items.toList:=hi;cases hz:items.toList with
  |nil=>rw[hz] at hi';cases hi';exact absurd rfl hk
  |cons f rest =>
   rw[hz] at hi';cases hi' with
   |cons q _ =>
    obtain⟨t,rfl⟩:=wL (prog:=prog) (w:=w) q;refine⟨_::fs,KatTups.cons ho hc hd (by rw[<- Bk,hz];rfl) a1,by simp[a2],λf hf=>?_⟩
    rcases Aw.mp hf with rfl|hf
    .exact⟨_,_,rfl⟩
    .exact a3 f hf
theorem MH {ks:Aa (Aa Al)}(hl:vs.length=ks.length)(hv:∀ i v,vs[i]? = Ab v->isT prog w h0 (ks.getD i []) v)(hne:∀ k∈ks,k≠[])(h2:2<=vs.length):Cmps prog w h0 vs (dN _H.lexLt ks []):=by
 refine⟨tuples' (Hb "int" != Hb "tuple"),λA hu s hS=>⟨λQ E h=>?_,λi j C hi hj h=>?_⟩⟩
 .obtain⟨fs,a1,a2,a3⟩:=aR (h:=s.heap) hl (λi v hv'=>by obtain⟨a,e,q⟩:=hv i v hv';exact⟨a,e,vY hS q⟩) hne
  refine kat_kind a1 (by lia) (λv hv'=>?_) (by decide) h
  obtain⟨n,t,rfl⟩:=a3 v hv';exact Looks.of_pure rfl
 .have g:∀ k (hk:k<vs.length),∃ a,vs.getD k Dm=.ref a/\Pl (Bh prog w) s.heap (ks.getD k []) a:=λk hk=>by
   obtain⟨a,e,q⟩:=hv k vs[k] (Ar hk);exact⟨a,by rw[<- e];simp[Kh,hk],vY hS q⟩
  obtain⟨a,ea,oa,ia,na,ha,_,da,qa⟩:=g i hi;obtain⟨b,eb,ob,ib,nb,hb,_,db,qb⟩:=g j hj;unfold kas_ask;rw[ea,eb];refine kat_lt ha da hb db (PL qa qb ?_ h);have la:=qa.length;have lb:=qb.length;simp only[Bg] at la lb
  lia
theorem MG {ks:Aa Al}(hl:vs.length=ks.length)(hv:∀ i v,vs[i]? = Ab v->isI prog w (ks.getD i 0) v)(h2:2<=vs.length):Cmps prog w h0 vs (dN ltI ks 0):=by
 have hi:∀ v∈vs,∃ n t,v=Jm n t:=λv hm=>by
  obtain⟨i,hi,e⟩:=Cu.mp hm;obtain⟨t,q⟩:=wL (hv i v (by rw[Ar hi,e]))
  exact⟨_,t,q⟩
 refine⟨oneType',λA hu s hS=>⟨λQ E h=>?_,λi j C hi hj h=>?_⟩⟩
 .obtain⟨v₁,v₂,rest,rfl⟩:∃ v₁ v₂ rest,vs=v₁::v₂::rest:=by
   match vs,h2 with
   |v₁::v₂::rest,_=>exact⟨v₁,v₂,rest,rfl⟩
  rw[keyKind_ints (intsAre_map _ hi)];exact Am h
 .have g:∀ k (hk:k<vs.length),∃ t,vs.getD k Dm=.int (ks.getD k 0) t:=λk hk=>by
   obtain⟨t,q⟩:=wL (hv k vs[k] (Ar hk));exact⟨t,by rw[<- q];simp[Kh,hk]⟩
  obtain⟨t,et⟩:=g i hi;obtain⟨u,eu⟩:=g j hj;unfold kas_ask;rw[et,eu];exact kat_lt_int h
end
section
variable {K:Type}{lt':K->K->Aq}
theorem W6 {α:Type}{ks:Aa K}{vs:Aa α}{d:K}(hl:vs.length=ks.length){p:K × α}(h:p∈ks.zip vs):∃ i,vs[i]? = Ab p.2/\ks.getD i d=p.1:=by
 obtain⟨i,hi,e⟩:=Cu.mp h;have h1:i<ks.length:=by rw[Pa] at hi;lia
 have h2:i<vs.length:=by lia
 rw[List.getElem_zip] at e;subst e;exact⟨i,Ar h2,by simp[h1]⟩
end
structure Kind (prog:Bd)(w:Bz){K:Type}(is:K->Ac->Prop)(hash:K->Al)(lt':K->K->Aq)(d:K)(Fit:K->Prop)(h0:Bq):Prop where
 ord:Ord lt'
 inj:∀ {k k':K} {v:Ac},is k v->is k' v->k=k'
 cmps:∀ {vs:Aa Ac} {ks:Aa K},vs.length=ks.length->(∀ i v,vs[i]? = Ab v->is (ks.getD i d) v)->(∀ k∈ks,Fit k)->2<=vs.length->Cmps prog w h0 vs (dN lt' ks d)
theorem J7 (prog:Bd)(w:Bz)(h0:Bq):Kind prog w (isT prog w h0) (Bu (Bh prog w)) _H.lexLt [] (·≠[]) h0:=⟨gL,isT.inj,λh1 h2 h3 h4=>MH h1 h2 h3 h4⟩
theorem J3 (prog:Bd)(w:Bz)(h0:Bq):Kind prog w (isI prog w) (Bh prog w).hash ltI 0 (λ_=>Od) h0:=⟨VD,λa b=>(Bh prog w).inj _ _ _ a b,λh1 h2 _ h4=>MG h1 h2 h4⟩
section
variable {prog:Bd}{w:Bz}{A:Bt}{E:Ac->Ag->Prop}{s:Ag}{K:Type}{is:K->Ac->Prop}{hash:K->Al}{lt':K->K->Aq}{d:K}{Fit:K->Prop}{h0:Bq}{S:Af}{V:Aa Ac}{seen:Aa K}
open Classical in
def kOf (is:K->Ac->Prop)(d:K)(e:Al × Ac):K:=if h:∃ k,is k e.2 then choose h else d
open Classical in
theorem ND {e:Al × Ac}(h:∃ k,is k e.2):is (kOf is d e) e.2:=by
 unfold kOf;rw[dif_pos h];exact choose_spec h
theorem oI {Q:Ac->Ag->Prop}(kd:Kind prog w is hash lt' d Fit h0)(hh:A.handled=none)(hu:A.units+16<Fi)(hS:Sup h0 s.heap)(Z:SetK is hash S (wG w) V seen s.heap)(hf:∀ k∈seen,Fit k){U:Aa K}(hU:U.length<=1000)(hU1:∀ k∈seen,k∈U)
  (h:∀ h' tk D c (ps:Aa (K × Ac)),(∀ b o,s.heap.get? b=Ab o->h'.get? b=Ab o)->s.heap.objs.size<=D->h'.get? D=Ab (Es "list" (ps.map (·.2)).toArray c)->ps.map (·.1)=srt lt' seen->(∀ p∈ps,is p.1 p.2/\p.2∈V)->ps.length<=1000->Q (.ref D) { s with heap:=h',toks:=tk }) :
  Ao (As prog w) A (call (.builtin "sorted") [.ref S]) Q E s:=by
 obtain⟨es,ep,t,ho,Z0,T,hl,hV⟩:=Z;have st:Still w S es ep t:=⟨T,hl⟩;have hn:es.size<=1000:=by
  have:=f7 es.toList U Z0.nd λe he=>by
   obtain⟨k',_,q⟩:=Z0.good e he;exact⟨k',hU1 k' ((Z0.mem k').mpr ⟨e,he,q⟩),q⟩
  rw[Bg] at this
  lia
 have op:=mD w S ep es;have osz:=uI w S ep es;have good:∀ e∈(qS w S ep es).toList,is (kOf is d e) e.2/\e.2∈V:=λe he=>by
  have he':=op.mem_iff.mp he;obtain⟨k,_,q⟩:=Z0.good e he';exact⟨ND ⟨k,q⟩,hV e he'⟩
 have nd0:(qS w S ep es).toList.Pairwise λa b=>∀ k,is k a.2->¬ is k b.2:=(op.pairwise_iff λ{x y} h k hy hx=>h k hx hy).mpr Z0.nd;generalize hoe:(qS w S ep es).toList=oe at *;have hoel:oe.length<=1000:=by rw[op.length_eq,Bg];exact hn
 have hks:∀ i v,(oe.map (·.2))[i]? = Ab v->is ((oe.map (kOf is d)).getD i d) v/\v∈V:=λi v hv=>by
  rw[Dp] at hv;cases hi:oe[i]? with
  |none=>rw[hi] at hv;cases hv
  |some e =>
   rw[hi] at hv;cases hv;have g:=good e (Bp hi);have:(oe.map (kOf is d)).getD i d=kOf is d e:=by rw[Qr,Dp,hi];rfl
   rw[this];exact g
 have nd:(oe.map (kOf is d)).Nodup:=by
  unfold f8;rw[Ge];refine Rv (λ{a b} ha hb h e=>?_) nd0;exact h _ (good a ha).1 (e▸(good b hb).1)
 have mem:∀ x,x∈oe.map (kOf is d)↔x∈seen:=λx=>by
  rw[Z0.mem,Dc];constructor
  .rintro⟨e,he,rfl⟩
   exact⟨e,op.mem_iff.mp he,(good e he).1⟩
  .rintro⟨e,he,q⟩
   exact⟨e,op.mem_iff.mpr he,kd.inj (good e (op.mem_iff.mpr he)).1 q⟩
 have hlen:(oe.map (·.2)).length=(oe.map (kOf is d)).length:=by simp
 refine Ro kind_sorted plain_sorted entry_sorted (args_sorted1 _) ?_;unfold Hn.«sorted»;refine Ad (m:=checkCount "sorted" 1 1 _) (Am ?_);refine Ad (eD hh st ho (by lia) λh1 tk1 kp1 hlt=>?_)
 rw[hoe];refine Ad (We ?_ (by rw[Ej,Av];lia))
 have hD:(h1.push (Es "list" (oe.map (·.2)).toArray 0)).get? h1.objs.size=Ab (Es "list" (oe.map (·.2)).toArray 0):=Ba _ rfl
 have n0:h0.get? h1.objs.size=none:=by
  cases q:h0.get? h1.objs.size with
  |none=>rfl
  |some o=>exact absurd (Ay (hS _ _ q)) (NE.mpr (Fd hlt))
 show Ao _ _ _ _ _ { s with heap:=h1.push (Es "list" (oe.map (·.2)).toArray 0),toks:=tk1 }
 refine Ad (Ee (Em slot_list_sort ⟨_,hD,rfl⟩ Zs (J9 (h0:=h0) (is:=is) kd.ord kd.inj (d:=d) (vs:=oe.map (·.2)) hlen (λi v hv=>(hks i v hv).1) hD (by show A.units+2+8<Fi;lia) (by rw[Av];lia) (λh2=>kd.cmps hlen (λi v hv=>(hks i v hv).1) (λk hk=>hf k ((mem k).mp hk)) h2) (λb o e=>Ah _ (kp1 b o (hS b o e))) n0 λps pm nf=>⟨_,rfl,?_⟩) (args_list_sort _)))
 refine Am ⟨_,rfl,?_⟩;have hz:(h1.push (Es "list" (oe.map (·.2)).toArray 0)).objs.size=h1.objs.size+1:=size_push' ..
 have old:∀ b o,b≠h1.objs.size->(h1.push (Es "list" (oe.map (·.2)).toArray 0)).get? b=Ab o->((((h1.push (Es "list" (oe.map (·.2)).toArray 0)).update h1.objs.size (Fb λ_=>#[])).push (Es "tuple" (oe.map (·.2)).toArray 0)).push (Es "list" #[] 0)).get? b=Ab o:=λb o hb e =>
  Ah _ (Ah _ ((Di _ _ (Gb hb)).trans e))
 obtain⟨e1,he1⟩:∃ e1,((h1.push (Es "list" (oe.map (·.2)).toArray 0)).update h1.objs.size (Fb λ_=>#[])).get? h1.objs.size=Ab (Es "list" #[] e1):=⟨_,Mt hD (λ_=>#[])⟩
 have he6:=Mt (Ah (Es "list" #[] 0) (Ah (Es "tuple" (oe.map (·.2)).toArray 0) he1)) (λ_=>(ps.map (·.2)).toArray)
 have pk:(ps.map (·.1)).Perm (oe.map (kOf is d)):=by
  have:=pm.map (·.1)
  rwa [Si (by lia)] at this
 refine h _ tk1 h1.objs.size _ ps (λb o e=>?_) (Fd hlt) he6 (NV kd.ord nf (pk.nodup_iff.mpr nd) λx=>by rw[pk.mem_iff,mem]) (λp hp=>?_) (by have:=pk.length_eq;rw[Av,Av] at this;lia)
 .have hb:b≠h1.objs.size:=λz=>by
   subst z;exact absurd (Ay e) (NE.mpr (Fd hlt))
  exact(Di _ _ (Gb hb)).trans (old b o hb (Ah _ (kp1 b o e)))
 .obtain⟨i,e1,e2⟩:=W6 (d:=d) hlen (pm.mem_iff.mp hp)
  exact e2▸hks i _ e1
end
end _S
namespace _D
open PySem PySem.Spec PyProof.Rows _L
noncomputable def wN:Aa D->Ak (Aa (Aa Al))
 |[]=>Ab []
 |.tup ys::r=>(zU ys).bind λk=>(wN r).map (k::·)
 |_::_=>none
noncomputable def tpD (k:Aa Al):D:=.tup (k.map D.int)
theorem fF:∀ {ds:Aa D} {ks:Aa (Aa Al)},wN ds=Ab ks->ds=ks.map tpD
 |[],ks,h=>by cases h;rfl
 |d::r,ks,h=>by
  cases d with
  |tup ys =>
   obtain⟨k,h1,h2⟩:=Ei.mp (show (zU ys).bind (λk=>(wN r).map (k::·))=Ab ks from h)
   obtain⟨m,h3,rfl⟩:=Do.mp h2;rw[fF h3,vO h1];rfl
  |_=>cases h
theorem pL (ks:Aa (Aa Al)):wN (ks.map tpD)=Ab ks:=by
 induction ks with
 |nil=>rfl
 |cons k ks ih =>
  show (zU (k.map D.int)).bind (λk=>(wN (ks.map tpD)).map (k::·))=_
  rw[xS,ih];rfl
noncomputable def jG (xs:Aa D):Ak (Aa D):=match zU xs with
 |some ns=>if (_S.srt _S.ltI ns).length<=1000 then Ab ((_S.srt _S.ltI ns).map D.int) else none
 |none=>match wN xs with
  |some ks=>if ((_S.srt _H.lexLt ks).length<=1000&&ks.all λk=>!k.isEmpty) then Ab ((_S.srt _H.lexLt ks).map tpD) else none
  |none=>none
noncomputable def U3:D->Ak (Aa D)
 |.lst xs=>Ab xs
 |.tup xs=>Ab xs
 |_=>none
theorem U8 {K:Type}{lt':K->K->Aq}(O:_S.Ord lt')(ks:Aa K)(d:K):_S.srt lt' (_S.y9 (λi=>ks.getD i d) ks.length)=_S.srt lt' ks:=
 _S.nJ O (_S.pJ O _) (_S.pJ O _) λx=>by
  rw[_S.uM O,_S.uM O,_S.jS];constructor
  .rintro⟨i,hi,rfl⟩
   simp[Kh,hi]
  .intro hx
   obtain⟨i,hi,e⟩:=Cu.mp hx;exact⟨i,hi,by simp[Kh,hi,e]⟩
section
variable {X:Cx}{e:Bw}{fa:DE}{p1 p2 pos1 pos2:Fl}
theorem oW:Fc "sorted" = Ab (.builtin "sorted"):=by decide +kernel
theorem tI {prog:Bd}{w:Bz}:∀ {k:Aa Al} {us:Aa Ac},qK (k.map V.int) us->ItemsAre (Bh prog w) k us
 |[],us,h=>by cases h;exact .nil
 |i::k,us,h=>by
  cases h with
  |cons q t =>
   obtain⟨tk,rfl⟩:=q;exact .cons (Wa _ _ _ _) (tI t)
theorem rP {pins:Aa (Af × Co)}{σ : _L.St}{H P:Hp}{α : Aa Af}{S:Sto}{s:Ag}{d:D}{xs:Aa D}{v:V}{vv:Ac}(I:Inv X pins σ H s)(r:Rel X.K H P α S)(p:Rep X.K P α d v)(q:qL v vv)(h:U3 d=Ab xs) :
  ∃ a vs its,vv=.ref a/\qE X.K P α xs vs/\qK vs its/\(s.heap.IsList a its.toArray\/s.heap.IsTuple a its.toArray)/\xs.length=its.length:=by
 cases d with
 |lst ys =>
  cases h;obtain⟨a,vs,its,n,rfl,_,t,rv,e,l,_⟩:=yZ I r p;exact⟨a,vs,its,q,t,rv,.inl ⟨_,e,rfl,n,rfl⟩,l⟩
 |tup ys =>
  cases h;obtain⟨a,vs,its,rfl,_,t,rv,⟨o,e,hc,n,hd⟩,l,_⟩:=vZ I r p;exact⟨a,vs,its,q,t,rv,.inr ⟨o,e,hc,n,hd⟩,l⟩
 |_=>cases h
end
end _D
section
namespace _D
open PySem PySem.Spec PyProof.Rows _L
mutual
noncomputable def pyD:D->Ak PyData
 |.non=>Ab .none
 |.bl b=>Ab (.bool b)
 |.int i=>Ab (.int i)
 |.str x=>Ab (.str x)
 |.tup xs=>(fB xs).map .tuple
 |.lst xs=>(fB xs).map .list
 |.dct0=>Ab (.dict [])
 |_=>none
noncomputable def fB:Aa D->Ak (Aa PyData)
 |[]=>Ab []
 |d::ds=>(pyD d).bind λx=>(fB ds).map (x::·)
end
end _D
end
namespace _S
open PySem PySem.W PyProof.Rows
section
variable {prog:Bd}{w:Bz}{A:Bt}{E:Ac->Ag->Prop}{s:Ag}{K:Type}{is:K->Ac->Prop}{hash:K->Al}{lt':K->K->Aq}{d:K}{Fit:K->Prop}{h0:Bq}
theorem oH {Q:Ac->Ag->Prop}(kd:Kind prog w is hash lt' d Fit h0)(hu:A.units+16<Fi)(hS:Sup h0 s.heap){l:Af}{vs:Aa Ac}(hl:s.heap.IsList l vs.toArray\/s.heap.IsTuple l vs.toArray)(ks:Aa K)(hlen:vs.length=ks.length)(hks:∀ i v,vs[i]? = Ab v->is (ks.getD i d) v)(hf:∀ k∈ks,Fit k)(hoel:vs.length<=100000)
  (h:∀ (h1 h':Bq) (tk:Ai) (D:Af) (c:Ai) (ps:Aa (K × Ac)),(∀ b o,s.heap.get? b=Ab o->h1.get? b=Ab o)->(∀ b o,h1.get? b=Ab o->h'.get? b=Ab o)->h1.objs.size<=D->h'.get? D=Ab (Es "list" (ps.map (·.2)).toArray c)->ps.map (·.1)=jH lt' ks->(∀ p∈ps,is p.1 p.2/\p.2∈vs)->ps.length=ks.length->Q (.ref D) { s with heap:=h',toks:=tk }) :
  Ao (As prog w) A (call (.builtin "sorted") [.ref l]) Q E s:=by
 refine Ro kind_sorted plain_sorted entry_sorted (args_sorted1 _) ?_;unfold Hn.«sorted»;refine Ad (m:=checkCount "sorted" 1 1 _) (Am ?_);have hcol:∀ {R:Aa Ac->Ag->Prop},(∀ h1:Bq,(∀ b o,s.heap.get? b=Ab o->h1.get? b=Ab o)->R vs { s with heap:=h1 }) -> Ao (As prog w) A.in1 (collect (.ref l)) R E s:=λ{R} hR=>by
  have e:vs.toArray.toList=vs:=by simp
  rcases hl with⟨o,ho,hc,n,hd⟩|⟨o,ho,hc,n,hd⟩
  .exact Yg l (.inl rfl) ho hc hd (λh' hk=>by rw[e];exact hR h' hk) (by rw[Bf,Ej];lia)
  .exact Yg l (.inr rfl) ho hc hd (λh' hk=>by rw[e];exact hR h' hk) (by rw[Bf,Ej];lia)
 refine Ad (hcol λh1 kp1=>?_);refine Ad (We ?_ (by rw[Ej];lia))
 have hD:(h1.push (Es "list" vs.toArray 0)).get? h1.objs.size=Ab (Es "list" vs.toArray 0):=Ba _ rfl;have n0:h0.get? h1.objs.size=none:=by
  cases q:h0.get? h1.objs.size with
  |none=>rfl
  |some o=>exact absurd (Ay (kp1 _ _ (hS _ _ q))) (Et _)
 show Ao _ _ _ _ _ { s with heap:=h1.push (Es "list" vs.toArray 0),toks:=s.toks }
 refine Ad (Ee (Em slot_list_sort ⟨_,hD,rfl⟩ Zs (J9 (h0:=h0) (is:=is) kd.ord kd.inj (d:=d) (vs:=vs) hlen hks hD (by show A.units+2+8<Fi;lia) hoel (λh2=>kd.cmps hlen hks hf h2) (λb o e=>Ah _ (kp1 b o (hS b o e))) n0 λps pm nf=>⟨_,rfl,?_⟩) (args_list_sort _)))
 refine Am ⟨_,rfl,?_⟩;have hz:(h1.push (Es "list" vs.toArray 0)).objs.size=h1.objs.size+1:=size_push' ..;have old:∀ b o,b≠h1.objs.size->(h1.push (Es "list" vs.toArray 0)).get? b=Ab o->((((h1.push (Es "list" vs.toArray 0)).update h1.objs.size (Fb λ_=>#[])).push (Es "tuple" vs.toArray 0)).push (Es "list" #[] 0)).get? b=Ab o:=λb o hb e =>
  Ah _ (Ah _ ((Di _ _ (Gb hb)).trans e))
 obtain⟨e1,he1⟩:∃ e1,((h1.push (Es "list" vs.toArray 0)).update h1.objs.size (Fb λ_=>#[])).get? h1.objs.size=Ab (Es "list" #[] e1):=⟨_,Mt hD (λ_=>#[])⟩;have he6:=Mt (Ah (Es "list" #[] 0) (Ah (Es "tuple" vs.toArray 0) he1)) (λ_=>(ps.map (·.2)).toArray)
 have pk:(ps.map (·.1)).Perm ks:=by
  have:=pm.map (·.1)
  rwa [Si (by lia)] at this
 refine h h1 _ s.toks h1.objs.size _ ps kp1 (λb o e=>?_) (Au _) he6 (tS kd.ord nf (aP kd.ord ks) (pk.trans (lK ks).symm)) (λp hp=>?_) (by have:=pk.length_eq;rwa [Av] at this)
 .have hb:b≠h1.objs.size:=λz=>by
   subst z;exact absurd (Ay e) (Et _)
  exact(Di _ _ (Gb hb)).trans (old b o hb (Ah _ e))
 .obtain⟨i,e1,e2⟩:=W6 (d:=d) hlen (pm.mem_iff.mp hp)
  exact⟨e2▸hks i _ e1,Bp e1⟩
end
end _S
namespace _D
open PySem PySem.Spec PyProof.Rows _L
noncomputable def gO (xs:Aa D):Ak (Aa D):=match zU xs with
 |some ns=>if ns.length<=100000 then Ab ((_S.jH _S.ltI ns).map D.int) else none
 |none=>match wN xs with
  |some ks=>if (decide (ks.length<=100000)&&ks.all λk=>!k.isEmpty) then Ab ((_S.jH _H.lexLt ks).map tpD) else none
  |none=>none
noncomputable def U7 (R:Aa D->Sto->Res D):DF:=λds S=>match ds with
 |[d]=>match (U3 d).bind gO with
  |some ys=>R ys S
  |none=>.bad
 |_=>.bad
noncomputable def mZ:DF:=U7 λys S=>.ok (.lst ys) S
section
variable {X:Cx}{pins:Aa (Af × Co)}{σ : _L.St}{H P:Hp}{α : Aa Af}{S:Sto}{s:Ag}
inductive NewR (X:Cx)(pins:Aa (Af × Co))(σ : _L.St)(H P:Hp)(α : Aa Af)(ys:Aa D)(u:Ac)(s':Ag):Prop
 |mk (D:Af) (vs:Aa V) (e:u=.ref D) (hn:H D=none) (I:Inv X pins σ (upd H D (.lst vs)) s') (rp:qE X.K P α ys vs):NewR X pins σ H P α ys u s'
theorem lJ {K:Type}{is:K->Ac->Prop}{hash:K->Al}{lt':K->K->Aq}{d:K}{Fit:K->Prop}(kd:_S.Kind X.prog X.w is hash lt' d Fit s.heap)(hu:X.A.units+64<Fi)(I:Inv X pins σ H s)(r:Rel X.K H P α S){a:Af}{its:Aa Ac}
  (ha:s.heap.IsList a its.toArray\/s.heap.IsTuple a its.toArray) (ks:Aa K) (hl:ks.length=its.length) (hk:∀ i v,its[i]? = Ab v->is (ks.getD i d) v) (hn:ks.length<=100000) (hf:∀ k∈ks,Fit k) (enc:K->D)
  (back:∀ k v,is k v->v∈its->∃ vv,qL vv v/\Rep X.K P α (enc k) vv) {E:Ac->Ag->Prop} :
  Ao (As X.prog X.w) X.A (call (.builtin "sorted") [.ref a]) (NewR X pins σ H P α ((_S.jH lt' ks).map enc)) E s:=by
 refine _S.oH kd li (λ_ _ e=>e) ha ks hl.symm hk hf li λh1 h2 tk2 D c ps kp1 kp2 hD hob hps hp hpl=>?_;have I1:Inv X pins σ H { s with heap:=h1,toks:=s.toks }:=I.kept kp1
 have vv:∀ (ps:Aa (K × Ac)),(∀ p∈ps,is p.1 p.2/\p.2∈its)->∃ vs,qK vs (ps.map (·.2))/\qE X.K P α ((ps.map (·.1)).map enc) vs:=by
  intro ps
  induction ps with
  |nil=>exact λ_=>⟨[],.nil,.nil⟩
  |cons p ps ih =>
   intro h;obtain⟨vs,a1,a2⟩:=ih λq hq=>h q (by simp[hq])
   obtain⟨v,b1,b2⟩:=back p.1 p.2 (h p (by simp)).1 (h p (by simp)).2
   exact⟨v::vs,.cons b1 a1,.cons b2 a2⟩
 obtain⟨vs,a1,a2⟩:=vv ps hp;rw[hps] at a2;have nd:([(D,HO.lst vs)].map (·.1)).Nodup:=by simp
 have I2:Inv X pins σ (kA H [(D,HO.lst vs)]) { s with heap:=h2,toks:=tk2 }:=Inv.laidL (s:={ s with heap:=h1,toks:=s.toks }) (L:=[(D,HO.lst vs)]) (t':=tk2) I1 kp2 (λp hpm=>by
  have:p=(D,HO.lst vs):=by simpa using hpm
  subst this;exact hD) λp hpm=>by
  have:p=(D,HO.lst vs):=by simpa using hpm
  subst this;refine⟨?_,ps.map (·.2),c,a1,hob⟩
  have:=a1.length;rw[Av] at this;rw[this,Ej]
  lia
 exact⟨D,vs,rfl,I1.hok.fresh hD,I2,a2⟩
set_option tactic.hygienic true in
theorem oG {E:Ac->Ag->Prop}(hu:X.A.units+64<Fi)(I:Inv X pins σ H s)(r:Rel X.K H P α S){a:Af}{xs ys:Aa D}{vs:Aa V}{its:Aa Ac}(t1:qE X.K P α xs vs)(rv1:qK vs its)(e1:s.heap.IsList a its.toArray\/s.heap.IsTuple a its.toArray)(l1:xs.length=its.length)(hs:gO xs=Ab ys) :
  Ao (As X.prog X.w) X.A (call (.builtin "sorted") [.ref a]) (NewR X pins σ H P α ys) E s:=by
 unfold gO at hs;cases hi:zU xs with
 |some ns =>
  rw[hi] at hs;dsimp only at hs
  split at hs
  .rename_i hlt
   cases hs;have:=vO hi;subst this;have:=wR t1;subst this;refine lJ (d:=0) (_S.J3 X.prog X.w s.heap) hu I r e1 ns (by simpa using l1) (λi u hu'=>?_) hlt (λ_ _=>trivial) D.int λk u hk _=>?_
   .have hi:Jo its ns:=by simpa using uD rv1
    obtain⟨t,rfl⟩:=Pz hi i u hu';exact Wa _ _ _ _
   .obtain⟨t,rfl⟩:=_S.wL hk
    exact⟨.int k,⟨t,rfl⟩,by simp only[Rep]⟩
  .cases hs
 |none =>
  rw[hi] at hs;dsimp only at hs;cases ht:wN xs with
  |none=>rw[ht] at hs;cases hs
  |some ks =>
   rw[ht] at hs;dsimp only at hs
   split at hs
   .rename_i hlt
    cases hs;rw[Az,Bv] at hlt;have:=fF ht;subst this;have at':∀ (i:Ai) (u:Ac),its[i]? = Ab u->∃ b,u=.ref b/\Pl (Bh X.prog X.w) s.heap (ks.getD i []) b/\∃ vv,qL vv u/\Rep X.K P α (tpD (ks.getD i [])) vv:=λi u hu'=>by
     have hii:i<its.length:=(Bo.mp hu').1;have hik:i<ks.length:=by rw[Av] at l1;lia
     obtain⟨v,p,q,_⟩:=w8 t1 rv1 (j:=i) (by rw[Bf];exact hii)
     have hd:(ks.map tpD).getD i D.non=tpD (ks.getD i []):=by simp[Kh,hik]
     rw[hd] at p;have hu2:its.toArray[i]'(by rw[Bf];exact hii)=u:=by
      rw[Ar hii] at hu';simpa using hu'
     rw[hu2] at q;obtain⟨b,ws,us,rfl,sq,t,rv,⟨o,ho,hcl,m,hd⟩,_,_⟩:=vZ I r (show Rep X.K P α (.tup ((ks.getD i []).map D.int)) v from p)
     cases (show u=Ce b from q)
     have:=wR t;subst this;exact⟨b,rfl,⟨o,us.toArray,m,ho,hcl,hd,by simpa using tI rv⟩,.ref b,rfl,p⟩
    refine lJ (d:=[]) (_S.J7 X.prog X.w s.heap) hu I r e1 ks (by simpa using l1) (λi u hu'=>?_) hlt.1 (λk hk=>?_) tpD λk u hk hm'=>?_
    .obtain⟨b,rfl,q,_⟩:=at' i u hu'
     exact⟨b,rfl,q⟩
    .have:=Cn.mp hlt.2 k hk
     intro z;subst z;cases this
    .obtain⟨i,hi',rfl⟩:=Cu.mp hm'
     obtain⟨b,eb,q,w,rw',pw⟩:=at' i _ (Ar hi');have:k=ks.getD i []:=_S.isT.inj hk ⟨b,eb,q⟩;rw[this];exact⟨w,rw',pw⟩
   .cases hs
theorem H8 (hu:X.A.units+64<Fi){vs:Aa V}{us:Aa Ac}{ds:Aa D}{Q:VK}{R:Aa D->Sto->Res D}(I:Inv X pins σ H s)(r:Rel X.K H P α S)(rv:qK vs us)(rp:qE X.K P α ds vs)(af:qV X P α (U7 R ds S) Q)
  (k:∀ ys D vs',H D=none->qE X.K P α ys vs'->qV X P α (R ys S) Q->Q (.ref D) (upd H D (.lst vs'))):Ao (As X.prog X.w) X.A (call (.builtin "sorted") us) (EP X pins σ Q) X.xe s:=by
 match ds,af,rp with
 |[],af,_=>exact An af
 |_::_::_,af,_=>exact An af
 |[d],af,rp =>
  simp only[U7] at af;cases hq:(U3 d).bind gO with
  |none=>rw[hq] at af;exact An af
  |some ys =>
   rw[hq] at af;obtain⟨xs,hd,hs⟩:=Ei.mp hq;obtain⟨v,u,rfl,rfl,p,q⟩:=vC rp rv;obtain⟨a,vs,its,rfl,t1,rv1,e1,l1⟩:=rP I r p q hd;refine thn (oG hu I r t1 rv1 e1 l1 hs) λu' s3 ⟨D,vs',e,hn,I',rp'⟩=>?_;subst e;exact⟨.ref D,_,I',rfl,k ys D vs' hn rp' af⟩
theorem Q0 (hu:X.A.units+64<Fi):w5 X (.builtin "sorted") mZ:=by
 intro pins σ H s P α S vs us ds Q I r rv rp af;exact H8 hu I r rv rp af λys D vs' hn rp' af'=>xV r hn rp' af'
end
section
variable {X:Cx}{cm:Aq}{k:Ai}
theorem UI (hr:RoomC cm k X.A):ZCall X (.builtin "sorted") mZ:=⟨Q0 hr.units⟩
end
end _D
namespace _L
open PySem PySem.Spec PyProof.Rows
variable {loose:Aa Ap}{mg mb:Ap->Ak Ac}
def HV (H:Hp):Prop:=∀ b,H b=none\/(∃ o xs,H b=Ab (.frz o (.lst xs)))\/H b=Ab (.tbl #[])
def Tb0 (K:Aj)(H:Hp):Prop:=∀ x∈w9,∀ c T,Du K x=Ab (c,T)->H T=Ab (.tbl #[])
structure Tabs (K:Aj)(h:Bq):Prop where
 at':∀ x∈w9,∀ c T,Du K x=Ab (c,T)->Ut h c T/\h.get? T=Ab (Ln #[]) /\ K.lookup T=none
 inj:∀ x∈w9,∀ y∈w9,∀ c d T,Du K x=Ab (c,T)->Du K y=Ab (d,T)->x=y
theorem V0 {P:Bd}{w:Bz}{K:Aj}{CX:CXT}{k:Ai}{fa a:Af}{fd:Fw}{x:Ap}{sp:Sp}{s₁:Ag}{vs:Aa Ac}{ns:Aa Al}
  (KX:K.In s₁.heap) (hns:s₁.heap.Ns Cg mg) (hb:s₁.heap.Ns Pe mb) (hbb:∀ x:Ap,x ≠ "__name__" -> mb x=Fc x) (hlim:s₁.heap.NoLimit) (hg:s₁.gens=#[]) (hbm:FX mg s₁.heap) (tbs:Tabs K s₁.heap)
  (ha:s₁.heap.get? a=Ab { cls:=.type "list",data:=.seq vs.toArray }) (hi:Jo vs ns) (hl:ns.length<=sizeLine) (hr:Room k Qy)
  (F:∀ base:Bq,K.In base->base.Ns Cg mg->FnOk P w K mg base CX k fa fd [x] sp) (hbind:∀ (s:Ag) (u:Ac),Oh s fd ⟨[u],[]⟩ [(x,u)])
  (hsp:∀ H:Hp,Tb0 K H->SqX K H a (ns.map V.int)->sp [.ref a] H (λv _=>v=.bl true) λ_ _ _=>Fh)
  (hCX:∀ H e s',CX [] H s₁ (λ_ _ _=>Fh) e s'->Fh) :
  Hu (As P w) Qy (.call (.ref fa) ⟨[.ref a],[]⟩) (λr s'=>r=.ok (.ret (.bool true))/\OldK s₁.heap s'.heap/\s'.os=s₁.os/\Oe s'.gens) s₁:=by
 have rv:=W2 hi;have lenV:=hi.length
 let isT:Af->Prop:=λb=>∃ x∈w9,∃ c,Du K x=Ab (c,b)
 have tab:∀ b,isT b->s₁.heap.get? b=Ab (Ln #[]) /\ K.lookup b=none:=λb ⟨x,hx,c,h⟩=>(tbs.at' x hx c b h).2;have core:∀ H:Hp,HV H->Tb0 K H->SqX K H a (ns.map V.int)->HOk P w H s₁.heap->(∀ b,H b≠none->b=a\/isT b)->(H a≠none->K.lookup a=none) ->
   Hu (As P w) Qy (.call (.ref fa) ⟨[.ref a],[]⟩) (λr s'=>r=.ok (.ret (.bool true))/\OldK s₁.heap s'.heap/\s'.os=s₁.os/\Oe s'.gens) s₁:=by
  intro H hO hT hS hok hA hK;have base_of:∀ {b:Af} {o:Co},s₁.heap.get? b=Ab o->H b=none->(gA s₁.heap H).get? b=Ab o:=λe n=>YJ e n;have noA:∀ {b:Af} {o:Co},s₁.heap.get? b=Ab o->o.cls≠.none->(o.cls≠.type "list" \/ ∃ es ep,o.data=.dict es ep)->H b=none:=λ{b o} e c1 c2=>by
   cases q:H b with
   |none=>rfl
   |some u =>
    rcases hA b (by rw[q];simp) with e'|e'
    .subst e'
     rw[ha] at e;cases e;rcases c2 with z|⟨es,ep,d⟩
     .exact absurd rfl z
     .cases d
    .rw[(tab b e').1] at e;cases e
     exact absurd rfl c1
  have noD:∀ {b:Af} {o:Co} {es:Ax DictEntry} {ep:Ai},s₁.heap.get? b=Ab o->o.data=.dict es ep->H b=none:=λ{b o es ep} e d=>by
   cases q:H b with
   |none=>rfl
   |some u =>
    rcases hA b (by rw[q];simp) with e'|e'
    .subst e'
     rw[ha] at e;cases e;cases d
    .rw[(tab b e').1] at e;cases e;cases d
  have nsK:∀ {b:Af} {m:Ap->Ak Ac},s₁.heap.Ns b m->(gA s₁.heap H).Ns b m:=λ{b m} ⟨o,es,ep,e,d,r⟩=>⟨o,es,ep,base_of e (noD e d),d,r⟩;have hKb:K.In (gA s₁.heap H):=λb o e=>base_of (KX b o e) (by
   cases q:H b with
   |none=>rfl
   |some u =>
    rcases hA b (by rw[q];simp) with e'|e'
    .subst e'
     rw[hK (by rw[q];simp)] at e;cases e
    .rw[(tab b e').2] at e;cases e)
  have hM:Mod K mg (gA s₁.heap H):=by
   refine⟨hKb,nsK hns,⟨mb,nsK hb,hbb⟩,let ⟨mc,h1,h2⟩:=hlim;⟨mc,nsK h1,h2⟩,?_,λx hx c T h=>?_,tbs.inj⟩
   .obtain⟨bm,o,b1,b2,b3,b4,b5⟩:=hbm
    exact⟨bm,o,b1,b2,base_of b3 (noA b3 (by rw[b4];nofun) (.inl (by rw[b4];decide))),b4,b5⟩
   .obtain⟨o,vs,file,tf,flags,tg,inF,text,tt,e1,e2,r⟩:=(tbs.at' x hx c T h).1
    exact⟨o,vs,file,tf,flags,tg,inF,text,tt,base_of e1 (noA e1 (by rw[e2];nofun) (.inl (by rw[e2];decide))),e2,r⟩
  have e0:Env0 P w K mg (gA s₁.heap H) Qy [] s₁ H:=⟨rfl,hM,λb o e=>B9 e,Xj (QX _ _),trivial,λb hb=>absurd (show b∈([]:Aa Af) from hb) (by simp),hok,.of_eq hg⟩
  refine Ji ((F _ hKb (nsK hns)).run Qy [] s₁ H ⟨[.ref a],[]⟩ [.ref a] [.ref a] _ _ hr e0 (hbind s₁ (.ref a)) (.cons rfl .nil) (hsp H hT hS)) λr s' h=>?_;cases r with
  |error e=>exact(hCX H e s' h).elim
  |ok fl =>
   cases fl with
   |next=>exact An h
   |brk=>exact An h
   |cont=>exact An h
   |ret u =>
    obtain⟨v,H',os,bare,un,hok',r',q⟩:=h;have q':v=.bl true:=q;subst q';obtain rfl:u=Fp true:=r';refine⟨rfl,⟨λb o e=>?_,λb o e=>un.there b o e (by simp)⟩,os,bare⟩
    cases q:H b with
    |none=>exact .inl (un.keep b o e q (by intro z;exact absurd (show b∈([]:Aa Af) from z) (by simp)) (by simp))
    |some u =>
     rcases hO b with z|⟨ob,xs,z⟩|z
     .rw[q] at z;cases z
     .have z2:=un.frzs b ob _ z
      obtain⟨e1,_⟩:=hok b _ z;obtain⟨e2,_⟩:=hok' b _ z2;rw[e] at e1;cases e1;exact .inl e2
     .obtain⟨more,z2⟩:=un.tbls b _ z
      have e1:s₁.heap.get? b=Ab (Ln #[]):=hok b _ z;have e2:s'.heap.get? b=Ab (Ln (#[] ++ more)):=hok' b _ z2;rw[e] at e1;cases e1;rcases hA b (by rw[q];simp) with e'|⟨x,hx,c,h⟩
      .subst e';rw[ha] at e;cases e
      .exact .inr (.inl ⟨((tbs.at' x hx c b h).1.tab e).isCodeTable,rfl,#[],more,rfl,e2⟩)
 have nT:¬ isT a:=λh=>by
  have z:=(tab a h).1;rw[ha] at z;cases z
 have tT:∀ x∈w9,∀ c T,Du K x=Ab (c,T)->isT T:=λx hx c T h=>⟨x,hx,c,h⟩;have dec:∀ b,Jk (isT b):=λb=>Classical.propDecidable _;cases hk:K.lookup a with
 |some o =>
  have e:=KX a o hk;rw[ha] at e;cases e;refine core (λb=>if isT b then Ab (.tbl #[]) else none) (λb=>?_) (λx hx c T h=>Bl (tT x hx c T h)) (.inr ⟨vs,_,hk,by rw[Av];exact hl,rv⟩) (λb u z=>?_) (λb z=>?_) λz=>absurd (Bm nT) z
  .by_cases h:isT b
   .exact .inr (.inr (Bl h))
   .exact .inl (Bm h)
  .by_cases h:isT b
   .have z':=(Bl h).symm.trans z
    cases z';exact(tab b h).1
   .have z':=(Bm h).symm.trans z
    cases z'
  .by_cases h:isT b
   .exact .inr h
   .exact absurd (Bm h) z
 |none =>
  refine core (λb=>if b=a then Ab (.frz { cls:=.type "list",data:=.seq vs.toArray } (.lst (ns.map V.int))) else if isT b then Ab (.tbl #[]) else none) (λb=>?_) (λx hx c T h=>?_) (.inl (.inr ⟨{ cls:=.type "list",data:=.seq vs.toArray },Bl rfl⟩)) (λb u z=>?_) (λb z=>?_) λ_=>hk
  .by_cases hb:b=a
   .exact .inr (.inl ⟨_,_,Bl hb⟩)
   .by_cases h:isT b
    .exact .inr (.inr ((Bm hb).trans (Bl h)))
    .exact .inl ((Bm hb).trans (Bm h))
  .have h':=tT x hx c T h
   exact(Bm (λ(z:T=a)=>nT (z▸h'))).trans (Bl h')
  .by_cases hb:b=a
   .have z':=(Bl hb).symm.trans z
    cases z';subst hb;exact⟨ha,by rw[Av];exact hl,vs,_,rv,ha⟩
   .by_cases h:isT b
    .have z':=((Bm hb).trans (Bl h)).symm.trans z
     cases z';exact(tab b h).1
    .have z':=((Bm hb).trans (Bm h)).symm.trans z
     cases z'
  .by_cases hb:b=a
   .exact .inl hb
   .by_cases h:isT b
    .exact .inr h
    .exact absurd ((Bm hb).trans (Bm h)) z
noncomputable def iF (q:Bd)(K:Aj):Aq:=w9.all λx=>match Du K x with
 |none=>true
 |some (_,T)=>((recsOf q).find? λe=>e.name == x).isSome&&((K.lookup T).isNone&&w9.all λy=>match Du K y with
  |none=>true
  |some (_,U)=>x == y||!decide (T=U))
theorem FH {q:Bd}{mean:ExcName->Ak Ac}{h:Bq}{K:Aj}(T:Top q loose mean mg mb h)(X:K.In h)(c:iF q K=true):Tabs K h:=by
 unfold iF at c;have g:∀ x∈w9,∀ d U,Du K x=Ab (d,U)->((recsOf q).find? λe=>e.name == x).isSome=true/\(K.lookup U).isNone=true/\(w9.all λy=>match Du K y with
  |none=>true
  |some (_,V)=>x == y||!decide (U=V))=true:=λx hx d U e=>by
  have z:=Cn.mp c x hx;rw[e] at z;simpa only [Az] using z
 refine⟨λx hx d U e=>?_,λx hx y hy d d' U e1 e2=>?_⟩
 .obtain⟨z1,z2,_⟩:=g x hx d U e
  obtain⟨r,hr⟩:=Jx.mp z1;obtain⟨k1,k2⟩:=PySem.W.tab_of T X hr e;exact⟨k1,k2,by simpa using z2⟩
 .have z:=Cn.mp (g x hx d U e1).2.2 y hy
  rw[e2] at z;simpa using z
theorem FL {l:Zt}{n k:Ai}{q:Bd}{loose:Aa Ap}{XP:(Ap->Ak Ac)->Bq->Prop}{YP:Bz->Bq->Prop}{d:DefRec}{K:Params->Aj}{CX:Bz->CXT}{sp:Bz->Sp}{x:Ap}
  (hn:l.most=Ab n) (hn2:n<=sizeLine) (hdf:d.params.defaults=[]) (hr:Room k Qy) (ht:∀ p,iF q (K p)=true)
  (hY:∀ (w:Bz) (h:Bq),YP w h->(K w.params).In h)
  (F:∀ (w:Bz) (mg:Ap->Ak Ac) (fa:Af) (h:Bq),(K w.params).In h->h.Ns Cg mg->mg d.name=Ab (.ref fa) ->
   ∃ fd:Fw,(∀ (s:Ag) (u:Ac),Oh s fd ⟨[u],[]⟩ [(x,u)]) /\
    ∀ base:Bq,(K w.params).In base->base.Ns Cg mg->FnOk l.prog w (K w.params) mg base (CX w) k fa fd [x] (sp w))
  (hsp:∀ (w:Bz) (H:Hp) (a:Af) (ns:Aa Al),ns.length<=n->Tb0 (K w.params) H->SqX (K w.params) H a (ns.map V.int)->sp w [.ref a] H (λv _=>v=.bl true) λ_ _ _=>Fh)
  (hCX:∀ (w:Bz) (H:Hp) (s:Ag) (e:Ac) (s':Ag),CX w [] H s (λ_ _ _=>Fh) e s'->Fh) :
  Aa7 q loose XP YP l.row.toRowW d [] (λf vs=>ZB f vs):=by
 refine _A.attach_call hn hdf λw s₀ s₁ mg mb fa o pm cd doc a vs ns G Y ho hd hcd hmg hobj hints hlen hg=>?_;have KX:=hY w _ Y;obtain⟨fd,hb,hF⟩:=F w mg fa _ KX G.T.g hmg;exact V0 KX G.T.g G.T.b G.T.builtins G.T.nolimit hg (let ⟨bm,ob,b1,b2,b3,b4,b5,b6⟩:=G.T.bmain;⟨bm,ob,b1,b2,b3,b4,b5,b6⟩) (FH G.T KX (ht _)) hobj hints (DL hlen hn2) hr hF hb (λH hT hS=>hsp w H a ns hlen hT hS) λH e s'=>hCX w H s₁ e s'
end _L
namespace _D
open PySem PySem.Spec PyProof.Rows _L
variable {K:Aj}{mg:Ap->Ak Ac}
theorem SH {h:Bq}(X:K.In h)(G:h.Ns Cg mg){x:Ap}{st:Fj}{ps:Aa Ap}{f:Af}{oc:Ac}{od an:Ak Af}{osl:Ax (Ak Ac)}{kV doc pm cdv ct:Ac}
  (a:Dn K Cg x=Ab (Ab (.ref f)))
  (l:K.lookup f=Ab ⟨oc,od,.func (Gs x x (y8 st) (zK st) (qH st) .none kV doc pm an cdv ct),osl⟩) (c:Lj K cdv x=true) (k:Fn K (.ref f)=true)
  (hb:∀ (kV doc pm:Ac) (an:Ak Af) (cdv ct:Ac) (us:Aa Ac),us.length=ps.length->Tj (Gs x x (y8 st) (zK st) (qH st) .none kV doc pm an cdv ct) ⟨us,[]⟩=pure (ps.zip us)):Src K mg x st ps:=
 have F:=N3 (st:=st) l c k
 ⟨f,_,Wf X G a,F,F.binds hb⟩
noncomputable def dY (K:Aj)(C:Af):Aq:=
 decide (Nm K (.ref C) "__getattribute__" = Ab (Ab (.builtin "BaseException.__getattribute__")))&&decide (Nm K (.ref C) "__getattr__" = Ab none)
 && decide (Nm K (.ref C) "__class__" = Ab (Ab (.builtin "object.__class__")))&&decide (Vo K C (.type "object")=Ab true)&&decide (Vo K C (.type "BaseException")=Ab true)
 && (PySem.W.clsIn K C).isSome&&decide (Li K (.ref C) (.type "ValueError")=Ab true)
noncomputable def WJ (K:Aj):Aq:=
 decide (Xp K (.builtin "object.__class__") "__get__" = Ab (Ab (.builtin "getset_descriptor.__get__")))&&decide (Zi K (.builtin "object.__class__")=Ab true)
noncomputable def MD (K:Aj)(cl:Aa Af):Aq:=cl.all λC=>cl.all λB=>decide (Li K (.ref C) (.ref B)=Ab (C == B))
theorem MF {cl:Aa Af}(h1:cl.all (dY K)=true)(h2:WJ K=true)(h3:MD K cl=true):ClsK K cl:=by
 have g:=h2;unfold WJ at g;simp only[Az,Bv] at g;have k1:∀ C∈cl,dY K C=true:=Cn.mp h1;refine⟨λC hC=>?_,λC hC B hB=>?_,λC hC=>?_⟩
 .have e:=k1 C hC
  unfold dY at e;simp only[Az,Bv] at e;obtain⟨⟨⟨⟨⟨⟨e1,e2⟩,e3⟩,e4⟩,e5⟩,e6⟩,e7⟩:=e;exact⟨e1,e2,e3,g.1,g.2,e4,e5,e6⟩
 .have e:=Cn.mp (Cn.mp h3 C hC) B hB
  exact Cw e
 .have e:=k1 C hC
  unfold dY at e;simp only[Az,Bv] at e;exact e.2
noncomputable def CI (K:Aj)(cs:Aa Ac)(A:Af):Aq:=cs.all λv=>decide (Jz K v (.ref A)=Ab true)
noncomputable def CG (K:Aj)(cs:Aa Af)(A:Af):Aq:=cs.all λC=>bR K C A
noncomputable def CH (K:Aj)(cs:Aa Af):Aq:=cs.all λC=>Fn K (.ref C)
def dG (K:Aj):Sp:=λvs H Q E=>Tb0 K H/\∃ a ns,vs=[.ref a]/\SqX K H a (List.map V.int ns)/\ns.length<=63/\∀ H',Q (.bl true) H'
theorem rL {P:Hp}{α:Aa Af}:∀ ns:Aa Al,qE K P α (ns.map D.int) (ns.map V.int)
 |[]=>.nil
 |n::ns=>.cons (by simp only[Rep]) (rL ns)
noncomputable def noT (H:Hp):Hp:=λb=>match H b with
 |some (.tbl _)=>none
 |u=>u
theorem PD {P:Bd}{w:Bz}{fa:Af}{st:Fj}{k:Ai}{x:Ap}(hs:Src K mg "law" st [x])(hfa:mg "law" = Ab (.ref fa))
  (hbd:∀ (kV doc pm:Ac) (an:Ak Af) (cdv ct:Ac) (s:Ag) (v:Ac),Oh s (Gs "law" "law" (y8 st) (zK st) (qH st) .none kV doc pm an cdv ct) ⟨[v],[]⟩ [(x,v)])
  (hall:∀ base:Bq,∃ F,dI P w K mg base true k "law" [x] F/\∀ ns:Aa Al,ns.length<=63->∃ S,F [.lst (ns.map D.int)] [] = .ok (.bl true) S) :
  ∃ fd:Fw,(∀ (s:Ag) (v:Ac),Oh s fd ⟨[v],[]⟩ [(x,v)])/\∀ base:Bq,K.In base->base.Ns Cg mg->FnOk P w K mg base (CXd P w) k fa fd [x] (dG K):=by
 obtain⟨f,fd,hm,F,hb⟩:=hs;cases hfa.symm.trans hm;refine⟨fd,?_,λbase _ _=>?_⟩
 .obtain⟨oc,od,kV,doc,pm,an,cdv,ct,osl,rfl,_,_⟩:=F.ex
  exact hbd kV doc pm an cdv ct
 .obtain⟨G,⟨f',fd',hm',_,hb',hl,X⟩,hG⟩:=hall base
  cases hm.symm.trans hm';cases hl.one (pW F);refine(X.imp λvs H Q E h=>?_).ok;obtain⟨tb,a,ns,rfl,hS,hl,k⟩:=h;obtain⟨S,e⟩:=hG ns hl;have keep:∀ (b:Af) (u:HO),H b=Ab u->(∀ ps,u≠.tbl ps)->noT H b=Ab u:=λb u q h=>by
   unfold noT;rw[q];cases u with
   |tbl ps=>exact absurd rfl (h ps)
   |_=>rfl
  have hS':SqX K (noT H) a (List.map V.int ns):=by
   rcases hS with (h|⟨o,h⟩)|h
   .exact .inl (.inl (keep _ _ h λ_ z=>by cases z))
   .exact .inl (.inr ⟨o,keep _ _ h λ_ z=>by cases z⟩)
   .exact .inr h
  have sub:qG (noT H) H:=λb u q=>by
   unfold noT at q;cases z:H b with
   |none=>rw[z] at q;cases q
   |some v =>
    rw[z] at q;cases v with
    |tbl ps=>cases q
    |_=>exact q
  refine⟨rfl,noT H,[],[.lst (ns.map D.int)],[],⟨λx hx c T h=>⟨#[],tb x hx c T h,by unfold noT;rw[tb x hx c T h],by simp,trivial,λpos cv z=>by cases z⟩,sub,rfl,.nil,by simp,by simp,by simp⟩,.cons (n8 hS' (rL ns)) .nil,?_⟩
  rw[e];intro v H' P' α' _ _ _ rv;simp only[Rep] at rv;subst rv;exact k H'
theorem HG {l:Zt}{q:Bd}{loose:Aa Ap}{XP:(Ap->Ak Ac)->Bq->Prop}{YP:Bz->Bq->Prop}{d:DefRec}{K:Params->Aj}{k:Ai}{x:Ap}(hn:l.most=Ab 63)(hdf:d.params.defaults=[])(hr:Room k Qy)(ht:∀ p,iF q (K p)=true)
  (hY:∀ (w:Bz) (h:Bq),YP w h->(K w.params).In h)
  (F:∀ (w:Bz) (mg:Ap->Ak Ac) (fa:Af) (h:Bq),(K w.params).In h->h.Ns Cg mg->mg d.name=Ab (.ref fa) ->
   ∃ fd:Fw,(∀ (s:Ag) (u:Ac),Oh s fd ⟨[u],[]⟩ [(x,u)])/\∀ base:Bq,(K w.params).In base->base.Ns Cg mg->FnOk l.prog w (K w.params) mg base (CXd l.prog w) k fa fd [x] (dG (K w.params))) :
  Aa7 q loose XP YP l.row.toRowW d [] (λf vs=>ZB f vs):=
 _L.FL (n:=63) (k:=k) (x:=x) (CX:=λw=>CXd l.prog w) (sp:=λw=>dG (K w.params)) hn (by decide) hdf hr ht hY F (λ_ _ a ns hl hT hS=>⟨hT,a,ns,rfl,hS,hl,λ_=>rfl⟩) λw H s e s' h=>by
  obtain⟨_,_,_,_,_,_,_,_,_,_,_,_,z⟩:=h;exact z
end _D
namespace _D
open PySem
variable {us:Aa Ac}
theorem us0 (h:us.length=0):us=[]:=Kv h
theorem usS {n:Ai}(h:us.length=n+1):∃ a vs,us=a::vs/\vs.length=n:=by
 cases us with
 |nil=>exact absurd h (by simp)
 |cons a vs=>exact⟨a,vs,rfl,by simpa using h⟩
theorem us1 (h:us.length=1):∃ a,us=[a]:=by
 obtain⟨a,vs,rfl,h'⟩:=usS h;exact⟨a,by rw[us0 h']⟩
theorem us2 (h:us.length=2):∃ a b,us=[a,b]:=by
 obtain⟨a,vs,rfl,h'⟩:=usS h;obtain⟨b,rfl⟩:=us1 h';exact⟨a,b,rfl⟩
theorem us3 (h:us.length=3):∃ a b c,us=[a,b,c]:=by
 obtain⟨a,vs,rfl,h'⟩:=usS h;obtain⟨b,c,rfl⟩:=us2 h';exact⟨a,b,c,rfl⟩
end _D
namespace _D
open PySem PySem.Spec PyProof.Rows _L
variable {us:Aa Ac}{caps:Aa D}{E Q:Ac->Ag->Prop}{c':Af}{tk j:Ai}{oc:Co}{d:D}{sc:Eu}{H':Hp}{env:qF}
theorem JS (F:DF):∃ G:DF,G=F:=⟨F,rfl⟩
def sh (F:DF):DF:=Ov (JS F)
theorem zO (F:DF):sh F=F:=Ow (JS F)
noncomputable def isV:Ak Ia->Aq
 |some .local => true
 |some .cell=>true
 |some .free=>true
 |_=>false
noncomputable def isL:Ak Ia->Aq
 |some .local => true
 |some .cell=>true
 |_=>false
noncomputable def isG:Ak Ia->Aq
 |some .globalImplicit=>true
 |_=>false
noncomputable def okN (x:Ap):Aq:=!(x == ("__debug__" : Ap))&&(!(x == ("__classdict__" : Ap))&&!decide (x = "__name__"))
noncomputable def okG (X:Cx)(x:Ap):Aq:=isG (X.env.kindOf x)&&okN x
noncomputable def okB (v:Ac)(x:Ap):Aq:=decide (Fc x=Ab v)
noncomputable def k8 (sc:Eu):Aa Ap:=sc.names.filterMap λy=>if isL (Ab y.2) then Ab y.1 else none
noncomputable def yI (sc:Eu):Aa Ap:=(sc.names.filterMap λy=>if isL (Ab y.2)&&!(y.1 == (".0" : Ap)) then Ab y.1 else none)++sc.names.filterMap λy=>if y.2 == .free then Ab y.1 else none
def Ck (b:Aq):Prop:=b=true
theorem ck {b:Aq}(h:b=true:=by kernel_rfl):Ck b:=h
structure DfS (F:DF)(P:Bd)(w:Bz)(K:Aj)(mg:Ap->Ak Ac)(base:Bq)(cm:Aq)(k:Ai)(x:Ap)(n:Ai):Prop where
 get:Def P w K mg base cm k x n F
noncomputable def okT (X:Cx)(m:Ai)(x:Ap):Aq:=decide (X.N[m]? = Ab x)&&(isL (X.env.scope.names.lookup x)&&(decide X.N.Nodup&&(X.fn x||decide (X.env.scope.names.lookup x=Ab .local))))
noncomputable def okP (X:Cx)(m:Ai)(x:Ap):Aq:=decide (X.N[m]? = Ab x)&&decide (X.env.scope.names.lookup x=Ab .local)
noncomputable def lU (scX:Eu)(NX:Aa Ap)(scope:Eu)(cap:Aa (Ak Ai)):Aq:=
 decide (scope.kind=.function)&&(decide (∀ y∈scope.names,y.2=.local -> scope.names.lookup y.1=Ab .local)&&(decide (∀ y∈scope.names,y.2=.cell->scope.names.lookup y.1=Ab .cell)&&(decide (∀ y∈scope.names,y.2=.free->scX.names.lookup y.1=Ab .cell\/scX.names.lookup y.1=Ab .free)
 && (decide (∀ y∈scope.names,y.2=.free->scope.names.lookup y.1=Ab .free)&&(decide (cap.length=(yI scope).length)&&(((cap.zip (yI scope)).all λp=>match p.1 with|none=>true|some i=>NX[i]? == Ab p.2&&scope.names.lookup p.2 == Ab .free)&&decide (yI scope).Nodup))))))
noncomputable def fnB (N P:Aa Ap)(sc:Eu):Aq:=
 decide (sc.kind=.function)&&(decide (sc.isCoroutine=false)&&(decide (sc.isGenerator=false)&&(decide N.Nodup&&(decide (N.take P.length=P)&&(decide (∀ x∈P,sc.names.lookup x=Ab .local \/ sc.names.lookup x=Ab .cell)&&decide (∀ y∈sc.names,y.2≠.free))))))
theorem dZ {scX:Eu}{NX:Aa Ap}{scope:Eu}{cap:Aa (Ak Ai)}(h:lU scX NX scope cap=true):CompSc scX NX scope (yI scope) cap:=by
 simp only[lU,Az,Bv] at h;obtain⟨a,b,c,d,e,f,g,k⟩:=h;exact⟨a,b,c,d,e,f,g,k⟩
theorem sR {N P:Aa Ap}(h:fnB N P sc=true):FnScope N P sc:=by
 simp only[fnB,Az,Bv] at h;obtain⟨a,b,c,d,e,f,g⟩:=h;exact⟨a,b,c,d,e,f,g⟩
section
variable {X:Cx}{a b c e o elt tg iter:Bw}{ifs rest:Aa Bw}{f g:DS}{fa:DE}{f2:DI2}{dg:DG}{t:DT}{kk:DK}{gens grest:Aa Ew}{scope:Eu}{cap:Aa (Ak Ai)}{mm:Aq}{l q:Ai}{y z:Ap}{G2':G2}{es:Aa Bw}{fA:DA}{x:Ap}{p pos:Fl}{cm:Aq}{k n m:Ai}{F:DF}
theorem cG (h:isV (sc.names.lookup x)=true):Vis sc x:=by
 unfold Vis
 revert h
 cases sc.names.lookup x with
 |none=>intro h;cases h
 |some y=>cases y <;> intro h <;> first|cases h;done|exact .inl rfl|exact .inr (.inl rfl)|exact .inr (.inr rfl)
theorem GS (h:isL (sc.names.lookup x)=true):_L.Loc sc x:=by
 unfold _L.Loc
 revert h
 cases sc.names.lookup x with
 |none=>intro h;cases h
 |some y=>cases y <;> intro h <;> first|cases h;done|exact .inl rfl|exact .inr rfl
theorem kI (h:okN x=true):(x == ("__debug__" : Ap))=false/\(x == ("__classdict__" : Ap))=false/\x ≠ "__name__":=by
 unfold okN at h;rw[Az,Az] at h;exact⟨by simpa using h.1,by simpa using h.2.1,by simpa using h.2.2⟩
theorem wI (h:okG X x=true):Gl X x/\(x == ("__debug__" : Ap))=false/\x ≠ "__name__":=by
 have h:=(Az _ _).mp h;refine⟨?_,(kI h.2).1,(kI h.2).2.2⟩;have z:=h.1;unfold Gl
 revert z
 cases X.env.kindOf x with
 |none=>intro z;cases z
 |some y=>cases y <;> intro z <;> first|cases z;done|rfl
theorem r9 (h:okT X m x=true):X.N[m]? = Ab x/\_L.Loc X.env.scope x/\X.N.Nodup/\(X.fn x=true\/X.env.scope.names.lookup x=Ab .local):=by
 simp only[okT,Az,Bv,OV] at h;exact⟨h.1,GS h.2.1,h.2.2⟩
theorem kJ (h:okP X m x=true):X.N[m]? = Ab x/\X.env.scope.names.lookup x=Ab .local:=by
 simp only[okP,Az,Bv] at h;exact h
theorem UW (h:Ck (okG X x)):Gl X x:=(wI h).1
theorem aV (h:Ck (decide (X.N[m]? = Ab x)&&(isV (X.env.scope.names.lookup x)&&okN x))):QE X (.Name x pos) (qB m):=by
 unfold Ck at h;simp only[Az,Bv] at h;exact DP m h.1 (cG h.2.1) (kI h.2.2).1 (kI h.2.2).2.1
theorem aBt {nm:Dx}(h:Ck (okG X x))(hm:X.mg x=none)(hb:Ck (okB (.type nm) x)):QE X (.Name x pos) (dC (.ty nm)):=
 have h:=wI h
 BN h.1 hm (Cw hb) h.2.2 h.2.1
theorem aCl {C:Af}(h:Ck (okG X x))(hm:X.mg x=Ab (.ref C)/\Fn X.K (.ref C)=true):QE X (.Name x pos) (dC (.obj C)):=
 have h:=wI h
 DB h.1 hm.1 hm.2 h.2.1
theorem aGi {v:Al}(h:Ck (okG X x))(hm:∃ t,X.mg x=Ab (.int v t)):QE X (.Name x pos) (dC (.int v)):=
 have h:=wI h
 BP h.1 hm h.2.1
abbrev St1 (X:Cx)(e:Bw)(es:Aa Bw)(pos:Fl):Prop:=Be (e::es) X.env=(false,eval e X.env)::Be es X.env/\(Gc pos (Be es X.env)).any (·.1)=false
theorem aN (G:DfS F X.prog X.w X.K X.mg X.base cm k x n)(hr:RoomC cm k X.A)(hF:Fn1 X)(h:Ck (okG X x))(ha:QA X (e::es) fA)(s:St1 X e es pos):QE X (.Call (.Name x p) (e::es) [] pos) (qO n F fA):=
 have h:=wI h
 qcN G.1 hr hF h.1 ha h.2.1 s.1 s.2
theorem aO (G:DfS F X.prog X.w X.K X.mg X.base cm k x n)(hr:RoomC cm k X.A)(h:Ck (okG X x))(ha:QA X (e::es) fA)(s:St1 X e es pos):QE X (.Call (.Name x p) (e::es) [] pos) (qO n (okO F) fA):=
 have h:=wI h
 qcO G.1 hr h.1 ha h.2.1 s.1 s.2
theorem aB {id:Dx}(hc:ZCall X (.builtin id) F)(h:Ck (okG X x))(hm:X.mg x=none)(hb:Ck (okB (.builtin id) x))(ha:QA X (e::es) fA)(s:St1 X e es pos):QE X (.Call (.Name x p) (e::es) [] pos) (qN F fA):=
 have h:=wI h
 VL hc h.1 hm (Cw hb) ha h.2.2 h.2.1 s.1 s.2
theorem aT {T:Dx}(hc:ZCall X (.type T) F)(h:Ck (okG X x))(hm:X.mg x=none)(hb:Ck (okB (.type T) x))(ha:QA X (e::es) fA)(s:St1 X e es pos):QE X (.Call (.Name x p) (e::es) [] pos) (qN F fA):=
 have h:=wI h
 X6 hc h.1 hm (Cw hb) ha h.2.2 h.2.1 s.1 s.2
theorem aC (S:Ck (lU X.env.scope X.N scope cap))(hc:X.calm=true)(hi:QI2 X tg iter f2)(hg:∀ cl C ex s₀ H₀,QG (qY X (yI scope) scope cl C ex s₀ H₀) tg dg)(ht:∀ cl C ex s₀ H₀,QTs (qY X (yI scope) scope cl C ex s₀ H₀) ifs t)
  (has:∀ g',(⟨tg,iter,ifs,0⟩::grest:Aa Ew)[0+1]? = Ab g'->g'.is_async=0)
  (he:∀ cl C ex s₀ H₀,QK (qY X (yI scope) scope cl C ex s₀ H₀) (λacc=>zS elt (⟨tg,iter,ifs,0⟩::grest) scope pos 0 acc (qY X (yI scope) scope cl C ex s₀ H₀).env) kk) (hs:∀ x,Ey iter X.env x=pure x) :
  QE X (.ListComp elt (⟨tg,iter,ifs,0⟩::grest) scope pos) (zJ mm cap f2 dg t kk):=VN hc (dZ S) hi hg ht has he hs
theorem aCs {py spos:Fl}(hsw:Nt (.ListComp elt (⟨tg,iter,ifs,0⟩::grest) scope pos) (Ab (.Name y py)) spos.line X.env=pure true)(S:Ck (lU X.env.scope X.N scope cap))(hN:Ck (okT X m y))(hc:X.calm=true)(hi:QI2 X tg iter f2)(hg:∀ cl C ex s₀ H₀,QG (qY X (yI scope) scope cl C ex s₀ H₀) tg dg)(ht:∀ cl C ex s₀ H₀,QTs (qY X (yI scope) scope cl C ex s₀ H₀) ifs t)
  (has:∀ g',(⟨tg,iter,ifs,0⟩::grest:Aa Ew)[0+1]? = Ab g'->g'.is_async=0)
  (he:∀ cl C ex s₀ H₀,QK (qY X (yI scope) scope cl C ex s₀ H₀) (λacc=>zS elt (⟨tg,iter,ifs,0⟩::grest) scope pos 0 acc (qY X (yI scope) scope cl C ex s₀ H₀).env) kk) (hs:∀ x,Ey iter X.env x=pure x) :
  QS X (.Assign [.Name y py] (.ListComp elt (⟨tg,iter,ifs,0⟩::grest) scope pos) spos) (zD (zJ mm cap f2 dg t kk) (gNm m)):=
 have h:=r9 hN
 VQ hc h.2.2.1 (dZ S) hi hg ht has he h.1 h.2.1 h.2.2.2 hsw hs
theorem aNm (h:Ck (okT X m x)):QG X (.Name x pos) (gNm m):=
 have h:=r9 h
 BU h.2.2.1 h.1 h.2.1 h.2.2.2
theorem aSt {pos':Fl}(hs:Nt e (Ab (.Name x pos')) pos.line X.env=pure false)(he:QE X e fa)(h:Ck (okT X m x)):QS X (.Assign [.Name x pos'] e pos) (zD fa (gNm m)):=
 have h:=r9 h
 DZ h.2.2.1 he h.1 h.2.1 hs h.2.2.2
theorem aP2 {px py pt:Fl} {kt k2 pt2} (h:Ck (decide X.N.Nodup&&(okP X m x&&(okP X l y&&!decide (m=l))))) (hc:X.calm=true) (ha:QA X [a,b] fA)
  (hw:Lv [.Tuple [.Name x px,.Name y py] kt pt] (.Tuple [a,b] k2 pt2) X.env=pure (Ab [x,y])) (hs:Lw [.Tuple [.Name x px,.Name y py] kt pt] (.Tuple [a,b] k2 pt2) pos.line X.env=pure false) :
  QS X (.Assign [.Tuple [.Name x px,.Name y py] kt pt] (.Tuple [a,b] k2 pt2) pos) (nF m l fA):=by
 unfold Ck at h;simp only[Az,Bv,Nu,Ip] at h;exact DY hc h.1 ha (kJ h.2.1).1 (kJ h.2.2.1).1 h.2.2.2 (kJ h.2.1).2 (kJ h.2.2.1).2 hw hs
theorem aRs {C:Af}{np cpos:Fl}(h:Ck (okG X x))(hc:X.calm=true)(hF:Fn1 X)(hm:∃ Ae,X.mg x=Ab (.ref C)/\bR X.K C Ae=true)(ha:QA X (e::rest) fA)(s:St1 X e rest cpos) :
  QS X (.Raise (Ab (.Call (.Name x np) (e::rest) [] cpos)) none pos) (yE (.ref C) fA):=
 have h:=wI h
 let ⟨_,hm,hx⟩:=hm
 VR hc hF h.1 hm hx ha h.2.1 s.1 s.2
theorem aTr {nm:Ap}{body:Aa Fj}{b₀:Fj}{suite:Aa Fj}{np hpos:Fl}{cs:Aa Ac}(h:Ck (okG X x&&(okP X m nm&&(decide X.N.Nodup&&decide (X.N.length=n)))))(hF:Fn1 X)(hm:∃ C0,X.mg x=Ab (.ref C0)/\∀ c∈cs,Jz X.K c (.ref C0)=Ab true)(hb:∀ E pn,ZPass (Cx.tryIn X E pn)->QB (Cx.tryIn X E pn) body f)(hs:∀ e,QB (Cx.suite X e) (b₀::suite) g) :
  QS X (.Try body [.ExceptHandler (Ab (.Name x np)) (Ab nm) (b₀::suite) hpos] [] [] pos) (fE n m cs f g):=by
 unfold Ck at h;simp only[Az,Bv] at h;obtain⟨C0,hm,hcs⟩:=hm;exact S9 hF hb hs (wI h.1).1 hm hcs h.2.2.1 (kJ h.2.1).1 (kJ h.2.1).2 (wI h.1).2.1 h.2.2.2
end
structure TxS (K:Aj)(mg:Ap->Ak Ac)(tp:Ai->Fj)(tab:Aa (Ap × Ai × Aa Ap))(bl:Aa Ap)(clt plt:Aa (Ap × Af))(cs:Aa Ac)(exl:Aa Af)(cst:Aa (Ap × Al)):Prop where
 src:∀ (j:Ai) {x:Ap} {i:Ai} {ps:Aa Ap},tab[j]? = Ab (x,i,ps)->Src K mg x (tp i) ps
 nb:∀ {x:Ap},Ck (bl.contains x)->mg x=none
 cl:∀ {x:Ap} {C:Af},clt.lookup x=Ab C->mg x=Ab (.ref C)/\Fn K (.ref C)=true
 rz:∀ {x:Ap} {C:Af},plt.lookup x=Ab C->∃ Ae,mg x=Ab (.ref C)/\bR K C Ae=true
 ct:∃ C0,mg "FarError" = Ab (.ref C0)/\∀ c∈cs,Jz K c (.ref C0)=Ab true
 cls:ClsK K exl
 gi:∀ {x:Ap} {v:Al},cst.lookup x=Ab v->∃ t,mg x=Ab (.int v t)
section
variable {K:Aj}{mg:Ap->Ak Ac}{cm:Aq}{tp:Ai->Fj}{tab:Aa (Ap × Ai × Aa Ap)}{bl:Aa Ap}{clt plt:Aa (Ap × Af)}{cs:Aa Ac}{exl:Aa Af}{cst:Aa (Ap × Al)}{x:Ap}{i m:Ai}{ps:Aa Ap}{F:DF}{g:DS}
theorem dq (P:Bd)(w:Bz)(base:Bq)(k j:Ai)(T:TxS K mg tp tab bl clt plt cs exl cst)(hj:tab[j]? = Ab (x,i,ps))(h:Ck (fnB (k8 (qH (tp i))) ps (qH (tp i))&&decide ((k8 (qH (tp i))).length=m)))(hF:F=qR m g)
  (hb:∀ (f:Af) (cdv:Ac) (A:Bt) (outer:Aa Ja) (s:Ag) (H:Hp) (E:XK),kN K x cdv->RoomC cm k (A.deeper (Gn x (qH (tp i)) s.heap.objs.size f cdv)) ->
   QB (cxC cm P w K mg base (k8 (qH (tp i))) x (qH (tp i)) f cdv A outer s H E) (zK (tp i)) g):DfS F P w K mg base cm (k+1) x ps.length:=by
 unfold Ck at h;simp only[Az,Bv] at h;obtain⟨h,rfl⟩:=h;exact⟨hF▸CK (T.src j hj) (sR h) rfl hb⟩
theorem dqP {P:Bd}{w:Bz}{base:Bq}(k j:Ai)(T:TxS K mg tp tab bl clt plt cs exl cst)(hj:tab[j]? = Ab (x,i,ps))(h:Ck (fnB (k8 (qH (tp i))) ps (qH (tp i))&&decide ((k8 (qH (tp i))).length=m)))
  (hb:∀ (f:Af) (cdv:Ac) (A:Bt) (outer:Aa Ja) (s:Ag) (H:Hp) (E:XK),kN K x cdv->RoomC cm k (A.deeper (Gn x (qH (tp i)) s.heap.objs.size f cdv)) ->
   QB (cxC cm P w K mg base (k8 (qH (tp i))) x (qH (tp i)) f cdv A outer s H E) (zK (tp i)) g):dI P w K mg base cm (k+1) x ps (qR m g):=by
 unfold Ck at h;simp only[Az,Bv] at h;obtain⟨h,rfl⟩:=h;exact RD (T.src j hj) (sR h) rfl hb
end
theorem hv {a b:Prop}(f:a->b)(h:a):b:=f h
inductive SrcF (K:Aj)(x:Ap)(st:Fj)(ps:Aa Ap):Prop
 |mk {f:Af} {oc:Ac} {od an:Ak Af} {osl:Ax (Ak Ac)} {kV doc pm cdv ct:Ac} (a:Dn K Cg x=Ab (Ab (.ref f)))
  (l:K.lookup f=Ab ⟨oc,od,.func (Gs x x (y8 st) (zK st) (qH st) .none kV doc pm an cdv ct),osl⟩) (c:Lj K cdv x=true) (k:Fn K (.ref f)=true):SrcF K x st ps
def i6 (K:Aj)(tp:Ai->Fj):Aa (Ap × Ai × Aa Ap)->Prop
 |[]=>Od
 |(x,i,ps)::t=>SrcF K x (tp i) ps/\i6 K tp t
def BdF (tp:Ai->Fj):Aa (Ap × Ai × Aa Ap)->Prop
 |[]=>Od
 |(x,i,ps)::t=>(∀ (kV doc pm:Ac) (an:Ak Af) (cdv ct:Ac) (us:Aa Ac),us.length=ps.length->Tj (Gs x x (y8 (tp i)) (zK (tp i)) (qH (tp i)) .none kV doc pm an cdv ct) ⟨us,[]⟩=pure (ps.zip us))/\BdF tp t
def aX (K:Aj):Aa (Ap × Af)->Prop
 |[]=>Od
 |(x,C)::t=>Dn K Cg x=Ab (Ab (.ref C))/\aX K t
def aY (K:Aj):Aa (Ap × Al)->Prop
 |[]=>Od
 |(x,v)::t=>(∃ k,Dn K Cg x=Ab (Ab (.int v k)))/\aY K t
noncomputable def CQ:Ak (Ak Ac)->Aq
 |some none=>true
 |_=>false
section
variable {K:Aj}{h:Bq}{mg:Ap->Ak Ac}{tp:Ai->Fj}
theorem aM (X:K.In h)(G:h.Ns Cg mg):∀ (tab:Aa (Ap × Ai × Aa Ap)),i6 K tp tab->BdF tp tab->∀ (j:Ai) {x:Ap} {i:Ai} {ps:Aa Ap},tab[j]? = Ab (x,i,ps)->Src K mg x (tp i) ps
 |[],_,_,_,_,_,_,e=>by cases e
 |(x,i,ps)::t,H,B,0,_,_,_,e=>by
  cases e;obtain⟨a,l,c,k⟩:=H.1;exact SH X G a l c k B.1
 |(x,i,ps)::t,H,B,j+1,_,_,_,e=>aM X G t H.2 B.2 j e
theorem wU {β:Type}{p:Ap->β->Prop}{x:Ap}{C:β}:∀ {l:Aa (Ap × β)},(∀ y∈l,p y.1 y.2)->l.lookup x=Ab C->p x C
 |[],_,e=>by cases e
 |(y,b)::t,H,e=>by
  rw[Kb] at e;cases q:x == y with
  |true =>
   rw[q] at e;cases e;rw[eq_of_beq q];exact H (y,_) (.head _)
  |false =>
   rw[q] at e;exact wU (λz hz=>H z (.tail _ hz)) e
theorem pO (X:K.In h)(G:h.Ns Cg mg):∀ {l:Aa (Ap × Af)},aX K l->∀ y∈l,mg y.1=Ab (.ref y.2)
 |(x,C)::t,H,y,hy=>by
  rcases Aw.mp hy with rfl|hy
  .exact Wf X G H.1
  .exact pO X G H.2 y hy
theorem hJ (X:K.In h)(G:h.Ns Cg mg):∀ {l:Aa (Ap × Al)},aY K l->∀ y∈l,∃ k,mg y.1=Ab (.int y.2 k)
 |(x,C)::t,H,y,hy=>by
  rcases Aw.mp hy with rfl|hy
  .obtain⟨k,e⟩:=H.1
   exact⟨k,Wf X G e⟩
  .exact hJ X G H.2 y hy
theorem HD {tab:Aa (Ap × Ai × Aa Ap)}{bl:Aa Ap}{clt plt:Aa (Ap × Af)}{cs:Aa Ac}{exl:Aa Af}{cst:Aa (Ap × Al)}{far:Af}(B:BdF tp tab)(hp:∀ y∈plt,y∈clt)(hf:clt.lookup ("FarError" : Ap)=Ab far)(X:K.In h)(G:h.Ns Cg mg)
  (s:i6 K tp tab) (z:(bl.all λx=>CQ (Dn K Cg x))=true) (q:aX K clt) (g:aY K cst) (e1:exl.all (dY K)=true) (e2:WJ K=true) (e3:MD K exl=true) (e4:CI K cs far=true) (e5:CG K (plt.map (·.2)) far=true) (e6:CH K (clt.map (·.2))=true):TxS K mg tp tab bl clt plt cs exl cst where
 src:=aM X G tab s B
 nb:=λ{x} hx=>by
  have e:=Cn.mp z x (by simpa using Ex.mp hx)
  refine PySem.W.mg_none_of X G ?_
  revert e
  cases Dn K Cg x with
  |none=>intro e;cases e
  |some y=>cases y with
   |none=>intro _;rfl
   |some y=>intro e;cases e
 cl:=λh=>⟨wU (p:=λx C=>mg x=Ab (.ref C)) (pO X G q) h,wU (p:=λ_ C=>Fn K (.ref C)=true) (λy hy=>Cn.mp e6 y.2 (Wg hy)) h⟩
 rz:=λh=>⟨far,wU (p:=λx C=>mg x=Ab (.ref C)) (λy hy=>pO X G q y (hp y hy)) h,wU (p:=λ_ C=>bR K C far=true) (λy hy=>Cn.mp e5 y.2 (Wg hy)) h⟩
 ct:=⟨far,wU (p:=λx C=>mg x=Ab (.ref C)) (pO X G q) hf,λv hv=>Cw (Cn.mp e4 v hv)⟩
 cls:=MF e1 e2 e3
 gi:=λh=>wU (p:=λx v=>∃ k,mg x=Ab (.int v k)) (hJ X G g) h
end
structure LamT where
 qual:Ap
 params:OT
 body:Bw
 scope:Eu
noncomputable def xQ (sc:Eu):Aa Ap:=sc.names.filterMap λy=>if y.2 == .free then Ab y.1 else none
inductive CloAt (h:Bq)(H:Hp)(fs:Aa Af)(L:LamT)(a:Af)(cv:Aa V):Prop
 |mk (cl:Aa (Ap × Af)) (pm ctv:Ac) (c:Af) (oc:Co) (ws:Ax Ac) (t:Qt) (o:h.get? a=Ab (Mu "<lambda>" L.qual L.params L.body L.scope cl pm c ctv)) (hc:H c=Ab (.frz oc (.frz oc (.own 0)))) (hd:oc.data=.fields ws) (ht:ws[1]? = Ab (.str L.qual t))
  (inj:∀ x y d,cl.lookup x=Ab d->cl.lookup y=Ab d->x=y) (cel:∀ x d,cl.lookup x=Ab d->H d=none/\∃ v,h.IsCell d v) (has:∀ x,L.scope.names.lookup x=Ab .free->∃ d,cl.lookup x=Ab d)
  (len:cv.length=(xQ L.scope).length) (val:∀ (j:Ai) x v,(xQ L.scope)[j]? = Ab x->cv[j]? = Ab v->∃ d u,cl.lookup x=Ab d/\qL v u/\h.IsCell d (Ab u)) (hn:H a=none) (hf:a ∉ fs):CloAt h H fs L a cv
theorem CloAt.at {X:Cx}{pins:Aa (Af × Co)}{σ:_L.St}{H:Hp}{s:Ag}{L:LamT}{a:Af}{cv:Aa V}(C:CloAt X.s₀.heap X.H₀ X.fs L a cv)(F:Fn1 X)(I:Inv X pins σ H s):CloAt s.heap H (frs X.stack) L a cv:=by
 obtain⟨cl,pm,ctv,c,oc,ws,t,o,hc,hd,ht,inj,cel,has,len,val,hn,hf⟩:=C;have nx:∀ b,b ∉ X.ex:=λb=>by rw[F.1];simp
 have nf:∀ b o,X.s₀.heap.get? b=Ab o->b ∉ X.fs->b ∉ frs X.stack:=λb o e n z=>(F.mem.mp z).elim (Ci (Bb (Ay e) I.ok.above)) n;have kc:∀ d v,X.H₀ d=none->X.s₀.heap.IsCell d v->s.heap.IsCell d v:=λd v h1 ⟨o,e,q⟩=>let ⟨_,z⟩:=I.base.any e h1 (nx d);⟨_,z,q⟩
 refine⟨cl,pm,ctv,c,oc,ws,t,I.base.keep a _ o hn hf (nx a),I.base.frzs _ _ _ hc,hd,ht,inj,λx d e=>?_,has,len,λj x v e1 e2=>?_,I.base.free a _ o hn (nx a),nf a _ o hf⟩
 .obtain⟨h1,v,h3⟩:=cel x d e
  obtain⟨ob,e3,q⟩:=id h3;exact⟨I.base.free d ob e3 h1 (nx d),v,kc d v h1 h3⟩
 .obtain⟨d,u,q1,q2,q3⟩:=val j x v e1 e2
  exact⟨d,u,q1,q2,kc d _ (cel x d q1).1 q3⟩
noncomputable def YW (cm:Aq)(P:Bd)(w:Bz)(K:Aj)(mg:Ap->Ak Ac)(base:Bq)(N:Aa Ap)(L:LamT)(cl:Aa (Ap × Af))(f:Af)(cd:Ac)(A:Bt)(outer:Aa Ja)(s:Ag)(H:Hp)(E:XK):Cx where
 prog:=P
 w:=w
 K:=K
 mg:=mg
 base:=base
 A:=A.deeper (Lo L.qual L.scope s.heap.objs.size f cd cl)
 N:=N
 s₀:=s
 H₀:=H
 env:=Lo L.qual L.scope s.heap.objs.size f cd cl
 outer:=outer
 stack:=Lo L.qual L.scope s.heap.objs.size f cd cl::outer
 ex:=[]
 calm:=cm
 fn:=λ_=>false
 pn:=[]
 xe:=xeL P w A (Lo L.qual L.scope s.heap.objs.size f cd cl) outer H s E
structure LamSc (L:LamT)(ps:Aa Ap):Prop where
 kind:L.scope.kind=.function
 co:L.scope.isCoroutine=false
 gen:L.scope.isGenerator=false
 nocell:∀ y∈L.scope.names,y.2≠.cell
 par:∀ x∈ps,L.scope.names.lookup x=Ab .local
 one:ps.length<=1
 fr:∀ x∈xQ L.scope,L.scope.names.lookup x=Ab .free
def mM (P:Bd)(w:Bz)(K:Aj)(mg:Ap->Ak Ac)(base:Bq)(cm:Aq)(k:Ai)(L:LamT)(n:Ai)(G:Aa D->DF):Prop:=
 ∀ (A:Bt) (outer:Aa Ja) (s:Ag) (H:Hp) (us:Aa Ac) (ws cv:Aa V) (a:Af) (P':Hp) (α : Aa Af) (S:Sto) (caps ds:Aa D) (Q:VK) (E:XK),RoomC cm k A->Env0 P w K mg base A outer s H->CloAt s.heap H (frs outer) L a cv->Rel K H P' α S ->
  qE K P' α caps cv->qE K P' α ds ws->qK ws us->ds.length=n->spR K P' α (G caps ds S) Q E->Hu (As P w) A (.call (.ref a) ⟨us,[]⟩) (CR (CXd P w) outer P w H s Q E) s
section
variable {P:Bd}{w:Bz}{K:Aj}{mg:Ap->Ak Ac}{base:Bq}{cm:Aq}{L:LamT}{ps:Aa Ap}
theorem GR {cl:Aa (Ap × Af)}{f:Af}{cd:Ac}{A:Bt}{outer:Aa Ja}{s:Ag}{H:Hp}{E:XK}{ws cv:Aa V}{h':Bq}{tk:Ai}(S:LamSc L ps)(hd:cm=true->A.handled=none)(e0:Env0 P w K mg base A outer s H)
  (inj:∀ x y d,cl.lookup x=Ab d->cl.lookup y=Ab d->x=y) (cel:∀ x d,cl.lookup x=Ab d->H d=none/\∃ v,s.heap.IsCell d v) (has:∀ x,L.scope.names.lookup x=Ab .free->∃ d,cl.lookup x=Ab d)
  (len:cv.length=(xQ L.scope).length) (val:∀ (j:Ai) x v,(xQ L.scope)[j]? = Ab x->cv[j]? = Ab v->∃ d u,cl.lookup x=Ab d/\qL v u/\s.heap.IsCell d (Ab u)) (hl:ws.length=ps.length) (r:qK ws us)
  (hns:h'.Ns s.heap.objs.size λy=>(ps.zip us).reverse.lookup y) (hk:∀ b o,s.heap.get? b=Ab o->h'.get? b=Ab o) :
  Inv (YW cm P w K mg base (ps++xQ L.scope) L cl f cd A outer s H E) [] ((ws++cv).map Ab) H { s with heap:=h',toks:=tk }:=by
 have kc:∀ d v,s.heap.IsCell d v->h'.IsCell d v:=λd v ⟨o,e,q⟩=>⟨o,hk d o e,q⟩;have no:∀ b:Af,b ∉ ([]:Aa Af):=λb=>by simp
 refine⟨⟨e0.mod,S.kind,rfl,rfl,Au _,inj,λy hy=>?_,(λy c z=>nomatch z),hd,OM e0.frames,.inr ⟨rfl,rfl⟩,λb z=>absurd z (no b),e0.bs,e0.bsz,λb _ _=>no b,λb z=>absurd z (no b),e0.funs,e0.frf⟩,
  rfl,e0.bare,Un.kept hk,⟨_,hns,λi y v h1 h2 h3=>?_⟩,λy c h=>?_,e0.hok.fresh (Au _),λy c h=>(cel y c h).1,λp hp=>absurd (show p∈([]:Aa (Af × Co)) from hp) (by simp),e0.hok.kept hk,?_⟩
 .rcases hy with hy|hy
  .exact absurd rfl (S.nocell _ (Fq hy))
  .exact has y hy
 .have h1:(ps++xQ L.scope)[i]? = Ab y:=h1
  rw[Dp] at h2;obtain⟨v',h2,e⟩:=Do.mp h2;cases e;by_cases hi:i<ps.length
  .rw[Bi hi] at h1
   rw[Bi (by rw[hl];exact hi)] at h2
   obtain⟨u,hu,rv⟩:=r.get h2;refine⟨u,rv,.inl ⟨S.par y (Bp h1),?_⟩⟩;have one:=S.one;cases ps with
   |nil=>cases h1
   |cons p t =>
    cases t with
    |cons _ _=>simp at one
    |nil =>
     have i0:i=0:=by simpa using hi
     subst i0;cases us with
     |nil=>cases hu
     |cons u' us =>
      cases h1;cases hu;simp
  .rw[Cs (Sc hi)] at h1
   rw[Cs (by rw[hl];exact Sc hi),hl] at h2
   obtain⟨d,u,q1,q2,q3⟩:=val _ y v h1 h2;exact⟨u,q2,.inr ⟨.inr (S.fr y (Bp h1)),d,q1,kc d _ q3⟩⟩
 .obtain⟨_,v,q⟩:=cel y c h
  exact⟨v,kc c v q⟩
 .show _=(ps++xQ L.scope).length
  simp[hl,len]
theorem NM {k:Ai}{fe:DE}(S:LamSc L ps)(hb:∀ (cl:Aa (Ap × Af)) (pm cdv ctv:Ac) (us:Aa Ac),us.length=ps.length->Tj (wE "<lambda>" L.qual L.params L.body L.scope cl pm cdv ctv) ⟨us,[]⟩=pure (ps.zip us))
  (hbody:∀ (cl:Aa (Ap × Af)) (f:Af) (cd:Ac) (A:Bt) (outer:Aa Ja) (s:Ag) (H:Hp) (E:XK),RoomC cm k (A.deeper (Lo L.qual L.scope s.heap.objs.size f cd cl)) ->
   QE (YW cm P w K mg base (ps++xQ L.scope) L cl f cd A outer s H E) L.body fe):mM P w K mg base cm (k+1) L ps.length λcaps ds S=>fe ((ds++caps).map Ab) S:=by
 intro A outer s H us ws cv a P' α St caps ds Q E hr e0 C r rc rd rv hn af;obtain⟨cl,pm,ctv,c,oc,vs,t,o,hc,hd,ht,inj,cel,has,len,val,hna,hf⟩:=C;have af:spR K P' α (fe ((ds++caps).map Ab) St) Q E:=af;have lim:s.heap.NoLimit:=e0.mod.nolimit.keeps λb o e=>(e0.bs b o e).1;have hul:us.length=ps.length:=by rw[<- rv.length,<- rd.length];exact hn
 have hloc:∀ y∈ps.zip us,L.scope.names.lookup y.1=Ab .local:=λy hy=>S.par _ (Ml hy).1;refine PySem.W.kla_callFunE hr.depth o rfl S.co S.gen rfl ⟨c,oc,vs,t,rfl,(e0.hok c _ hc).1,hd,ht⟩ ?_;rw[hb cl pm (.ref c) ctv us hul];refine Am (wpAny_newFunctionEnv S.nocell hloc (λh₁ hns hsb=>?_) S.kind);have hk₁:∀ b o,s.heap.get? b=Ab o->h₁.get? b=Ab o:=λb o e=>hsb.extBut b o (Ci (Ay e)) (Ah _ e);refine⟨lim.keeps hk₁,?_⟩;show Hu _ _ (.expr L.body (Lo L.qual L.scope s.heap.objs.size a (.ref c) cl)) _ _;have I:=GR (cm:=cm) (f:=a) (cd:=.ref c) (E:=E) (tk:=s.toks+(ps.zip us).length) S hr.hd e0 inj cel has len val (by rw[<- rd.length];exact hn) rv hns hk₁
 have re:qZ K P' α ((ws++cv).map Ab) ((ds++caps).map Ab):=by
  have z:=rd.append rc;refine⟨by simp[z.length,rd.length,rc.length],λi d e=>?_⟩
  rw[Dp] at e;obtain⟨d',e1,e2⟩:=Do.mp e;cases e2;obtain⟨v,h1,h2⟩:=z.get e1;exact⟨v,by rw[Dp,h1];rfl,h2⟩
 refine PySem.W.kla_codeExpr (Hm ((hbody cl a (.ref c) A outer s H E (hr.deeper _)).1 [] _ _ H Q I ⟨P',α,_,St,r,re,?_⟩) (λu s' q=>?_) λ_ _ y=>y)
 .cases z:fe ((ds++caps).map Ab) St with
  |ok d S'=>rw[z] at af;exact af
  |ex e x S'=>rw[z] at af;exact λu s' q=>sE (A:=A) rfl q λH' P1 α1 r1 e1 e2=>af H' P1 α1 r1 e1 e2
  |bad=>rw[z] at af;exact An af
 .obtain⟨v,H',I',rv',q⟩:=q
  exact⟨v,H',I'.os,I'.bare,I'.base,I'.hok,rv',q⟩
end
open Classical in
def kT (i:Ai)(fa:DA)(a:Af)(cv:Aa V)(n:Ai)(G:Aa D->DF):DE:=λenv S=>match env[i]? with
 |some (Ab (.clo b vs caps))=>if b=a/\vs=cv then (fa env S).bind λds S1=>if ds.length=n then G caps ds S1 else .bad else .bad
 |_=>.bad
section
variable {X:Cx}{cm:Aq}{k n i:Ai}{x:Ap}{p pos:Fl}{e:Bw}{es:Aa Bw}{fa:DA}{L:LamT}{G:Aa D->DF}{a:Af}{cv:Aa V}
set_option tactic.hygienic true in
theorem K7 {S:Sto}{P:Hp}{α:Aa Af}{Ok:D->Sto->Prop}(h:qJ X P α (kT i fa a cv n G env S) Ok):∃ caps,env[i]? = Ab (Ab (.clo a cv caps))/\qJ X P α ((fa env S).bind λds S1=>if ds.length=n then G caps ds S1 else .bad) Ok:=by
 unfold kT at h
 split at h
 .rename_i b vs caps e
  obtain⟨⟨rfl,rfl⟩,h1⟩:=xK h;exact⟨caps,e,h1⟩
 .exact An h
theorem CM {h:Bq}{H:Hp}{fs:Aa Af}(C:CloAt h H fs L a cv):PySem.W.FnAt a h:=by
 obtain⟨cl,pm,ctv,c,oc,ws,t,o,_⟩:=C;exact⟨_,_,_,_,o⟩
theorem K8 {pins:Aa (Af × Co)}{σ:_L.St}{H P:Hp}{α:Aa Af}{s:Ag}{Q:VK}{ws:Aa V}{ds:Aa D}{S:Sto}(LX:mM X.prog X.w X.K X.mg X.base cm k L n G)(hr:RoomC cm k X.A)(F:Fn1 X)(C:CloAt X.s₀.heap X.H₀ X.fs L a cv)
  (I:Inv X pins σ H s) (r:Rel X.K H P α S) (rc:qE X.K P α caps cv) (rp:qE X.K P α ds ws) (rv:qK ws us) (af:qV X P α (if ds.length=n then G caps ds S else .bad) Q):Ao (As X.prog X.w) X.A (call (.ref a) us) (EP X pins σ Q) X.xe s:=by
 obtain⟨hn,af⟩:=xK af;exact bP (λ_=>F) I af (LX X.A X.stack s H us ws cv a P α S caps ds Q _ hr I.env0 (C.at F I) r rc rp rv hn (rR af))
theorem NO {pins:Aa (Af × Co)}{σ:_L.St}{H P:Hp}{α:Aa Af}{s:Ag}(hN:X.N[i]? = Ab x)(hv:Vis X.env.scope x)(hd:(x == ("__debug__" : Ap))=false)(hcd:(x == ("__classdict__" : Ap))=false)
  (I:Inv X pins σ H s) (re:qZ X.K P α σ env) (he:env[i]? = Ab (Ab (.clo a cv caps))) (h:∀ s1,Inv X pins σ H s1->qE X.K P α caps cv->Q (.ref a) s1):Ao (As X.prog X.w) X.A (eval (.Name x p) X.env) Q X.xe s:=by
 obtain⟨v,e1,rp⟩:=re.2 i _ he;simp only[Rep] at rp;obtain⟨rfl,rc⟩:=rp;refine thn (ZZ hN hv hd hcd pins s σ H (λv H'=>v=.ref a/\H'=H) I ⟨_,e1,rfl,rfl⟩) λu s1 ⟨v,H1,I1,rv,z1,z2⟩=>?_;subst z1;subst z2;cases (show u=Ce a from rv)
 exact h s1 I1 rc
theorem KH (LX:mM X.prog X.w X.K X.mg X.base cm k L n G)(hr:RoomC cm k X.A)(F:Fn1 X)(C:CloAt X.s₀.heap X.H₀ X.fs L a cv)(hN:X.N[i]? = Ab x)(hv:Vis X.env.scope x)(hd:(x == ("__debug__" : Ap))=false)(hcd:(x == ("__classdict__" : Ap))=false) :
  PE X (.Call (.Name x p) [] [] pos) (tD X (kT i qC a cv n G)):=by
 intro pins s σ H Q I h;obtain⟨P,α,env,S,r,re,af⟩:=h;obtain⟨caps,e1,af⟩:=K7 af;refine Ha (NO hN hv hd hcd I re e1 λs1 I1 rc=>?_);exact PySem.W.callWith_F0 (CM (C.at F I1)) (K8 (us:=[]) LX hr F C I1 r rc .nil .nil af)
end
theorem eP {i:Ai}{c:Ac}(l:Aa Ac)(h:Mb l):Mb (l++[Gj i,Gj j,c]):=by
 fun_induction Mb l with
 |case1=>simp[Mb,Gj]
 |case2 _ _ _ _ _ rest ih=>simp only[Lu,Mb];exact ih h
 |case3=>exact An h
set_option tactic.hygienic true in
theorem oS {pos:Fl}{i:Ai}{c v:Ac}(l:Aa Ac)(h:Mb l)(e:OU pos (l++[Gj i,Gj j,c])=Ab v):OU pos l=Ab v\/v=c:=by
 fun_induction Mb l with
 |case1 =>
  simp only[Gw,OU,Gj] at e
  split at e
  .exact .inr (Ct e).symm
  .cases e
 |case2 _ _ _ _ _ rest ih =>
  simp only[Lu,OU] at e ⊢
  split at e
  .rename_i hc;rw[Bl hc];exact .inl e
  .rename_i hc;rw[Bm hc];exact ih h e
 |case3=>exact An h
theorem MOk.at {K:Aj}{H P:Hp}{α:Aa Af}{a:Af}(e:H' a=H a):∀ {o:MO},MOk K H P α a o->MOk K H' P α a o
 |.dead,_=>trivial
 |.lst _,⟨vs,q,r⟩=>⟨vs,e.trans q,r⟩
 |.dct _,⟨vs,q,r⟩=>⟨vs,e.trans q,r⟩
 |.ins _ _,⟨dx,vs,q,r⟩=>⟨dx,vs,e.trans q,r⟩
section
variable {X:Cx}{pins:Aa (Af × Co)}{σ : _L.St}{H P:Hp}{α : Aa Af}{s:Ag}{S:Sto}{y:Ap}{c T:Af}
theorem Rel.grown {ps:Ax Ac}{ws:Ax Ac}{t:Qt}{i:Ai}(r:Rel X.K H P α S)(m:Mod X.K X.mg X.base)(hy:y∈w9)(ht:Du X.K y=Ab (c,T))(e:H T=Ab (.tbl ps))(pn:P T=none)(an:T ∉ α)(ok:Mb ps.toList)
  (cd:∀ pos cv,OU pos ps.toList=Ab cv->∃ c oc vs t,cv=.ref c/\H c=Ab (.frz oc (.frz oc (.own 0)))/\oc.data=.fields vs/\vs[1]? = Ab (.str (y ++ ".<locals>." ++ "<lambda>") t)) (hn:H c'=none) (hd:oc.data=.fields ws) (hs:ws[1]? = Ab (.str (y ++ ".<locals>." ++ "<lambda>") t)) :
  Rel X.K (upd (upd H T (.tbl (ps++#[Gj i,Gj j,.ref c']))) c' (.frz oc (.frz oc (.own 0)))) P α S:=by
 have ne:T≠c':=qT e hn;have go:∀ b u,b≠T->H b=Ab u->upd (upd H T (.tbl (ps++#[Gj i,Gj j,.ref c']))) c' (.frz oc (.frz oc (.own 0))) b=Ab u:=λb u h q=>by rw[qI (qT q hn),qI h];exact q
 have nT:∀ b∈α,b≠T:=λb h z=>an (z▸h);have nc:∀ (k:Ai) b,α[k]? = Ab b->b≠c':=λk b h z=>r.own k b h (z▸hn);have at':∀ (k:Ai) b,α[k]? = Ab b->upd (upd H T (.tbl (ps++#[Gj i,Gj j,.ref c']))) c' (.frz oc (.frz oc (.own 0))) b=H b:=λk b h=>by rw[qI (nc k b h),qI (nT b (Bp h))]
 refine⟨λx hx d U hU=>?_,λb u q=>go b u (λz=>by rw[z,pn] at q;cases q) (r.sub b u q),r.len,r.nd,r.sep,λk b o h1 h2=>MOk.at (at' k b h1) (r.at' k b o h1 h2),λk b h=>by rw[at' k b h];exact r.own k b h⟩
 by_cases hT:U=T
 .subst hT
  cases m.inj x hx y hy d c U hU ht;refine⟨_,by rw[qI ne];exact qU,pn,an,?_,λpos cv q=>?_⟩
  .rw[Ds];exact eP _ ok
  .rw[Ds] at q
   rcases oS _ ok q with q|q
   .obtain⟨d,od,vs,t,a1,a2,a3⟩:=cd pos cv q
    exact⟨d,od,vs,t,a1,go d _ (λz=>by rw[z,e] at a2;cases a2) a2,a3⟩
   .exact⟨c',oc,ws,t,q,qU,hd,hs⟩
 .obtain⟨qs,e1,p1,a1,ok1,cd1⟩:=r.tb x hx d U hU
  exact⟨qs,go U _ hT e1,p1,a1,ok1,λpos cv q=>let ⟨d,od,vs,t,b1,b2,b3⟩:=cd1 pos cv q;⟨d,od,vs,t,b1,go d _ (λz=>by rw[z,e] at b2;cases b2) b2,b3⟩⟩
theorem Inv.pinned {a:Af}{o:Co}{h':Bq}{tk:Ai}(I:Inv X pins σ H' { s with heap:=h'.push o,toks:=tk })(ha:a=h'.objs.size)(hs:s.heap.objs.size<=h'.objs.size)(I0:Inv X pins σ H s)(hn:H' a=none)(hd:∀ v,o.data≠.cell v)(hfr:o.isFreed=false:=by rfl):Inv X ((a,o)::pins) σ H' { s with heap:=h'.push o,toks:=tk }:=by
 refine I.pins_of λp hp=>?_;rcases Aw.mp hp with rfl|hp
 .subst ha
  exact⟨Ba _ hfr,hn,Gi (Bb I0.lt hs),I0.nofs hs,hd⟩
 .exact I.pin p (Bx _ hp)
theorem YZ {M:Kz}{params:OT}{body:Bw}{scope:Eu}{lpos:Fl}{cl:Aa (Ap × Af)}(I:Inv X pins σ H s)(r:Rel X.K H P α S)(hy:y∈w9)(ht:Du X.K y=Ab (c,T))(hc:X.env.code=.ref c)(hq:X.env.qual=y ++ ".<locals>.")
  (hdef:t0 params X.env=([],[])) (hcl:Se scope X.env=pure cl)
  (h:∀ (a:Af) (H':Hp) (s':Ag) (pm ctv:Ac) (c':Af) (oc:Co) (ws:Ax Ac) (t:Qt),Inv X ((a,Mu "<lambda>" (y ++ ".<locals>." ++ "<lambda>") params body scope cl pm c' ctv)::pins) σ H' s'->Rel X.K H' P α S ->
   H' c'=Ab (.frz oc (.frz oc (.own 0)))->oc.data=.fields ws->ws[1]? = Ab (.str (y ++ ".<locals>." ++ "<lambda>") t)->Q (.ref a) s'):Ao M X.A (eval (.Lambda params body scope lpos) X.env) Q E s:=by
 obtain⟨ps,e,pn,an,ok,cd⟩:=r.tb y hy c T ht;have hP:s.heap.get? T=Ab (Ln ps):=I.hok T _ e;have hC:Ut s.heap c T:=(I.mod.code y hy c T ht).keeps I.bk;have hg:s.heap.Ns Cg X.mg:=I.mod.glob.keeps I.bk;have hgP:Cg≠T:=λz=>by
  obtain⟨o,es,ep,e1,d1,_⟩:=hg;rw[z,hP] at e1;cases e1;cases d1
 have hb:s.heap.BuiltinsAt X.mg T:=by
  obtain⟨bm,o,b1,b2,b3,b4,b5,b6⟩:=I.mod.bm;have b3':=I.bk _ _ b3;refine⟨bm,o,b1,b2,λz=>?_,λz=>?_,b3',b4,b5,b6⟩
  .obtain⟨o',es,ep,e1,d1,_⟩:=hg
   rw[<- z,b3'] at e1;cases e1;rw[b6] at d1;cases d1
  .rw[z,hP] at b3';cases b3';cases b4
 refine PySem.W.kla_eval hdef ?_;rw[hq];cases hf:OU lpos ps.toList with
 |none =>
  refine PySem.W.kla_makeFunction (mg:=X.mg) hcl I.ok.glob hg hc hC hP ok hf hgP hb λc' ctv h' tk hx hge hlt hrec htb=>?_;obtain⟨c2,oc,ws,t,z,hoc,hd,hs⟩:=hrec;cases z;have hn:H c'=none:=I.hok.fresh hge;have ne:T≠c':=qT e hn;have hsz:s.heap.objs.size<=h'.objs.size:=DL hge (Fd hlt)
  let o:=Mu "<lambda>" (y ++ ".<locals>." ++ "<lambda>") params body scope cl ((X.mg "__name__").getD .none) c' ctv
  have kp:∀ b u,b≠T->s.heap.get? b=Ab u->(h'.push o).get? b=Ab u:=λb u hb q=>Ah _ (hx b u hb q);have eT:(h'.push o).get? T=Ab (Ln (ps++#[Gj lpos.line,Gj lpos.col,.ref c'])):=Ah _ htb
  let H2:=upd (upd H T (.tbl (ps++#[Gj lpos.line,Gj lpos.col,.ref c']))) c' (.frz oc (.frz oc (.own 0)))
  have go:∀ b u,b≠T->H b=Ab u->H2 b=Ab u:=λb u h q=>by show upd _ _ _ b=_;rw[qI (qT q hn),qI h];exact q
  have go0:∀ b,b≠T->b≠c'->H b=none->H2 b=none:=λb h h' q=>by show upd _ _ _ b=_;rw[qI h',qI h];exact q
  have nT:∀ b,H b=none->b≠T:=λb q z=>by rw[z,e] at q;cases q
  have eH:H2 T=Ab (.tbl (ps++#[Gj lpos.line,Gj lpos.col,.ref c'])):=by show upd _ _ _ T=_;rw[qI ne];exact qU
  have un:Un X.fs [] H H2 s.heap (h'.push o):=by
   refine⟨λb u q n _ _=>kp b u (nT b n) q,λb u q n _ _=>⟨u.slots,kp b u (nT b n) q⟩,λb u q n _=>go0 b (nT b n) (Ci (Bb (Ay q) hge)) n,λb u q _=>?_,λb xs q=>go b _ (λz=>by rw[z,e] at q;cases q) q,λb u xs q=>go b _ (λz=>by rw[z,e] at q;cases q) q,λb qs q=>?_⟩
   .by_cases hb:b=T
    .rw[hb];exact⟨_,eT⟩
    .exact⟨u,kp b u hb q⟩
   .by_cases hb:b=T
    .rw[hb,e] at q;cases q
     exact⟨_,by rw[hb];exact eH⟩
    .exact⟨#[],by rw[go b _ hb q];simp⟩
  have hok:HOk X.prog X.w H2 (h'.push o):=λb u q=>by
   by_cases hb:b=c'
   .have q':Ab (HO.frz oc (.frz oc (.own 0)))=Ab u:=by rw[<- q,hb];exact qU.symm
    cases q';have z:(h'.push o).get? b=Ab oc:=by rw[hb];exact Ah _ hoc
    exact⟨z,z,_,z⟩
   .by_cases hb2:b=T
    .rw[hb2,eH] at q;cases q
     rw[hb2];exact eT
    .have q':H b=Ab u:=by have q2:upd _ _ _ b=Ab u:=q;rw[qI hb,qI hb2] at q2;exact q2
     refine(I.hok b u q').stay (λd v hd q=>kp d v ?_ q) (λd q=>go d _ (λz=>by rw[z,e] at q;cases q) q) λd xs q=>go d _ (λz=>by rw[z,e] at q;cases q) q
     rcases hd with z|z
     .rw[z];exact hb2
     .intro w;rw[w,e] at z;cases z
  have I2:=I.un (t':=tk) un hok;refine h h'.objs.size H2 _ _ ctv c' oc ws t (Inv.pinned I2 rfl hsz I (go0 _ (λz=>?_) (Gi hlt) (I.hok.fresh hsz)) λv z=>by cases z) (r.grown I.mod hy ht e pn an ok cd hn hd hs) qU hd hs
  rw[<- z] at e;exact absurd (Bb (I.hok.lt e) hsz) (Et _)
 |some cv =>
  obtain⟨c',oc,ws,t,rfl,a2,a3,a4⟩:=cd lpos cv hf;refine PySem.W.kla_makeFunctionHit (mg:=X.mg) hcl I.ok.glob hg hc hC hP ok hf hb λctv h' tk hk hsz=>?_;have I2:=I.kept (t':=tk) (h':=h'.push (Mu "<lambda>" (y ++ ".<locals>." ++ "<lambda>") params body scope cl ((X.mg "__name__").getD .none) c' ctv)) λb u q=>Ah _ (hk b u q);exact h h'.objs.size H _ _ ctv c' oc ws t (Inv.pinned I2 rfl hsz I (I.hok.fresh hsz) λv z=>by cases z) r a2 a3 a4
end
noncomputable def bQ:Aa Ai->qF->Ak (Aa D)
 |[],_=>Ab []
 |i::r,env=>match env[i]? with
  |some (Ab d)=>(bQ r env).map (d::·)
  |_=>none
set_option tactic.hygienic true in
theorem eY {K:Aj}{P:Hp}{α:Aa Af}{σ:_L.St}(re:qZ K P α σ env):∀ (cap:Aa Ai) (caps:Aa D),bQ cap env=Ab caps->∃ cv,qE K P α caps cv/\cv.length=cap.length/\∀ (j i:Ai) v,cap[j]? = Ab i->cv[j]? = Ab v->σ[i]? = Ab (Ab v)
 |[],caps,h=>by cases h;exact⟨[],.nil,rfl,λj i v e=>by simp at e⟩
 |i::r,caps,h=>by
  unfold bQ at h
  split at h
  .rename_i d e
   obtain⟨ds,h1,rfl⟩:=Do.mp h;obtain⟨cv,a1,a2,a3⟩:=eY re r ds h1;obtain⟨v,b1,b2⟩:=re.2 i d e;refine⟨v::cv,.cons b2 a1,by simp[a2],λj k w e1 e2=>?_⟩
   cases j with
   |zero=>cases e1;cases e2;exact b1
   |succ j=>exact a3 j k w (by simpa using e1) (by simpa using e2)
  .cases h
open Classical in
def uni (f:Af->Aa V->Res D):Res D:=if ∀ a cv,f a cv=f 0 [] then f 0 [] else .bad
theorem SQ {f:Af->Aa V->Res D}{R:Res D}(h:∀ a cv,f a cv=R):uni f=R:=by
 unfold uni;rw[Bl λa cv=>(h a cv).trans (h 0 []).symm];exact h 0 []
set_option tactic.hygienic true in
theorem SO {f:Af->Aa V->Res D}(h:uni f≠.bad)(a:Af)(cv:Aa V):f a cv=uni f:=by
 unfold uni at h ⊢
 split at h
 .rename_i z;rw[Bl z];exact z a cv
 .exact absurd rfl h
noncomputable def exO (nx:Aq)(R:Res D):Res D:=match nx,R with
 |true,.ex _ _ _=>.bad
 |_,R=>R
def uT (nx:Aq)(cap:Aa Ai)(n N:Ai)(fa:DA)(g:Af->Aa V->DS):DE:=λenv S=>match bQ cap env with
 |none=>.bad
 |some caps=>(fa env S).bind λds S1=>if ds.length+1=n then exO nx (uni λa cv=>qR N (g a cv) (.clo a cv caps::ds) S1) else .bad
def FY (P:Bd)(w:Bz)(K:Aj)(mg:Ap->Ak Ac)(base:Bq)(cm:Aq)(k kl m:Ai)(x:Ap)(n N:Ai)(g:(Aa D->DF)->Af->Aa V->DS):Prop:=
 ∃ f fd st Ns ps,ps.length=n/\Ns.length=N/\mg x=Ab (.ref f)/\Fun K x x st f fd/\vS K fd ps [] /\ FnScope Ns ps (qH st)/\∀ (L:LamT) (G:Aa D->DF) (a:Af) (cv:Aa V),mM P w K mg base cm kl L m G ->
  ∀ (cdv:Ac) (A:Bt) (outer:Aa Ja) (s:Ag) (H:Hp) (E:XK),CloAt s.heap H (frs outer) L a cv->RoomC cm k (A.deeper (Gn x (qH st) s.heap.objs.size f cdv))->QB (cxC cm P w K mg base Ns x (qH st) f cdv A outer s H E) (zK st) (g G a cv)
noncomputable def pG (scX:Eu)(NX:Aa Ap)(sc:Eu)(cap:Aa Ai):Aq:=decide ((xQ sc).length=cap.length)&&(cap.zip (xQ sc)).all λp=>NX[p.1]? == Ab p.2&&(scX.names.lookup p.2 == Ab .cell||scX.names.lookup p.2 == Ab .free)
section
variable {X:Cx}{pins:Aa (Af × Co)}{σ : _L.St}{H P:Hp}{α : Aa Af}{s:Ag}{S:Sto}{y x:Ap}{c T:Af}{params:OT}{body:Bw}{scope:Eu}{lpos p pos:Fl}{es:Aa Bw}{fa:DA}{nx cm:Aq}{k kl m n N:Ai}{cap:Aa Ai}{G:Aa D->DF}{g:(Aa D->DF)->Af->Aa V->DS}
theorem TV {R:Res D}{Ok:D->Sto->Prop}(h:qJ X P α (exO nx R) Ok):R≠.bad/\qJ X P α R Ok/\((∃ c x S',R=.ex c x S')->nx=false):=by
 cases R with
 |ok d S'=>exact⟨nofun,by cases nx <;> exact h,λ⟨_,_,_,z⟩=>nomatch z⟩
 |bad=>cases nx <;> exact An h
 |ex c x S' =>
  cases nx with
  |true=>exact An h
  |false=>exact⟨nofun,h,λ_=>rfl⟩
theorem Rel.know {K:Aj}(r:Rel K H P α S)(h:H c'=Ab (.frz oc (.frz oc (.own 0)))):Rel K H (upd P c' (.frz oc (.frz oc (.own 0)))) α S/\qG P (upd P c' (.frz oc (.frz oc (.own 0)))):=by
 have sP:qG P (upd P c' (.frz oc (.frz oc (.own 0)))):=λb u q=>by
  by_cases hb:b=c'
  .have z:=r.sub b u q
   rw[hb,h] at z;cases z;rw[hb];exact qU
  .rw[qI hb];exact q
 refine⟨⟨λx hx d T hT=>let ⟨ps,e,pn,an,ok,cd⟩:=r.tb x hx d T hT;⟨ps,e,(qI λ(z:T=c')=>by rw[z,h] at e;cases e).trans pn,an,ok,cd⟩,λb u q=>?_,r.len,r.nd,λi a o h1 h2 h3=>?_,λi a o h1 h2=>(r.at' i a o h1 h2).mono sP (Bn _),r.own⟩,sP⟩
 .by_cases hb:b=c'
  .rw[hb,qU] at q;cases q;rw[hb];exact h
  .rw[qI hb] at q;exact r.sub b u q
 .have hb:a≠c':=by
   rintro rfl;have z:=r.at' i a o h1 h2;cases o with
   |dead=>exact h3 rfl
   |lst ds=>obtain⟨vs,z,_⟩:=z;rw[h] at z;cases z
   |dct kvs=>obtain⟨vs,z,_⟩:=z;rw[h] at z;cases z
   |ins C fs=>obtain⟨dx,vs,z,_⟩:=z;rw[h] at z;cases z
  rw[qI hb];exact r.sep i a o h1 h2 h3
theorem lA {z:Ap × Ia}(h:z∈sc.names)(hk:z.2=.free):z.1∈xQ sc:=Jb.mpr ⟨z,h,by rw[hk];rfl⟩
set_option tactic.hygienic true in
theorem VC {z:Ap}(h:z∈xQ sc):(z,Gq)∈sc.names:=by
 obtain⟨⟨n,k⟩,h1,h2⟩:=Jb.mp h
 split at h2
 .rename_i e
  have:k=Gq:=by simpa using e
  cases h2;subst this;exact h1
 .cases h2
theorem tL (hB:pG X.env.scope X.N scope cap=true){j:Ai}{z:Ap}(h:(xQ scope)[j]? = Ab z):∃ i,cap[j]? = Ab i/\X.N[i]? = Ab z/\(X.env.scope.names.lookup z=Ab .cell\/X.env.scope.names.lookup z=Ab .free):=by
 simp only[pG,Az,Bv] at hB;obtain⟨hl,ha⟩:=hB;have hj:j<cap.length:=by rw[<- hl];exact(Bo.mp h).1
 have e:=Ar hj;have hz:(cap[j],z)∈cap.zip (xQ scope):=La.mpr ⟨j,by rw[Ra];exact⟨e,h⟩⟩
 have q:=Cn.mp ha _ hz;simp only[Az,OV,Oa] at q;exact⟨_,e,q.1,q.2⟩
theorem YY (hB:pG X.env.scope X.N scope cap=true)(ok:X.Ok):Se scope X.env=pure (wM X.env.cells scope.names []):=gX λz hz hk=>by
 obtain⟨j,hj⟩:=La.mp (lA hz hk);obtain⟨i,_,_,q⟩:=tL hB hj;exact ok.has z.1 q
theorem j8 (hB:pG X.env.scope X.N scope cap=true)(ok:X.Ok){z:Ap}{d:Af}(h:(wM X.env.cells scope.names []).lookup z=Ab d):X.env.cells.lookup z=Ab d:=by
 rcases jX _ _ h with h|⟨hm,hc⟩
 .cases h
 .obtain⟨j,hj⟩:=La.mp (lA hm rfl)
  obtain⟨i,_,_,q⟩:=tL hB hj;obtain⟨d',e⟩:=ok.has z q;rw[e,Oq] at hc;rw[e,hc]
theorem ME {a:Af}{ws:Ax Ac}{t:Qt}{pm ctv:Ac}{cv:Aa V}{s':Ag}(hB:pG X.env.scope X.N scope cap=true)(I:Inv X ((a,Mu "<lambda>" (y ++ ".<locals>." ++ "<lambda>") params body scope (wM X.env.cells scope.names []) pm c' ctv)::pins) σ H' s')
  (hc:H' c'=Ab (.frz oc (.frz oc (.own 0)))) (hd:oc.data=.fields ws) (hs:ws[1]? = Ab (.str (y ++ ".<locals>." ++ "<lambda>") t)) (hl:cv.length=cap.length) (hv:∀ (j i:Ai) v,cap[j]? = Ab i->cv[j]? = Ab v->σ[i]? = Ab (Ab v)) :
  CloAt s'.heap H' (frs X.stack) ⟨y ++ ".<locals>." ++ "<lambda>",params,body,scope⟩ a cv:=by
 obtain⟨e1,n1,n2,n3,_⟩:=I.pin _ (Bx _ (.head _));refine⟨_,pm,ctv,c',oc,ws,t,e1,hc,hd,hs,λz z' d h1 h2=>I.ok.inj z z' d (j8 hB I.ok h1) (j8 hB I.ok h2),λz d h=>⟨I.freeC z d (j8 hB I.ok h),I.cell z d (j8 hB I.ok h)⟩,λz hz=>jO _ _ (.inl (Fq hz)),?_,λj z v h1 h2=>?_,n1,λz=>?_⟩
 .simp only[pG,Az,Bv] at hB
  rw[hl,<- hB.1]
 .obtain⟨i,q1,q2,q3⟩:=tL hB h1
  obtain⟨m,hm,hlk⟩:=I.loc;obtain⟨u,ru,lk⟩:=hlk i z v q2 (hv j i v q1 h2) (q3.elim (λk=>.inr (.inl k)) λk=>.inr (.inr k));rcases lk with⟨kl,_⟩|⟨_,d,hcl,hcell⟩
  .have kl':X.env.scope.names.lookup z=Ab .local:=kl
   rcases q3 with k|k <;> (rw[kl'] at k;cases k)
  .obtain⟨d',hd'⟩:=jO (cells:=X.env.cells) scope.names [] (.inl (VC (Bp h1)))
   have:=j8 hB I.ok hd';rw[hcl] at this;cases this;exact⟨d,u,hd',ru,hcell⟩
 .rcases Aw.mp (I.stkSub a z) with z|z
  .exact n2 z
  .exact n3 z
theorem WS (D:FY X.prog X.w X.K X.mg X.base cm k kl m x n N g)(LX:mM X.prog X.w X.K X.mg X.base cm kl ⟨y ++ ".<locals>." ++ "<lambda>",params,body,scope⟩ m G)(hr:RoomC cm (k+1) X.A)(hF:nx=false->Fn1 X)(hg:Gl X x)(hdb:(x == ("__debug__" : Ap))=false)
  (hy:y∈w9) (ht:Du X.K y=Ab (c,T)) (hc:X.env.code=.ref c) (hq:X.env.qual=y ++ ".<locals>.") (hdef:t0 params X.env=([],[])) (hB:pG X.env.scope X.N scope cap=true) (ha:PA X es (tDA X fa))
  (he:Be (.Lambda params body scope lpos::es) X.env=(false,eval (.Lambda params body scope lpos) X.env)::Be es X.env) (hpl:(Gc pos (Be es X.env)).any (·.1)=false) :
  PE X (.Call (.Name x p) (.Lambda params body scope lpos::es) [] pos) (tD X (uT nx cap n N fa (g G))):=by
 intro pins s σ H Q I h;obtain⟨P,α,env,S,r,re,af⟩:=h;obtain⟨f,fd,st,Ns,ps,hn,hN,hm,F,hb,hS,hbody⟩:=D;subst hn;subst hN;have af:qJ X P α (match bQ cap env with
  |none=>.bad
  |some caps=>(fa env S).bind λds S1=>if ds.length+1=ps.length then exO nx (uni λa cv=>qR Ns.length (g G a cv) (.clo a cv caps::ds) S1) else .bad) (OkV X P α Q):=af
 cases hcap:bQ cap env with
 |none=>rw[hcap] at af;exact An af
 |some caps =>
  rw[hcap] at af;obtain⟨cv,rc,hcl,hv⟩:=eY re cap caps hcap;refine Ha (uK I hg hm ?_ hdb);refine Qe (h₀:=X.base) I.ok.mod.kin F.kp ?_ he hpl;rw[he];show Ao _ _ (spliced ((false,eval (.Lambda params body scope lpos) X.env)::Gc pos (Be es X.env))) _ _ s;refine Ib (YZ I r hy ht hc hq hdef (YY hB I.ok) λa H1 s1 pm ctv c' oc ws t I1 r1 hc' hd hs=>?_);obtain⟨rk,sk⟩:=Rel.know r1 hc';refine thn (wD ha I1 rk (re.mono sk (Bn _)) (qV.base sk (Bn _) af) pos) λus s2 ⟨vs,H2,P2,α2,ds,S2,I2,rv,r2,re2,rp,q1,q2,af2⟩=>⟨I2.kIn,?_⟩;obtain⟨hl,af3⟩:=xK af2;obtain⟨nb,af4,nf⟩:=TV af3;have e1:=SO nb a cv;rw[<- e1] at af4 nf;have C:=ME hB I2 (r2.sub _ _ (q1 _ _ qU)) hd hs hcl hv;have I3:Inv X pins σ H2 s2:=I2.pins_of λp hp=>I2.pin p (Bx _ (Cd _ hp));obtain⟨oc',od,kV,doc,pm',an,cdv,ct,osl,rfl,lk,hcd⟩:=F.ex;have hz:(Ce a::us).length=ps.length:=by rw[<- hl,rp.length,rv.length];rfl
  have hb':=hb s2 (.ref a::us) I2.kIn (by rw[Fx];exact hz)
  rw[Fx] at hb';have rc2:=qE.mono (sk.trans q1) q2 _ _ rc;have af5:=qV.base q1 q2 af4;have rv2:qK (V.ref a::vs) (Ce a::us):=.cons rfl rv;exact bP (λz=>hF (nf z)) I3 af5 (QR lk hcd hS (by rw[<- hz];exact rv2.length) hr I3.env0 hb' rv2 (dQ (hbody _ G a cv LX cdv X.A X.stack s2 H2 _ C (hr.deeper _)).1 r2 (.cons (by simp only[Rep];exact⟨trivial,rc2⟩) rp) (rR af5)))
end
section
variable {X:Cx}{pins:Aa (Af × Co)}{σ : _L.St}{H P:Hp}{α : Aa Af}{s:Ag}{S:Sto}
noncomputable def kY:DF:=λds S=>match ds with
 |[d,.tup [.ty b,.ty c]]=>if jB b=true/\jB c=true then match tyD d S with
   |some a=>.ok (.bl (w6 a b||w6 a c)) S
   |none=>.bad
  else .bad
 |_=>.bad
inductive KitAt (X:Cx)(u:Ac)(t:Ac)(h:Bq):Prop
 |mk (Hh:Bq->Prop) (Z:PySem.W.KitX X.K u t Hh) (p:Hh h) (ne:u≠.builtin "__main__.__loader__#opaque"):KitAt X u t h
theorem NK {v:V}{u:Ac}{a:Dx}(I:Inv X pins σ H s)(r:Rel X.K H P α S)(q:qL v u)(p:Rep X.K P α d v)(ha:tyD d S=Ab a):KitAt X u (.type a) s.heap:=by
 cases JV r p ha with
 |tup p' ws e sq ea =>
  subst e ea;cases (show u=Ce p' from q)
  obtain⟨its,rv',⟨o,h1,h2,_⟩,_⟩:=I.tuple sq;exact⟨_,My,⟨o,h1,h2⟩,λz=>nomatch z⟩
 |lst p' ws e sq ea =>
  subst e ea;cases (show u=Ce p' from q)
  obtain⟨its,rv',⟨o,_,h1,h2,_⟩,_⟩:=I.list sq;exact⟨_,Jn,⟨o,h1,h2⟩,λz=>nomatch z⟩
 |of ty =>
  cases ty with
  |non=>cases (show u=Dm from q);exact⟨_,Xq,He,λz=>nomatch z⟩
  |bl y=>cases (show u=Fp y from q);exact⟨_,Xr,He,λz=>nomatch z⟩
  |int i=>obtain⟨t,q⟩:=(show ∃ t,u=Jm i t from q);cases q;exact⟨_,Yn,He,λz=>nomatch z⟩
  |str y=>obtain⟨t,q⟩:=(show ∃ t,u=TW y t from q);cases q;exact⟨_,Yo,He,λz=>nomatch z⟩
  |flt y=>cases d <;> first|(exact nn ha)|(simp only[Rep] at p;cases p;done)|(simp only[Rep] at p;obtain⟨_,p⟩:=p;cases p.1;done)|(simp only[Rep] at p;obtain⟨_,_,p⟩:=p;cases p.1;done)
  |@lst b xs ea =>
   cases (show u=Ce b from q)
   obtain⟨_,_,n,_,h1⟩:=(show z9 X.prog X.w H s.heap b (.lst xs) from I.hok b _ ea)
   exact⟨_,Jn,⟨_,h1,rfl⟩,λz=>nomatch z⟩
  |@frz b ob xs ea =>
   cases (show u=Ce b from q)
   obtain⟨_,_,_,n,_,h1⟩:=(show z9 X.prog X.w H s.heap b (.frz ob (.lst xs)) from I.hok b _ ea)
   exact⟨_,Jn,⟨_,h1,rfl⟩,λz=>nomatch z⟩
  |@tup b xs ea =>
   cases (show u=Ce b from q)
   obtain⟨_,_,_,p⟩:=(show z9 X.prog X.w H s.heap b (.tup xs) from I.hok b _ ea)
   obtain⟨o,h1,h2,_⟩:=p;exact⟨_,My,⟨o,h1,h2⟩,λz=>nomatch z⟩
  |@dK b kvs ea =>
   cases (show u=Ce b from q)
   obtain⟨_,_,vs,_,p⟩:=(show z9 X.prog X.w H s.heap b (.dK kvs) from I.hok b _ ea)
   obtain⟨o,es,ep,h1,h2,_⟩:=p;exact⟨_,Nq,⟨o,h1,h2.1⟩,λz=>nomatch z⟩
  |@dT b kvs ea =>
   cases (show u=Ce b from q)
   obtain⟨_,_,xs,_,o,es,ep,h1,h2,_⟩:=(show z9 X.prog X.w H s.heap b (.dT kvs) from I.hok b _ ea)
   exact⟨_,Nq,⟨o,h1,h2.1⟩,λz=>nomatch z⟩
set_option tactic.hygienic true in
theorem YQ {ds:Aa D}{Ok:D->Sto->Prop}(h:qJ X P α (kY ds S) Ok):∃ d b c a,ds=[d,.tup [.ty b,.ty c]]/\jB b=true/\jB c=true/\tyD d S=Ab a/\Ok (.bl (w6 a b||w6 a c)) S:=by
 unfold kY at h
 split at h
 .rename_i d b c
  obtain⟨⟨h1,h2⟩,h⟩:=xK h
  split at h
  .rename_i a ha
   exact⟨d,b,c,a,rfl,h1,h2,ha,h⟩
  .exact An h
 .exact An h
theorem K2:w5 X (.builtin "isinstance") kY:=by
 intro pins σ H s P α S vs us ds Q I r rv rp af;obtain⟨d,b,c,a,rfl,hb,hc,ha,ok⟩:=YQ af;obtain⟨v,w,u,x,rfl,rfl,p,p',q,q'⟩:=jT rp rv;simp only[Rep] at p';obtain⟨tp,ws,rfl,sq,t⟩:=p';obtain⟨w1,ws1,rfl,z1,t⟩:=t.cons_inv;obtain⟨w2,ws2,rfl,z2,t⟩:=t.cons_inv;cases t.nil_inv;simp only[Rep] at z1 z2;subst z1 z2;cases (show x=Ce tp from q')
 obtain⟨its,rvi,⟨o,h1,h2,n,h3⟩,_⟩:=I.tuple (xI r.sub sq);obtain⟨i1,i2,rfl,y1,y2⟩:=mI rvi;cases (show i1=Hb b from y1)
 cases (show i2=Hb c from y2)
 obtain⟨Hh,Z,hp,ne⟩:=NK I r q p ha;obtain⟨oc,od,odt,osl⟩:=o;cases h2;cases h3;have k1:=tK (K:=X.K) (rV ha) hb;have k2:=tK (K:=X.K) (rV ha) hc;refine PySem.W.kia_tup (its:=[.type b,.type c]) (b:=w6 a b||w6 a c) Z I.kIn hp h1 ?_ ne λtk=>⟨.bl _,H,I.tok tk,rfl,xr ok r (by simp only[Rep])⟩
 cases z:w6 a b with
 |true=>rw[z] at k1;simp only[Vd,k1];rfl
 |false =>
  rw[z] at k1;cases z':w6 a c with
  |true=>rw[z'] at k2;simp only[Vd,k1,k2];rfl
  |false=>rw[z'] at k2;simp only[Vd,k1,k2];rfl
end
noncomputable def okV (X:Cx)(i:Ai)(x:Ap):Aq:=decide (X.N[i]? = Ab x)&&(isV (X.env.scope.names.lookup x)&&okN x)
noncomputable def gE (fe:DE):Aa D->DF:=λcaps ds S=>fe ((ds++caps).map Ab) S
noncomputable def YX (sc:Eu)(ps:Aa Ap):Aq:=decide (sc.kind=.function)&&(decide (sc.isCoroutine=false)&&(decide (sc.isGenerator=false)&&(decide (∀ y∈sc.names,y.2≠.cell)&&(decide (∀ x∈ps,sc.names.lookup x=Ab .local)&&decide (∀ x∈xQ sc,sc.names.lookup x=Ab .free)))))
structure LmX (G:Aa D->DF)(P:Bd)(w:Bz)(K:Aj)(mg:Ap->Ak Ac)(base:Bq)(cm:Aq)(k:Ai)(L:LamT)(n:Ai):Prop where
 get:mM P w K mg base cm k L n G
structure DfL (g:(Aa D->DF)->Af->Aa V->DS)(P:Bd)(w:Bz)(K:Aj)(mg:Ap->Ak Ac)(base:Bq)(cm:Aq)(k kl m:Ai)(x:Ap)(n N:Ai):Prop where
 get:FY P w K mg base cm k kl m x n N g
structure ClA (X:Cx)(L:LamT)(a:Af)(cv:Aa V):Prop where
 get:CloAt X.s₀.heap X.H₀ X.fs L a cv
structure LmK (X:Cx)(y:Ap):Prop where
 get:y∈w9/\kN X.K y X.env.code/\X.env.qual=y ++ ".<locals>." /\ ∃ c T,Du X.K y=Ab (c,T)
section
variable {X:Cx}{cm nx:Aq}{k kl m n N i:Ai}{x y:Ap}{p pos lpos:Fl}{e:Bw}{es:Aa Bw}{fA:DA}{fe:DE}{L:LamT}{G:Aa D->DF}{a:Af}{cv:Aa V}{g:(Aa D->DF)->Af->Aa V->DS}{Fs:FnL}{cap:Aa Ai}{params:OT}{body:Bw}{scope:Eu}
theorem LG (h:Ck (okV X i x)):X.N[i]? = Ab x/\Vis X.env.scope x/\(x == ("__debug__" : Ap))=false/\(x == ("__classdict__" : Ap))=false:=by
 unfold Ck okV at h;simp only[Az,Bv] at h;exact⟨h.1,cG h.2.1,(kI h.2.2).1,(kI h.2.2).2.1⟩
theorem aK0 (LX:LmX G X.prog X.w X.K X.mg X.base cm k L n)(C:ClA X L a cv)(hr:RoomC cm k X.A)(F:Fn1 X)(h:Ck (okV X i x)):QE X (.Call (.Name x p) [] [] pos) (kT i qC a cv n G):=
 have h:=LG h
 ⟨KH LX.1 hr F C.1 h.1 h.2.1 h.2.2.1 h.2.2.2⟩
theorem CW {ps:Aa Ap}{q:Ap}(h:Ck (YX scope ps))(one:ps.length<=1):LamSc ⟨q,params,body,scope⟩ ps:=by
 unfold Ck at h;simp only[YX,Az,Bv] at h;obtain⟨a,b,c,d,e,f⟩:=h;exact⟨a,b,c,d,e,one,f⟩
theorem HX (D:DfL g X.prog X.w X.K X.mg X.base cm k (kl+1) 0 x n N)(M:LmK X y)(hr:RoomC cm (k+1) X.A)(hF:nx=false->Fn1 X)(h:Ck (okG X x&&pG X.env.scope X.N scope cap))(hs:Ck (YX scope []))(hdef:t0 params X.env=([],[]))
  (hb:∀ (q:Ap) (b:Bw) (cl:Aa (Ap × Af)) (pm cdv ctv:Ac),Tj (wE "<lambda>" q params b scope cl pm cdv ctv) ⟨[],[]⟩ = pure [])
  (hbody:∀ (cl:Aa (Ap × Af)) (f:Af) (cd:Ac) (A:Bt) (outer:Aa Ja) (s:Ag) (H:Hp) (E:XK),RoomC cm kl (A.deeper (Lo (y ++ ".<locals>." ++ "<lambda>") scope s.heap.objs.size f cd cl)) ->
   QE (YW cm X.prog X.w X.K X.mg X.base ([] ++ xQ scope) ⟨y ++ ".<locals>." ++ "<lambda>",params,body,scope⟩ cl f cd A outer s H E) body fe)
  (ha:QA X es fA) (s:St1 X (.Lambda params body scope lpos) es pos):QE X (.Call (.Name x p) (.Lambda params body scope lpos::es) [] pos) (uT nx cap n N fA (g (gE fe))):=by
 unfold Ck at h;rw[Az] at h;obtain⟨m1,m2,m3,c,T,m4⟩:=M.1;have hg:=wI h.1;exact⟨WS D.1 (NM (ps:=[]) (CW hs (by decide)) (λcl pm cdv ctv us hl=>by cases us with|nil=>exact hb _ _ _ _ _ _|cons _ _=>cases hl) hbody) hr hF hg.1 hg.2.1 m1 m4 (m2 c T m4) m3 hdef h.2 ha.1 s.1 s.2⟩
theorem ClA.tr {pn:Aa (Af × Co)}(h:ClA X L a cv):ClA (Cx.tryIn X E pn) L a cv:=⟨h.1⟩
theorem lmK {ls:Aa Ap}(h:(ls.all λy=>(Du X.K y).isSome)=true)(hc:kN X.K y X.env.code)(hy:Ck (ls.contains y&&w9.contains y))(hq:X.env.qual=y ++ ".<locals>."):LmK X y:=by
 unfold Ck at hy;rw[Az] at hy;obtain⟨⟨c,T⟩,e⟩:=Jx.mp (Cn.mp h y (by simpa using hy.1))
 exact⟨by simpa using hy.2,hc,hq,c,T,e⟩
theorem W5:ZCall X (.builtin "isinstance") kY:=⟨K2⟩
end
section
variable {P:Bd}{w:Bz}{K:Aj}{mg:Ap->Ak Ac}{base:Bq}{cm:Aq}{tp:Ai->Fj}{tab:Aa (Ap × Ai × Aa Ap)}{bl:Aa Ap}{clt plt:Aa (Ap × Af)}{cs:Aa Ac}{exl:Aa Af}{cst:Aa (Ap × Al)}{x:Ap}{i:Ai}{ps:Aa Ap}{N:Ai}
theorem dqL {g:(Aa D->DF)->Af->Aa V->DS}(P:Bd)(w:Bz)(base:Bq)(k kl m j:Ai)(T:TxS K mg tp tab bl clt plt cs exl cst)(hj:tab[j]? = Ab (x,i,ps))(h:Ck (fnB (k8 (qH (tp i))) ps (qH (tp i))&&decide ((k8 (qH (tp i))).length=N)))
  (hb:∀ (L:LamT) (G:Aa D->DF) (a:Af) (cv:Aa V),LmX G P w K mg base cm kl L m->∀ (f:Af) (cdv:Ac) (A:Bt) (outer:Aa Ja) (s:Ag) (H:Hp) (E:XK),ClA (cxC cm P w K mg base (k8 (qH (tp i))) x (qH (tp i)) f cdv A outer s H E) L a cv->RoomC cm k (A.deeper (Gn x (qH (tp i)) s.heap.objs.size f cdv)) ->
   QB (cxC cm P w K mg base (k8 (qH (tp i))) x (qH (tp i)) f cdv A outer s H E) (zK (tp i)) (g G a cv)):DfL g P w K mg base cm k kl m x ps.length N:=by
 unfold Ck at h;simp only[Az,Bv] at h;obtain⟨h,rfl⟩:=h;obtain⟨f,fd,hm,F,hbd⟩:=T.src j hj;exact⟨f,fd,tp i,_,ps,rfl,rfl,hm,F,hbd,sR h,λL G a cv LX cdv A outer s H E C hr=>hb L G a cv ⟨LX⟩ f cdv A outer s H E ⟨C⟩ hr⟩
end
noncomputable def nG:D->Sto->Ak (Aa D)
 |.lst xs,_=>Ab xs
 |.tup xs,_=>Ab xs
 |.loc n,S=>match S[n]? with
  |some (.lst xs)=>Ab xs
  |_=>none
 |_,_=>none
noncomputable def jQ (mu:Aq)(f:DE):DE:=λenv S=>(f env S).bind λd S1=>match (nG d S1).bind jG with
 |some ys=>if mu then .ok (.loc S1.length) (S1++[.lst ys]) else .ok (.lst ys) S1
 |none=>.bad
section
variable {X:Cx}{pins:Aa (Af × Co)}{σ : _L.St}{H P:Hp}{α : Aa Af}{S:Sto}{s:Ag}
theorem bK {K:Type}{is:K->Ac->Prop}{hash:K->Al}{lt':K->K->Aq}{d:K}{Fit:K->Prop}(kd:_S.Kind X.prog X.w is hash lt' d Fit s.heap)(ad:_S.AddS X.prog X.w is hash s.heap)(hc:X.calm=true)(hu:X.A.units+64<Fi)(I:Inv X pins σ H s)(r:Rel X.K H P α S){a:Af}{its:Aa Ac}
  (ha:s.heap.IsList a its.toArray\/s.heap.IsTuple a its.toArray) (ks:Aa K) (hl:ks.length=its.length) (hk:∀ i v,its[i]? = Ab v->is (ks.getD i d) v) (hn:(_S.srt lt' ks).length<=1000) (hf:∀ k∈ks,Fit k) (enc:K->D)
  (back:∀ k v,is k v->v∈its->∃ vv,qL vv v/\Rep X.K P α (enc k) vv) {E:Ac->Ag->Prop} :
  Ao (As X.prog X.w) X.A (call (.type "set") [.ref a]) (λu s1=>Ao (As X.prog X.w) X.A (call (.builtin "sorted") [u]) (NewR X pins σ H P α ((_S.srt lt' ks).map enc)) E s1) E s:=by
 have hsz:its.toArray.size=ks.length:=by rw[Bf,hl]
 have mem:∀ k,k∈_S.srt lt' ks↔k∈ks:=λk=>_S.uM kd.ord k ks;have inn:∀ i,i<ks.length->ks.getD i d∈ks:=λi hi=>by simp[Kh,hi]
 refine _S.iE (U:=_S.srt lt' ks) ad (I.ok.hd hc) li ha (λi=>ks.getD i d) (λi v hv=>hk i v (by simpa using hv)) li (λi hi=>(mem _).mpr (inn i (by rw[<- hsz];exact hi))) λh1 tk1 Z kp=>?_
 have seen:∀ k∈_S.y9 (λi=>ks.getD i d) its.toArray.size,k∈ks:=λk hk'=>by
  obtain⟨i,hi,rfl⟩:=_S.jS.mp hk';exact inn i (by rw[<- hsz];exact hi)
 have I1:Inv X pins σ H { s with heap:=h1,toks:=tk1 }:=I.kept kp
 refine _S.oI (s:={ s with heap:=h1,toks:=tk1 }) kd (I.ok.hd hc) li kp Z (λk hk'=>hf k (seen k hk')) (U:=_S.srt lt' ks) li (λk hk'=>(mem k).mpr (seen k hk')) λh2 tk2 D c ps kp2 hD hob hps hp hpl=>?_
 rw[hsz,U8 kd.ord] at hps;have vv:∀ (ps:Aa (K × Ac)),(∀ p∈ps,is p.1 p.2/\p.2∈its)->∃ vs,qK vs (ps.map (·.2))/\qE X.K P α ((ps.map (·.1)).map enc) vs:=by
  intro ps
  induction ps with
  |nil=>exact λ_=>⟨[],.nil,.nil⟩
  |cons p ps ih =>
   intro h;obtain⟨vs,a1,a2⟩:=ih λq hq=>h q (by simp[hq])
   obtain⟨v,b1,b2⟩:=back p.1 p.2 (h p (by simp)).1 (h p (by simp)).2
   exact⟨v::vs,.cons b1 a1,.cons b2 a2⟩
 obtain⟨vs,a1,a2⟩:=vv ps λp hpm=>by simpa using hp p hpm
 rw[hps] at a2;have nd:([(D,HO.lst vs)].map (·.1)).Nodup:=by simp
 have I2:Inv X pins σ (kA H [(D,HO.lst vs)]) { s with heap:=h2,toks:=tk2 }:=Inv.laidL (s:={ s with heap:=h1,toks:=tk1 }) (L:=[(D,HO.lst vs)]) (t':=tk2) I1 kp2 (λp hpm=>by
  have:p=(D,HO.lst vs):=by simpa using hpm
  subst this;exact hD) λp hpm=>by
  have:p=(D,HO.lst vs):=by simpa using hpm
  subst this;refine⟨?_,ps.map (·.2),c,a1,hob⟩
  have:=a1.length;rw[Av] at this;rw[this,Ej]
  lia
 exact⟨D,vs,rfl,I1.hok.fresh hD,I2,a2⟩
set_option tactic.hygienic true in
theorem FB {xs:Aa D}{v:V}{vv:Ac}(I:Inv X pins σ H s)(r:Rel X.K H P α S)(p:Rep X.K P α d v)(q:qL v vv)(h:nG d S=Ab xs) :
  ∃ a vs its,vv=.ref a/\qE X.K P α xs vs/\qK vs its/\(s.heap.IsList a its.toArray\/s.heap.IsTuple a its.toArray)/\xs.length=its.length:=by
 cases d with
 |lst ys=>exact rP I r p q h
 |tup ys=>exact rP I r p q h
 |loc n =>
  have hS:S[n]? = Ab (.lst xs):=by
   have h:(match S[n]? with|some (.lst xs)=>Ab xs|_=>none)=Ab xs:=h
   split at h
   .rename_i e;cases h;exact e
   .cases h
  simp only[Rep] at p;obtain⟨a,rfl,ha⟩:=p;cases (show vv=Ce a from q)
  obtain⟨vs,z,t⟩:=r.at' n a _ ha hS;obtain⟨its,rv,p,hz⟩:=I.list (SqL.of z);exact⟨a,vs,its,rfl,t,rv,.inl p.isList,by rw[t.length,rv.length]⟩
 |_=>cases h
end
section
variable {X:Cx}{e:Bw}{fa:DE}{p1 p2 pos1 pos2:Fl}{mu:Aq}
set_option tactic.hygienic true in
theorem eF (hc:X.calm=true)(hu:X.A.units+64<Fi)(hg:Gl X "sorted")(hm:X.mg "sorted" = none)(hg2:Gl X "set")(hm2:X.mg "set" = none)(ha:PE X e (tD X fa))(he:Be [e] X.env=(false,eval e X.env)::Be [] X.env:=by rfl) :
  PE X (.Call (.Name "sorted" p1) [.Call (.Name "set" p2) [e] [] pos2] [] pos1) (tD X (jQ mu fa)):=by
 intro pins s σ H Q I h;obtain⟨P,α,env,S,r,re,af⟩:=h;refine Ha (wF I hg hm oW ?_);refine Kl ?_ rfl rfl;refine Ib ?_;refine Zk (wF I hg2 hm2 dR (Ep ?_ he rfl));rw[he];refine Ib (thn (zR ha I r re af) λvv s1 ⟨v,H1,P1,α1,d,S1,G1,af1⟩=>Ig ?_);cases hq:(nG d S1).bind jG with
 |none=>simp only[hq] at af1;exact An af1
 |some ys =>
   simp only[hq] at af1;obtain⟨xs,hd,hs⟩:=Ei.mp hq;obtain⟨a,vs,its,rfl,t1,rv1,e1,l1⟩:=FB G1.inv G1.rel G1.rep G1.val hd;have main:Ao (As X.prog X.w) X.A (call (.type "set") [.ref a]) (λu s1=>Ao (As X.prog X.w) X.A (call (.builtin "sorted") [u]) (NewR X pins σ H1 P1 α1 ys) X.xe s1) X.xe s1:=by
    unfold jG at hs;cases hi:zU xs with
    |some ns =>
     rw[hi] at hs;dsimp only at hs
     split at hs
     .rename_i hlt
      cases hs;have:=vO hi;subst this;have:=wR t1;subst this;refine bK (d:=0) (_S.J3 X.prog X.w s1.heap) (_S.M2 s1.heap) hc hu G1.inv G1.rel e1 ns (by simpa using l1) (λi u hu'=>?_) hlt (λ_ _=>trivial) D.int λk u hk _=>?_
      .have hi:Jo its ns:=by simpa using uD rv1
       obtain⟨t,rfl⟩:=Pz hi i u hu';exact Wa _ _ _ _
      .obtain⟨t,rfl⟩:=_S.wL hk
       exact⟨.int k,⟨t,rfl⟩,by simp only[Rep]⟩
     .cases hs
    |none =>
     rw[hi] at hs;dsimp only at hs;cases ht:wN xs with
     |none=>rw[ht] at hs;cases hs
     |some ks =>
      rw[ht] at hs;dsimp only at hs
      split at hs
      .rename_i hlt
       cases hs;have hlt':=EQ.mp hlt;have:=fF ht;subst this;have at':∀ (i:Ai) (u:Ac),its[i]? = Ab u->∃ b,u=.ref b/\Pl (Bh X.prog X.w) s1.heap (ks.getD i []) b/\∃ vv,qL vv u/\Rep X.K P1 α1 (tpD (ks.getD i [])) vv:=λi u hu'=>by
        have hii:i<its.length:=(Bo.mp hu').1;have hik:i<ks.length:=by rw[Av] at l1;lia
        obtain⟨v,p,q,_⟩:=w8 t1 rv1 (j:=i) (by rw[Bf];exact hii)
        have hd:(ks.map tpD).getD i D.non=tpD (ks.getD i []):=by simp[Kh,hik]
        rw[hd] at p;have hu2:its.toArray[i]'(by rw[Bf];exact hii)=u:=by
         rw[Ar hii] at hu';simpa using hu'
        rw[hu2] at q;obtain⟨b,ws,us,rfl,sq,t,rv,⟨o,ho,hcl,m,hd⟩,_,_⟩:=vZ G1.inv G1.rel (show Rep X.K P1 α1 (.tup ((ks.getD i []).map D.int)) v from p)
        cases (show u=Ce b from q)
        have:=wR t;subst this;exact⟨b,rfl,⟨o,us.toArray,m,ho,hcl,hd,by simpa using tI rv⟩,.ref b,rfl,p⟩
       refine bK (d:=[]) (_S.J7 X.prog X.w s1.heap) (_S.M3 s1.heap) hc hu G1.inv G1.rel e1 ks (by simpa using l1) (λi u hu'=>?_) (Cw hlt'.1) (λk hk=>?_) tpD λk u hk hm'=>?_
       .obtain⟨b,rfl,q,_⟩:=at' i u hu'
        exact⟨b,rfl,q⟩
       .have:=Cn.mp hlt'.2 k hk
        intro z;subst z;cases this
       .obtain⟨i,hi',rfl⟩:=Cu.mp hm'
        obtain⟨b,eb,q,w,rw',pw⟩:=at' i _ (Ar hi');have:k=ks.getD i []:=_S.isT.inj hk ⟨b,eb,q⟩;rw[this];exact⟨w,rw',pw⟩
      .cases hs
   refine thn main λu s2 h2=>Ig (thn h2 λu' s3 ⟨D,vs',e,hn,I',rp'⟩=>?_);subst e;cases mu with
   |true=>exact⟨.ref D,_,I',rfl,tR G1.rel hn rp' λv' H' P' α' r' e1 e2 rp=>af1 v' H' P' α' r' (G1.same.trans e1) (G1.pre.trans e2) rp⟩
   |false=>exact⟨.ref D,_,I',rfl,xV G1.rel hn rp' λv' H' P' α' r' e1 e2 rp=>af1 v' H' P' α' r' (G1.same.trans e1) (G1.pre.trans e2) rp⟩
end
section
variable {X:Cx}{cm:Aq}{k:Ai}{e:Bw}{fa:DE}{p1 p2 pos1 pos2:Fl}{mu:Aq}
theorem eM (hc:X.calm=true)(hr:RoomC cm k X.A)(hg:Gl X "sorted")(hm:X.mg "sorted" = none)(hg2:Gl X "set")(hm2:X.mg "set" = none)(ha:QE X e fa)(he:Be [e] X.env=(false,eval e X.env)::Be [] X.env:=by rfl) :
  QE X (.Call (.Name "sorted" p1) [.Call (.Name "set" p2) [e] [] pos2] [] pos1) (jQ mu fa):=⟨eF hc hr.units hg hm hg2 hm2 ha.1 he⟩
end
section
variable {prog:Bd}{w:Bz}{A:Bt}{E:Ac->Ag->Prop}{s:Ag}{r:Af}{a b c:Al}{t u v:Qt}{n:Ai}
theorem eC {Q:Aa Ac->Ag->Prop}(hh:A.handled=none)(hr:IsRange s.heap r a b c t u v)(hs:Po a b c=true)(hn:Ik a b c=↑n)(hl:n<=2 ^ 24)
  (h:∀ (h':Bq) (tk:Ai) (acc:Ax Ac),(∀ b o,s.heap.get? b=Ab o->h'.get? b=Ab o)->ItemsOf (λi v=>∃ t,v=Jm (a+↑i*c) t) acc n->Q acc.toList { s with heap:=h',toks:=tk }) : Ao (As prog w) A (collect (.ref r)) Q E s:=by
 unfold collect;refine Ad (Pv (Gu Px ?_));rw[Hi Py _];show Ao _ A.in1 (newList [] >>= λl=>again (.builtin "list.__iadd__" ⟨[l,.ref r],[]⟩)) _ _ s;refine Ad (Eo (Am ⟨Oy Kj _,Gu Sy ?_⟩));rw[Hi Kj _];have hD:(s.heap.push { cls:=.type "list",data:=.seq ([] : Aa Ac).toArray }).get? s.heap.objs.size=Ab { cls:=.type "list",data:=.seq #[] }:=Ba _ rfl;have hr1:IsRange (s.heap.push { cls:=.type "list",data:=.seq ([] : Aa Ac).toArray }) r a b c t u v:=Ah _ hr;show Ao _ A.in1 (Lm (.ref s.heap.objs.size) (.ref r) (.ref s.heap.objs.size)) _ _ _;refine wpAny_extend_range (R:=λr s'=>match r with
  |.ok (.ret v)=>Ao (As prog w) A (match v with
   |.ref a=>do
    let o <- load a
    match o.data with
    |.seq xs epoch=>pure xs.toList
    |x=>unsupported "internal:collect"
   |x=>unsupported "internal:collect") Q E s'
  |.ok _=>Fh
  |.error e=>E e s') (s:={ s with heap:=s.heap.push { cls:=.type "list",data:=.seq ([] : Aa Ac).toArray } }) hh hr1 hs hn hl s.heap.objs.size _ _ hD λh' tk acc c' kp hS hacc=>?_
 show Ao _ A (load s.heap.objs.size >>= _) _ _ _;refine Ad (Zw hS (Am ?_));exact h h' tk acc (λb o q=>kp b o (Ci (Ay q)) (Ah _ q)) hacc
theorem eQ (r:Af)(a b c:Al)(t u v:Qt)(n:Ai)(hs:Po a b c=true)(hn:Ik a b c=↑n)(hl:n<=2 ^ 24) :
  Meets (Hn.«tuple.__new__» ⟨[.type "tuple",.ref r],[]⟩) (λA R s=>A.handled=none/\IsRange s.heap r a b c t u v/\∀ (h':Bq) (tk:Ai) (acc:Ax Ac),(∀ b o,s.heap.get? b=Ab o->h'.get? b=Ab o)->ItemsOf (λi v=>∃ t,v=Jm (a+↑i*c) t) acc n->R (.ok (.ret (.ref h'.objs.size))) { s with heap:=h'.push { cls:=.type "tuple",data:=.seq acc },toks:=tk }):=
 .of_wp λprog w A R s h=>by
  obtain⟨hh,hr,h⟩:=h;have hsub:=OO.sub;have hi:=OO.init.lookup;have hm:=madeHere_tuple;unfold Hn.«tuple.__new__»;dsimp only;generalize hg:PySem.collect (Ce r)=cc
  wp_walk
  rw[<- hg];refine eC (s:=⟨s.heap,s.gens,s.drawn,s.toks,s.os⟩) hh hr hs hn hl λh' tk acc kp hacc=>?_;rw[OP]
  wp_walk
  rw[Bm (by rw[hacc.1,Ej];omega)]
  wp_walk
  exact⟨_,rfl,h h' tk acc kp hacc⟩
theorem mS (hh:A.handled=none)(hr:IsRange s.heap r a b c t u v)(hs:Po a b c=true)(hn:Ik a b c=↑n)(hl:n<=2 ^ 24)
  (h:∀ (h':Bq) (tk:Ai) (acc:Ax Ac),(∀ b o,s.heap.get? b=Ab o->h'.get? b=Ab o)->ItemsOf (λi v=>∃ t,v=Jm (a+↑i*c) t) acc n->Q (.ref h'.objs.size) { s with heap:=h'.push { cls:=.type "tuple",data:=.seq acc },toks:=tk }) : Ao (As prog w) A (call (.type "tuple") [.ref r]) Q E s:=
 Xg OO (by decide) (PySem.F.typeCall_tuple_1 _) (PySem.F.newCall_tuple_1 _) (λobj=>PySem.F.args_object_init_2 obj _) PySem.F.entry_tuple_new (eQ r a b c t u v n hs hn hl) ⟨hh,hr,λh' tk acc kp hacc=>⟨⟨_,Ba _ rfl,rfl⟩,h h' tk acc kp hacc⟩⟩
end
noncomputable def rsN:Aq->Dx
 |true => "tuple"
 |false => "list"
noncomputable def rsD:Aq->Aa D->D
 |true,l=>.tup l
 |false,l=>.lst l
noncomputable def lX (tp:Aq)(f:DA):DE:=λenv S=>(f env S).bind λds S1=>match jE ds with
 |some its=>if its.length<=lim then .ok (rsD tp its) S1 else .bad
 |none=>.bad
theorem rY {acc:Ax Ac}{lo:Al}{n:Ai}(h:ItemsOf (λi v=>∃ t,v=Jm (lo+↑i*1) t) acc n):qK ((De n).map λ(i:Ai)=>V.int (lo+i)) acc.toList:=by
 have key:∀ (m:Ai) (l:Aa Ac) (k:Ai),l.length=m->(∀ j v,l[j]? = Ab v->∃ t,v=Jm (lo+((j+k:Ai):Al)*1) t)->qK ((List.range' k m).map λ(i:Ai)=>V.int (lo+i)) l:=by
  intro m
  induction m with
  |zero=>intro l k hl _;rw[Kv hl];exact .nil
  |succ m ih =>
   intro l k hl hv;cases l with
   |nil=>cases hl
   |cons v l =>
    obtain⟨t,rfl⟩:=hv 0 v rfl;rw[List.range'_succ,Dv];refine .cons ⟨t,by rw[Int.mul_one,Hj]⟩ (ih l (k+1) (AaB hl) λj v e=>?_)
    obtain⟨t,rfl⟩:=hv (j+1) v e;exact⟨t,by rw[show j+1+k=j+(k+1) by omega]⟩
 rw[List.range_eq_range'];exact key n acc.toList 0 (by rw[Bg];exact h.1) λj v e=>h.2 j v (by rwa [Bk] at e)
theorem rN {K:Aj}{P:Hp}{α:Aa Af}(lo:Al)(n:Ai):qE K P α (xT lo n) ((De n).map λ(i:Ai)=>V.int (lo+i)):=by
 unfold xT;generalize De n=l
 induction l with
 |nil=>exact .nil
 |cons i l ih=>exact .cons (by simp only[Rep]) ih
section
variable {X:Cx}{e:Bw}{es:Aa Bw}{f:DA}{p p0 pos pos0:Fl}
theorem aF {tp:Aq}{pins:Aa (Af × Co)}{σ:_L.St}{H P:Hp}{α:Aa Af}{S:Sto}{s:Ag}{Q:VK}{lo hi:Al}{t u v:Qt}{tk:Ai}(hc:X.calm=true)(I:Inv X pins σ H s)(r:Rel X.K H P α S)(h1 : -(2 ^ 62)<=lo)(h2:lo<2 ^ 62)(h3 : -(2 ^ 62)<=hi)(h4:hi<2 ^ 62)
  (hl:(hi-lo).toNat<=lim) (af:OkV X P α Q (rsD tp (xT lo (hi-lo).toNat)) S) :
  Ao (As X.prog X.w) X.A (call (.type (rsN tp)) [.ref s.heap.objs.size]) (EP X pins σ Q) X.xe { s with heap:=s.heap.push { cls:=.type "range",data:=.fields #[.int lo t,.int hi u,.int 1 v] },toks:=tk }:=by
 have hz:Ik lo hi 1=(((hi-lo).toNat:Ai):Al):=by rw[rangeSize_one];split <;> omega
 have hm:(hi-lo).toNat<=2 ^ 24:=by unfold lim at hl;omega
 have I1:Inv X pins σ H { s with heap:=s.heap.push { cls:=.type "range",data:=.fields #[.int lo t,.int hi u,.int 1 v] },toks:=tk }:=I.kept λb o e=>Ah _ e
 cases tp with
 |true =>
  refine mS (I1.ok.hd hc) (Yk ..) (small_one h1 h2 h3 h4) hz hm λh' tk' acc kp hacc=>?_;have I2:Inv X pins σ H { s with heap:=h',toks:=tk' }:=I1.kept (t':=tk') kp
  have hr:=rY hacc;have I3:=I2.laid (t':=tk') (h':=h'.push { cls:=.type "tuple",data:=.seq acc }) (a:=h'.objs.size) (λb o e=>Ah _ e) (Au _) (show z9 X.prog X.w _ _ _ (.tup _) from⟨by rw[Av,Jt,Ej];omega,acc.toList,hr,by rw[OP];exact Uc _ _⟩)
  exact⟨.ref h'.objs.size,_,I3,rfl,jC r (I2.hok.fresh (Au _)) (rN lo _) af⟩
 |false =>
  refine call_list_range (I1.ok.hd hc) (Yk ..) (small_one h1 h2 h3 h4) hz hm λh' tk' acc c' kp hS hacc=>?_;have hr:=rY hacc;have I3:=I1.laid (t':=tk') (h':=h') kp (Au _) (show z9 X.prog X.w _ _ _ (.lst _) from⟨by rw[Av,Jt,Ej];omega,acc.toList,c',hr,by rw[OP];exact hS⟩)
  exact⟨.ref _,_,I3,rfl,xV r (I1.hok.fresh (Au _)) (rN lo _) af⟩
theorem KN {tp:Aq}{T:Ap}(hc:X.calm=true)(hT:Fc T=Ab (.type (rsN tp)))(hn:T≠("__name__" : Ap))(hd:(T == ("__debug__" : Ap))=false)(hg0:Gl X T)(hm0:X.mg T=none)(hg:Gl X "range")(hm:X.mg "range" = none)(ha:PA X (e::es) (tDA X f))(hs:Be (e::es) X.env=(false,eval e X.env)::Be es X.env:=by rfl)(hpl:(Gc pos (Be es X.env)).any (·.1)=false:=by rfl) :
  PE X (.Call (.Name T p0) [.Call (.Name "range" p) (e::es) [] pos] [] pos0) (tD X (lX tp f)):=by
 intro pins s σ H Q I h;obtain⟨P,α,env,S,r,re,af⟩:=h;refine Zk (wF I hg0 hm0 hT (Ep ?_ rfl rfl) hn hd);refine Ib ?_;refine Zk (wF I hg hm boot_range (Ep (thn (wD ha I r re af pos) λus s1 ⟨vs,H1,P1,α1,ds,S1,I1,rv,r1,re1,rp,e1,e2,af1⟩=>?_) hs hpl));cases hi:jE ds with
 |none=>rw[hi] at af1;exact An af1
 |some its =>
  rw[hi] at af1;obtain⟨hl,af2⟩:=xK af1;have af3:OkV X P1 α1 Q _ S1:=λv H' P' α' r' s' p' q'=>af2 v H' P' α' r' (e1.trans s') (e2.trans p') q';cases aG hi with
  |one j c =>
   obtain⟨ws,rfl,t1⟩:=uL rp;cases t1.nil_inv;obtain⟨u,rfl,t,rfl⟩:=uJ rv;rw[vB] at hl;exact call_range_1 (Ig (aF (lo:=0) hc I1 r1 om om c.1 c.2 (by rw[Xa];exact hl) (by rw[Xa];exact af3)))
  |two i j c =>
   obtain⟨ws,rfl,t1⟩:=uL rp;obtain⟨ws2,rfl,t2⟩:=uL t1;cases t2.nil_inv;obtain⟨u,u',rfl,⟨t,rfl⟩,t',rfl⟩:=mI rv;rw[vB] at hl;exact call_range_2 (Ig (aF hc I1 r1 c.1 c.2.1 c.2.2.1 c.2.2.2 hl af3))
theorem BS (hc:X.calm=true)(hg0:Gl X "tuple")(hm0:X.mg "tuple" = none)(hg:Gl X "range")(hm:X.mg "range" = none)(ha:QA X (e::es) f)(hs:Be (e::es) X.env=(false,eval e X.env)::Be es X.env:=by rfl)(hpl:(Gc pos (Be es X.env)).any (·.1)=false:=by rfl) :
  QE X (.Call (.Name "tuple" p0) [.Call (.Name "range" p) (e::es) [] pos] [] pos0) (lX true f):=⟨KN hc WD (by decide +kernel) (by decide +kernel) hg0 hm0 hg hm ha.1 hs hpl⟩
end
noncomputable def iZ (d:D)(S:Sto):Ak (Aa D):=match d with
 |.tup _=>none
 |d=>nG d S
noncomputable def uU (f:DE):DE:=λenv S=>(f env S).bind λd S1=>match (iZ d S1).bind zU with
 |some ns=>if ns.length<4000 then .ok (.int (iK ns)) S1 else .bad
 |none=>.bad
section
variable {X:Cx}{e:Bw}{fa:DE}{p1 p2 pos1 pos2:Fl}
set_option tactic.hygienic true in
theorem PM {pins:Aa (Af × Co)}{σ:_L.St}{H P:Hp}{α:Aa Af}{S:Sto}{s:Ag}{xs:Aa D}{v:V}{vv:Ac}(I:Inv X pins σ H s)(r:Rel X.K H P α S)(p:Rep X.K P α d v)(q:qL v vv)(h:iZ d S=Ab xs) :
  ∃ a vs its,vv=.ref a/\qE X.K P α xs vs/\qK vs its/\s.heap.IsList a its.toArray:=by
 cases d with
 |lst ys =>
  cases h;obtain⟨a,vs,its,n,rfl,_,t,rv,e,l,_⟩:=yZ I r p;exact⟨a,vs,its,q,t,rv,⟨_,e,rfl,n,rfl⟩⟩
 |loc n =>
  have hS:S[n]? = Ab (.lst xs):=by
   have h:(match S[n]? with|some (.lst xs)=>Ab xs|_=>none)=Ab xs:=h
   split at h
   .rename_i e;cases h;exact e
   .cases h
  simp only[Rep] at p;obtain⟨a,rfl,ha⟩:=p;cases (show vv=Ce a from q)
  obtain⟨vs,z,t⟩:=r.at' n a _ ha hS;obtain⟨its,rv,p,hz⟩:=I.list (SqL.of z);exact⟨a,vs,its,rfl,t,rv,p.isList⟩
 |_=>cases h
theorem iJ (hc:X.calm=true)(hg:Gl X "len")(hm:X.mg "len" = none)(hg2:Gl X "set")(hm2:X.mg "set" = none)(ha:PE X e (tD X fa))(he:Be [e] X.env=(false,eval e X.env)::Be [] X.env:=by rfl) :
  PE X (.Call (.Name "len" p1) [.Call (.Name "set" p2) [e] [] pos2] [] pos1) (tD X (uU fa)):=by
 intro pins s σ H Q I h;obtain⟨P,α,env,S,r,re,af⟩:=h;refine Ha (wF I hg hm M8 ?_);refine Kl ?_ rfl rfl;refine Ib ?_;refine Zk (wF I hg2 hm2 dR (Ep ?_ he rfl));rw[he];refine Ib (thn (zR ha I r re af) λvv s1 ⟨v,H1,P1,α1,d,S1,G1,af1⟩=>Ig ?_);cases hq:(iZ d S1).bind zU with
 |none=>simp only[hq] at af1;exact An af1
 |some ns =>
  simp only[hq] at af1;obtain⟨hlt,af2⟩:=xK af1;obtain⟨xs,hd,hn⟩:=Ei.mp hq;obtain⟨a,vs,its,rfl,t1,rv1,e1⟩:=PM G1.inv G1.rel G1.rep G1.val hd;have:=vO hn;subst this;have:=wR t1;subst this;have hi:Jo its ns:=by simpa using uD rv1
  have hlen:its.length=ns.length:=hi.length;have hsz:its.toArray.size=ns.length:=by rw[Bf];exact hlen
  refine call_set_list (ns:=ns) (G1.inv.ok.hd hc) e1 (by simpa using hi) (by rw[hsz];have:scanBound=4096:=rfl;omega) λh' tk hS hk=>?_
  rw[hsz,gY] at hS;obtain⟨o,es,ep,t,ho,hex,hd,hel,hmem,hsb,hf,hes⟩:=hS;have I2:Inv X pins σ H1 { s1 with heap:=h',toks:=tk }:=G1.inv.kept λb u eq=>hk b u (Ay eq) eq
  have hdl:(ns.foldl dL []).length<=ns.length:=by rw[<- gY];exact firstMet_length_le _ _
  refine Ig (call_len_set (s:={ s1 with heap:=h',toks:=tk }) ho hex hd hf (by rw[hes];omega) ?_)
  rw[hes];exact⟨.int _,H1,I2.tok _,⟨_,rfl⟩,af2 _ H1 P1 α1 G1.rel G1.same G1.pre (by simp only[Rep];rfl)⟩
theorem oB (hc:X.calm=true)(hg:Gl X "len")(hm:X.mg "len" = none)(hg2:Gl X "set")(hm2:X.mg "set" = none)(ha:QE X e fa)(he:Be [e] X.env=(false,eval e X.env)::Be [] X.env:=by rfl) :
  QE X (.Call (.Name "len" p1) [.Call (.Name "set" p2) [e] [] pos2] [] pos1) (uU fa):=⟨iJ hc hg hm hg2 hm2 ha.1 he⟩
theorem UG {cm:Aq}{k:Ai}(hr:RoomC cm k X.A):ZOp X (Cy .NotIn) (pX uZ):=⟨OpD.look (r8 hr.units)⟩
end
section
variable {X:Cx}{o:Bw}{fo:DE}{apos cpos:Fl}{elts:Aa Bw}{x1:Ai}{tpos:Fl}
noncomputable def t9:G2:=λa b S=>match a,b with
 |.bl x,.bl y=>.ok (.bl (x != y)) S
 |_,_=>.bad
theorem ZW:OpD X (Cy .IsNot) t9:=by
 intro pins σ H s P α S v u vv uu a b Q I r rv ru pa pb af;cases a with
 |bl x =>
  cases b with
  |bl y =>
   simp only[Rep] at pa pb;subst pa pb;cases (show vv=Fp x from rv)
   cases (show uu=Fp y from ru)
   have h:EP X pins σ Q (.bool (x != y)) s:=⟨.bl _,H,I,rfl,xr af r (by simp only[Rep])⟩
   cases x <;> cases y <;> exact Am h
  |_=>exact An af
 |_=>exact An af
theorem UF:ZOp X (Cy .IsNot) t9:=⟨ZW⟩
end
end _D
section
end
section
end
namespace _D
open PySem
variable {ds:Aa D}{v:Ac}{n:Ai}{lo hi:Ak Al}{f1:DE}{F:DF}{gs:DGs}{S1 S' S2:Sto}{env':qF}
def Ok {β:Type}(r:Res β)(Q:β->Sto->Prop):Prop:=∃ d S,r=.ok d S/\Q d S
theorem qM {β:Type}{r:Res β}{Q:β->Sto->Prop}{d:β}{S:Sto}(h:r=.ok d S)(q:Q d S):Ok r Q:=⟨d,S,h,q⟩
theorem gD {fe:DE}{env:qF}{S:Sto}{acc:Aa D}{x:D}(h:fe env S=.ok x S1)(hl:acc.length<lim):zM fe env S acc=.ok (env,acc++[x]) S1:=by
 unfold zM;rw[h];simp[Res.bind,hl]
theorem jP {cap:Aa (Ak Ai)}{fi:DI2}{g:DG}{t:DT}{k:DK}{env:qF}{S:Sto}{o:Ak (Ai × MO)}{items:Aa D}(h:fi env S=.ok (o,items) S1)(e:goL o g t k items (x9 cap env) S1 [] = .ok (env',ds) S'):zJ false cap fi g t k env S=.ok (.lst ds) S':=by
 unfold zJ;rw[h];simp only[Res.bind,e,mkM];rfl
theorem pS {α β:Type}(sel:α->Aq)(val:α->β)(l:Aa α) : (l.flatMap λd=>if sel d then [val d] else []) = (l.filter sel).map val:=by
 induction l with
 |nil=>rfl
 |cons d l ih =>
  rw[Ju,ih];cases h:sel d <;> simp[h]
theorem goT {α:Type}{enc:α->D}{o:Ak (Ai × MO)}{g:DG}{t:DT}{k:DK}(out:α->Aa D)(C:qF->Sto->Prop)(hC:∀ env S,C env S->stn o S) :
  ∀ (xs:Aa α) (env:qF) (S:Sto) (acc:Aa D),C env S->acc.length+(xs.flatMap out).length<=lim ->
  (∀ x∈xs,∀ env S acc,C env S->acc.length+(out x).length<=lim->∃ env1 S1 b S2,g (enc x) env S=.ok env1 S1/\t env1 S1=.ok b S2/\((b=false/\out x=[]/\C env1 S2)\/(b=true/\∃ env3 S3,k env1 S2 acc=.ok (env3,acc++out x) S3/\C env3 S3))) ->
  ∃ env' S',goL o g t k (xs.map enc) env S acc=.ok (env',acc++xs.flatMap out) S'/\C env' S'
 |[],env,S,acc,h,hl,_=>⟨env,S,by simp[goL,yP.mpr (hC _ _ h)],h⟩
 |x::xs,env,S,acc,h,hl,step=>by
  rw[Ju,Cj] at hl;obtain⟨env1,S1,b,S2,e1,e2,r⟩:=step x (Dj ..) env S acc h om;have hst:=yP.mpr (hC _ _ h);rcases r with⟨rfl,h0,h2⟩|⟨rfl,env3,S3,e3,h3⟩
  .obtain⟨env',S',e,q⟩:=goT out C hC xs env1 S2 acc h2 om λd hd=>step d (Cd _ hd)
   refine⟨env',S',?_,q⟩;simp only[Dv,goL,hst,Dw,e1,e2,Res.bind,By,Ef,Ju,h0,Gw];exact e
  .obtain⟨env',S',e,q⟩:=goT out C hC xs env3 S3 (acc++out x) h3 (by rw[Cj];omega) λd hd=>step d (Cd _ hd)
   refine⟨env',S',?_,q⟩;simp only[Dv,goL,hst,Dw,e1,e2,Res.bind,e3,Ju];rw[e,Cp]
section
variable {α β:Type}{enc:α->D}{enc2:β->D}{cap:Aa (Ak Ai)}{fi:DI2}{g:DG}{t:DT}{fe:DE}{env:qF}{S S0:Sto}{o:Ak (Ai × MO)}{xs:Aa α}
theorem RP (hst:stn o S)(sel:α->Aq)(val:α->D)(C:qF->Prop)(h0:C env)(hl:xs.length<=lim)
  (step:∀ x∈xs,∀ env,C env->∃ env1,g (enc x) env S=.ok env1 S/\C env1/\t env1 S=.ok (sel x) S/\(sel x=true->fe env1 S=.ok (val x) S)) :
  ∃ env',goL o g t (zM fe) (xs.map enc) env S [] = .ok (env',(xs.filter sel).map val) S:=by
 have lf:(xs.flatMap λd=>if sel d then [val d] else []).length<=lim:=by
  rw[pS,Av];exact DL (Jh _ _) hl
 obtain⟨env',S',e,_,q⟩:=goT (enc:=enc) (o:=o) (g:=g) (t:=t) (k:=zM fe) (λd=>if sel d then [val d] else []) (λenv S'=>C env/\S'=S) (λ_ _ h=>h.2▸hst) xs env S [] ⟨h0,rfl⟩ (by simpa using lf) (λd hd env S' acc hC hl=>by
  obtain⟨hc,rfl⟩:=hC;obtain⟨env1,e1,c1,e2,k⟩:=step d hd env hc;refine⟨env1,S',sel d,S',e1,e2,?_⟩;cases hs:sel d with
  |false=>exact .inl ⟨rfl,by simp,c1,rfl⟩
  |true =>
   refine .inr ⟨rfl,env1,S',?_,c1,rfl⟩;simp only[Dw];exact gD (k hs) (by simp only[hs,Dw,On] at hl;omega))
 subst q;refine⟨env',?_⟩;rw[e,Gw,pS]
theorem h9 (h:fi env S=.ok (o,xs.map enc) S)(hst:stn o S)(sel:α->Aq)(val:α->D)(C:qF->Prop)(h0:C (x9 cap env))(hl:xs.length<=lim)
  (step:∀ x∈xs,∀ env,C env->∃ env1,g (enc x) env S=.ok env1 S/\C env1/\t env1 S=.ok (sel x) S/\(sel x=true->fe env1 S=.ok (val x) S)) :
  zJ false cap fi g t (zM fe) env S=.ok (.lst ((xs.filter sel).map val)) S:=by
 obtain⟨env',e⟩:=RP hst sel val C h0 hl step;exact jP h e
theorem K9 {fi2:DI2}{g2:DG}{t2:DT}{o2:Ak (Ai × MO)}(h:fi env S=.ok (o,xs.map enc) S)(hst:stn o S)(hst2:stn o2 S)(ys:α->Aa β)(sel:α->β->Aq)(val:α->β->D)(C:qF->Prop)(C2:α->qF->Prop)(h0:C (x9 cap env))(hC2:∀ x env,C2 x env->C env)
  (hl:(xs.flatMap λx=>((ys x).filter (sel x)).map (val x)).length<=lim)
  (step:∀ x∈xs,∀ env,C env->∃ env1,g (enc x) env S=.ok env1 S/\C2 x env1/\t env1 S=.ok true S/\fi2 env1 S=.ok (o2,(ys x).map enc2) S)
  (step2:∀ x∈xs,∀ y∈ys x,∀ env,C2 x env->∃ env1,g2 (enc2 y) env S=.ok env1 S/\C2 x env1/\t2 env1 S=.ok (sel x y) S/\(sel x y=true->fe env1 S=.ok (val x y) S)) :
  zJ false cap fi g t (kIn fi2 g2 t2 (zM fe)) env S=.ok (.lst (xs.flatMap λx=>((ys x).filter (sel x)).map (val x))) S:=by
 obtain⟨env',S',e,_,q⟩:=goT (enc:=enc) (o:=o) (g:=g) (t:=t) (k:=kIn fi2 g2 t2 (zM fe)) (λx=>((ys x).filter (sel x)).map (val x)) (λenv S'=>C env/\S'=S) (λ_ _ h=>h.2▸hst) xs (x9 cap env) S [] ⟨h0,rfl⟩ (by simpa using hl) (λd hd env S' acc hC hl=>by
  obtain⟨hc,rfl⟩:=hC;obtain⟨env1,e1,c1,e2,e3⟩:=step d hd env hc;obtain⟨env2,S2,e4,q,r⟩:=goT (enc:=enc2) (o:=o2) (g:=g2) (t:=t2) (k:=zM fe) (λx=>if sel d x then [val d x] else []) (λenv S''=>C2 d env/\S''=S') (λ_ _ h=>h.2▸hst2) (ys d) env1 S' acc ⟨c1,rfl⟩ (by rw[pS];exact hl) (λx hx env S'' acc hC hl=>by
   obtain⟨hc,rfl⟩:=hC;obtain⟨env3,f1,f2,f3,f4⟩:=step2 d hd x hx env hc;refine⟨env3,S'',sel d x,S'',f1,f3,?_⟩;cases hs:sel d x with
   |false=>exact .inl ⟨rfl,by simp,f2,rfl⟩
   |true =>
    refine .inr ⟨rfl,env3,S'',?_,f2,rfl⟩;simp only[Dw];exact gD (f4 hs) (by simp only[hs,Dw,On] at hl;omega))
  subst r;refine⟨env1,S2,true,S2,e1,e2,.inr ⟨rfl,env2,S2,?_,hC2 d _ q,rfl⟩⟩;unfold kIn;rw[e3];simp only[Res.bind];rw[e4,pS])
 subst q;have:=jP (cap:=cap) h e
 rwa [Gw] at this
end
theorem kQ {env:qF}{S:Sto}{a:D}(h1:f1 env S=.ok a S1):qO 1 F (qA f1 (qC)) env S=F [a] S1:=by
 simp only[qO,qA,qC,h1,Res.bind,Bj,Ec,Dw]
theorem UQ {f2:DE}{env:qF}{S:Sto}{a b:D}(h1:f1 env S=.ok a S1)(h2:f2 env S1=.ok b S2):qO 2 F (qA f1 (qA f2 (qC))) env S=F [a,b] S2:=by
 simp only[qO,qA,qC,h1,h2,Res.bind,Bj,Ec,Dw]
theorem R4 {f2 f3:DE}{env:qF}{S S3:Sto}{a b c:D}(h1:f1 env S=.ok a S1)(h2:f2 env S1=.ok b S2)(h3:f3 env S2=.ok c S3):qO 3 F (qA f1 (qA f2 (qA f3 (qC)))) env S=F [a,b,c] S3:=by
 simp only[qO,qA,qC,h1,h2,h3,Res.bind,Bj,Ec,Dw]
theorem HC {f:DE}{env:qF}{S:Sto}{b:Aq}(h:f env S=.ok (.bl b) S1):dTr f env S=.ok b S1:=by
 unfold dTr;rw[h];rfl
theorem Q7 {env:qF}{S:Sto}{a:D}(h1:f1 env S=.ok a S1):qA f1 (qC) env S=.ok [a] S1:=by
 simp only[qA,qC,h1,Res.bind]
theorem rZ {env:qF}{i:Ai}{d:D}{S:Sto}(h:env[i]? = Ab (Ab d)):qB i env S=.ok d S:=by simp only[qB,h]
theorem oV {α:Type}(p:α->Aq)(l:Aa α) : x5 (l.map λx=>D.bl (p x))=Ab (l.map p):=by
 induction l with
 |nil=>rfl
 |cons x l ih =>
  show (x5 (l.map λx=>D.bl (p x))).map (p x::·)=_
  rw[ih];rfl
section
variable {β γ:Type}{env:qF}{S:Sto}
theorem qW {r:Res β}{k:β->Sto->Res γ}{Q:γ->Sto->Prop}(h:Ok r λd S1=>Ok (k d S1) Q):Ok (r.bind k) Q:=by
 obtain⟨d,S1,rfl,h⟩:=h;exact h
theorem zE {r:Res β}{d:β}(h:Ok r λd' S'=>d'=d/\S'=S):r=.ok d S:=by
 obtain⟨_,_,e,rfl,rfl⟩:=h;exact e
theorem zI {r:Res β}{Q Q':β->Sto->Prop}(h:Ok r Q)(k:∀ d S,Q d S->Q' d S):Ok r Q':=by
 obtain⟨d,S,e,q⟩:=h;exact⟨d,S,e,k d S q⟩
variable {Q:D->Sto->Prop}{f g:DE}{fa:DA}{o:G2}{i j:Ai}
theorem o_c {d:D}(h:Q d S):Ok (dC d env S) Q:=⟨_,_,rfl,h⟩
theorem o_v {d:D}(e:env[i]? = Ab (Ab d))(h:Q d S):Ok (qB i env S) Q:=⟨_,_,rZ e,h⟩
theorem o_2 (h:Ok (f env S) λa S1=>Ok (g env S1) λb S2=>Ok (o a b S2) Q):Ok (d2 o f g env S) Q:=qW (zI h λ_ _=>qW)
theorem o_1 {u:D->Sto->Res D}(h:Ok (f env S) λa S1=>Ok (u a S1) Q):Ok (d1 u f env S) Q:=qW h
theorem mB {Q:Aa D->Sto->Prop}(h:Q [] S):Ok (qC env S) Q:=⟨_,_,rfl,h⟩
theorem v8 {Q:Aa D->Sto->Prop}(h:Ok (f env S) λa S1=>Ok (fa env S1) λas S2=>Q (a::as) S2):Ok (qA f fa env S) Q:=qW (zI h λ_ _ k=>qW (zI k λ_ _ q=>⟨_,_,rfl,q⟩))
theorem IK (h:Ok (fa env S) λas S1=>as.length<=lim/\Q (.tup as) S1):Ok (zV fa env S) Q:=qW (zI h λ_ _ k=>⟨_,_,Bl k.1,k.2⟩)
theorem E1 (h:Ok (fa env S) λas S1=>as.length<=lim/\Q (.lst as) S1):Ok (xD fa env S) Q:=qW (zI h λ_ _ k=>⟨_,_,Bl k.1,k.2⟩)
theorem AU (h:Ok (fa env S) λas S1=>as.length<=lim/\Q (.loc S1.length) (S1++[.lst as])):Ok (pQ fa env S) Q:=qW (zI h λ_ _ k=>⟨_,_,Bl k.1,k.2⟩)
theorem IA (h:Q (.loc S.length) (S++[.dct []])) : Ok (iI env S) Q:=⟨_,_,rfl,h⟩
theorem AQ (h:Q .dct0 S):Ok (fL env S) Q:=⟨_,_,rfl,h⟩
theorem r0 (h:Ok (fa env S) λas S1=>as.length=n/\Ok (F as S1) Q):Ok (qO n F fa env S) Q:=qW (zI h λ_ _ k=>by rw[Bl k.1];exact k.2)
theorem IF {as:Aa D}(h:Ok (F as S) Q):Ok (okO F as S) Q:=by
 obtain⟨d,S1,e,q⟩:=h;exact⟨d,S1,LD e,q⟩
theorem IU (h:Ok (fa env S) λas S1=>Ok (F as S1) Q):Ok (qN F fa env S) Q:=qW h
theorem AZ {a b:Al}(h:Q (.int (a+b)) S):Ok (zC (.int a) (.int b) S) Q:=⟨_,_,rfl,h⟩
theorem v3 {a b:Aa D}(l:a.length+b.length<=lim)(h:Q (.tup (a++b)) S):Ok (zC (.tup a) (.tup b) S) Q:=⟨_,_,Bl l,h⟩
theorem xM {a b:Aa D}(l:a.length+b.length<=lim)(h:Q (.lst (a++b)) S):Ok (zC (.lst a) (.lst b) S) Q:=⟨_,_,Bl l,h⟩
theorem II {a b:Al}(h:Q (.int (a-b)) S):Ok (yX (.int a) (.int b) S) Q:=⟨_,_,rfl,h⟩
theorem IE {a:Al}(h:Q (.int (-a)) S):Ok (pD (.int a) S) Q:=⟨_,_,rfl,h⟩
theorem ID {a b:Al}(l : -(2 ^ 64)<a/\a<2 ^ 64)(h:Q (.int (a*b)) S):Ok (xR (.int a) (.int b) S) Q:=by
 refine⟨_,_,?_,h⟩;unfold xR i2;rw[dW];unfold dU;simp only[l,and_self,Kf,Bool.true_or,Dw]
theorem IC {a b:Al}(l:0<b)(h:Q (.int (a % b)) S):Ok (u7 (.int a) (.int b) S) Q:=by
 refine⟨_,_,?_,h⟩;unfold u7 i2;simp[l]
theorem IB {a b:Al}(l:0<b/\b<1073741824)(h:Q (.int (a/b)) S):Ok (t8 (.int a) (.int b) S) Q:=by
 refine⟨_,_,?_,h⟩;unfold t8 i2 M9;simp[l]
theorem O6 {a b:Al}(h:Q (.bl (decide (a<b))) S):Ok (gLt (.int a) (.int b) S) Q:=⟨_,_,rfl,h⟩
theorem O1 {a b:Al}(h:Q (.bl (decide (a<=b))) S):Ok (gLe (.int a) (.int b) S) Q:=⟨_,_,rfl,h⟩
theorem O0 {a b:Al}(h:Q (.bl (decide (b<a))) S):Ok (gGt (.int a) (.int b) S) Q:=⟨_,_,rfl,h⟩
theorem IY {a b:Al}(h:Q (.bl (decide (b<=a))) S):Ok (gGe (.int a) (.int b) S) Q:=⟨_,_,rfl,h⟩
theorem NY {a b:Al}(h:Q (.bl (decide (a=b))) S):Ok (gEq (.int a) (.int b) S) Q:=⟨_,_,by kernel_rfl!,h⟩
theorem O7 {a b:Al}(h:Q (.bl (!decide (a=b))) S):Ok (gNe (.int a) (.int b) S) Q:=⟨_,_,by kernel_rfl!,h⟩
theorem dA {a:Aa D}{k:Al}{d:D}(e:_L.atI a k=Ab d)(h:Q d S):Ok (gIx (.tup a) (.int k) S) Q:=⟨d,S,by show _D.vQ (_L.atI a k) S=_;rw[e];rfl,h⟩
theorem d9 {a:Aa D}{k:Al}{d:D}(e:_L.atI a k=Ab d)(h:Q d S):Ok (gIx (.lst a) (.int k) S) Q:=⟨d,S,by show _D.vQ (_L.atI a k) S=_;rw[e];rfl,h⟩
theorem ZT {a:Aa D}(h:Q (.int a.length) S):Ok (xA [.tup a] S) Q:=⟨_,_,rfl,h⟩
theorem AS {a:Aa D}(h:Q (.int a.length) S):Ok (xA [.lst a] S) Q:=⟨_,_,rfl,h⟩
theorem AW {a:Aa D}(h:Q (.tup a) S):Ok (uX [.lst a] S) Q:=⟨_,_,rfl,h⟩
theorem AV {a:Aa D}(h:Q (.lst a) S):Ok (lY [.tup a] S) Q:=⟨_,_,rfl,h⟩
theorem pZ (h:Ok (f env S) λd S1=>∃ b,d=.bl b/\(b=true->Ok (g env S1) Q)/\(b=false->Q (.bl false) S1)):Ok (uS f g env S) Q:=qW (zI h λd S1 ⟨b,e,k1,k2⟩=>by
 subst e;cases b with
 |true=>exact k1 rfl
 |false=>exact⟨_,_,rfl,k2 rfl⟩)
theorem OC {fl fh:DO}(h:Ok (f env S) λd S1=>Ok (fl env S1) λlo S2=>Ok (fh env S2) λhi S3=>Ok (gSl d lo hi S3) Q):Ok (dSl f fl fh env S) Q:=qW (zI h λ_ _ k=>qW (zI k λ_ _=>qW))
theorem IH {a:Aa D}(h:Q (.tup (zX a lo hi)) S):Ok (gSl (.tup a) lo hi S) Q:=⟨_,_,rfl,h⟩
theorem IG {a:Aa D}(h:Q (.lst (zX a lo hi)) S):Ok (gSl (.lst a) lo hi S) Q:=⟨_,_,rfl,h⟩
theorem IV {Q:Ak Al->Sto->Prop}(h:Q none S):Ok (xZ env S) Q:=⟨_,_,rfl,h⟩
theorem IW {Q:Ak Al->Sto->Prop}(h:Ok (f env S) λd S1=>∃ k,d=.int k/\Q (Ab k) S1):Ok (x8 f env S) Q:=qW (zI h λ_ _ ⟨_,e,q⟩=>by subst e;exact⟨_,_,rfl,q⟩)
theorem IT {T:Dx}{m:D->Aa D->Sto->Res D}(h:Ok (f env S) λa S1=>tyD a S1=Ab T/\Ok (fa env S1) λas S2=>Ok (m a as S2) Q):Ok (dBm T m f fa env S) Q:=qW (zI h λ_ _ k=>by rw[k.1,Bl (by simp)];exact qW k.2)
theorem JF {xs:Aa D}{d:D}(e:S[i]? = Ab (.lst xs))(l:xs.length<lim)(h:Q .non (S.set i (.lst (xs++[d])))):Ok (wJ (.loc i) [d] S) Q:=by
 refine⟨_,_,?_,h⟩;show (match S[i]? with|some (.lst xs)=>(if xs.length<lim then Res.ok D.non (S.set i (.lst (xs++[d]))) else .bad)|_=>.bad)=_
 rw[e];exact Bl l
theorem CZ {t:DT}(h:Ok (t env S) λb S1=>(b=true->Ok (f env S1) Q)/\(b=false->Ok (g env S1) Q)):Ok (dIf t f g env S) Q:=qW (zI h λb S1 k=>by
 cases b with
 |true=>exact k.1 rfl
 |false=>exact k.2 rfl)
variable {Q:Aq->Sto->Prop}{t u:DT}
theorem L5 (h:Ok (f env S) λd S1=>∃ b,xO d S1=Ab b/\Q b S1):Ok (dTr f env S) Q:=qW (zI h λd S1 ⟨b,e,k⟩=>by
 rw[e];exact⟨_,_,rfl,k⟩)
theorem ZU (h:Ok (t env S) λb S1=>Q (!b) S1):Ok (xN t env S) Q:=qW (zI h λ_ _ k=>⟨_,_,rfl,k⟩)
theorem IL (h:Q true S):Ok (wQ env S) Q:=⟨_,_,rfl,h⟩
theorem uH (h:Ok (t env S) λb S1=>(b=true->Q true S1)/\(b=false->Ok (u env S1) Q)):Ok (uV t u env S) Q:=qW (zI h λb S1 k=>by
 cases b with
 |true=>exact⟨_,_,rfl,k.1 rfl⟩
 |false=>exact k.2 rfl)
theorem NW (h:Ok (t env S) λb S1=>(b=true->Ok (u env S1) Q)/\(b=false->Q false S1)):Ok (yW t u env S) Q:=qW (zI h λb S1 k=>by
 cases b with
 |true=>exact k.1 rfl
 |false=>exact⟨_,_,rfl,k.2 rfl⟩)
theorem dO {xs:Aa D}{a:Ai}(h:a<xs.length):_L.atI xs (a:Al)=Ab xs[a]:=by
 have e:_L.ixN xs.length (a:Al)=Ab a:=by simp[_L.ixN];lia
 simp[_L.atI,e,h]
theorem vM (S:Sto)(m:MO):(S++[m])[S.length]? = Ab m:=by simp
theorem U5 (S:Sto)(m m':MO):(S++[m]).set S.length m'=S++[m']:=by simp
theorem oN {xs:Aa D}(h:S[j]? = Ab (.lst xs)):tyD (.loc j) S=Ab "list":=by
 show (match S[j]? with|some (.lst _)=>Ab "list" | some (.dct _)=>Ab "dict" | _=>none)=_
 rw[h]
theorem m9 {Q:D->Sto->Prop}{a:Aa D}{k:Ai}(h:k<a.length)(q:∀ d∈a,Q d S):Ok (gIx (.lst a) (.int (k:Al)) S) Q:=d9 (dO h) (q _ (Sf h))
theorem AR {Q:Aa D->Sto->Prop}(h:Ok (f env S) λd S1=>∃ xs,d=.tup xs/\Q (yF xs) S1):Ok (lV (qA f qC) env S) Q:=qW (v8 (zI h λ_ _ ⟨xs,e,q⟩=>mB ⟨_,_,by rw[e];rfl,q⟩))
theorem B3 {Q:Aa D->Sto->Prop}(h:Ok (f env S) λd S1=>∃ ds,zT d=Ab ds/\Q ds S1):Ok (xY f env S) Q:=qW (zI h λd S1 ⟨ds,e,k⟩=>⟨ds,S1,by rw[e];rfl,k⟩)
theorem E4 {Q:Aa D->Sto->Prop}(h:Ok (fa env S) λas S1=>∃ ds,jE as=Ab ds/\Q ds S1):Ok (bS fa env S) Q:=qW (zI h λd S1 ⟨ds,e,k⟩=>⟨ds,S1,by rw[e];rfl,k⟩)
theorem JP (n:Ai)(h:n<=1000000):jE [.int (n:Al)]=Ab ((De n).map λ(i:Ai)=>D.int (i:Al)):=by
 unfold jE;have : -(2 ^ 62)<=(n:Al)/\(n:Al)<2 ^ 62:=⟨by lia,by lia⟩
 refine(Bl this).trans ?_;unfold xT;rw[Ez]
 congr 2
 funext i
 rw[Int.zero_add]
theorem uG {Q:D->Sto->Prop}{xs:Aa D}{k:Al}{d:D}(e:S[i]? = Ab (.lst xs))(e':_L.atI xs k=Ab d)(h:Q d S):Ok (gIx (.loc i) (.int k) S) Q:=by
 refine⟨d,S,?_,h⟩;show (match S[i]? with|some (.lst xs)=>_D.vQ (_L.atI xs k) S|_=>.bad)=_
 rw[e];show _D.vQ (_L.atI xs k) S=_;rw[e'];rfl
theorem ZS {Q:D->Sto->Prop}{xs:Aa D}(e:S[i]? = Ab (.lst xs))(h:Q (.int xs.length) S):Ok (xA [.loc i] S) Q:=by
 refine⟨_,_,?_,h⟩;have e':iV (.loc i) S=Ab xs.length:=by
  show (match S[i]? with|some (.lst xs)=>Ab xs.length|_=>none)=_
  rw[e]
 show (match iV (.loc i) S with|some n=>Res.ok (D.int n) S|none=>.bad)=_
 rw[e']
theorem ZV {Q:Qv->Sto->Prop}{xs:Aa D}{d:D}{n:Al}(e:S[i]? = Ab (.lst xs))(e':_L.ixN xs.length n=Ab j)(h:Q () (S.set i (.lst (xs.set j d)))):Ok (vU (.loc i) (.int n) d S) Q:=by
 refine⟨_,_,?_,h⟩;simp[vU,tB,e,e']
theorem tH {xs:Aa D}(h:env[i]? = Ab (Ab (.tup xs))):dIt (qB i) env S=.ok (none,xs) S:=by
 unfold dIt;rw[rZ h];rfl
theorem NB {xs:Aa D}(h:env[i]? = Ab (Ab (.lst xs))):dIt (qB i) env S=.ok (none,xs) S:=by
 unfold dIt;rw[rZ h];rfl
theorem sQ {α:Type}(f:α->β):∀ l:Aa α,l.flatMap (λx=>[f x])=l.map f
 |[]=>rfl
 |x::l=>by rw[Ju,sQ f l];rfl
theorem v7 {α:Type}{enc:α->D}{o:Ak (Ai × MO)}{cap:Aa (Ak Ai)}{fi:DI2}{tg:DG}{fe:DE}{Q:D->Sto->Prop}(xs:Aa α)(val:α->D)(C:qF->Sto->Prop)(hi:fi env S=.ok (o,xs.map enc) S1)(h0:C (x9 cap env) S1)(hl:xs.length<=lim)(hst:∀ env S,C env S->stn o S)
  (step:∀ x∈xs,∀ env S,C env S->Ok (tg (enc x) env S) λenv1 S1=>Ok (t env1 S1) λb S2=>b=true/\Ok (fe env1 S2) λd S3=>d=val x/\C env1 S3) (q:∀ env' S',C env' S'->Q (.lst (xs.map val)) S'):Ok (zJ false cap fi tg t (zM fe) env S) Q:=by
 have fm:=sQ val xs;obtain⟨env',S',e,c⟩:=goT (enc:=enc) (o:=o) (g:=tg) (t:=t) (k:=zM fe) (λx=>[val x]) C hst xs (x9 cap env) S1 [] h0 (by rw[fm,Av];simpa using hl) (λx hx env S acc hC hl=>by
  obtain⟨env1,S1,e1,b,S2,e2,rfl,d,S3,e3,rfl,c3⟩:=step x hx env S hC;exact⟨env1,S1,true,S2,e1,e2,.inr ⟨rfl,env1,S3,gD e3 (by simp at hl;lia),c3⟩⟩)
 rw[fm,Gw] at e;exact⟨_,_,jP hi e,q env' S' c⟩
theorem N4 {α:Type}{enc:α->D}{o:Ak (Ai × MO)}{tg:DG}{fe:DE}(R:D->Prop)(C:qF->Sto->Prop)(hst:∀ env S,C env S->stn o S) :
  ∀ (xs:Aa α) (env:qF) (S:Sto) (acc:Aa D),C env S->acc.length+xs.length<=lim->(∀ x∈xs,∀ env S,C env S->Ok (tg (enc x) env S) λenv1 S1=>Ok (t env1 S1) λb S2=>b=true/\Ok (fe env1 S2) λd S3=>R d/\C env1 S3) ->
  ∃ env' S' ds,goL o tg t (zM fe) (xs.map enc) env S acc=.ok (env',acc++ds) S'/\C env' S'/\ds.length=xs.length/\∀ d∈ds,R d
 |[],env,S,acc,h,_,_=>⟨env,S,[],by simp[goL,yP.mpr (hst _ _ h)],h,rfl,λ_ h=>by cases h⟩
 |x::xs,env,S,acc,h,hl,step=>by
  obtain⟨env1,S1,e1,b,S2,e2,rfl,d,S3,e3,hr,c3⟩:=step x (Dj ..) env S h;rw[Bj] at hl;obtain⟨env',S',ds,e,c,l,hR⟩:=N4 R C hst xs env1 S3 (acc++[d]) c3 (by rw[Cj];show _+1+_<=lim;lia) λy hy=>step y (Cd _ hy)
  refine⟨env',S',d::ds,?_,c,by rw[Bj,Bj,l],λz hz=>?_⟩
  .simp only[Dv,goL,yP.mpr (hst _ _ h),Dw,e1,e2,Res.bind,gD e3 (show acc.length<lim by lia)]
   rw[e,Cp];rfl
  .rcases Aw.mp hz with rfl|hz
   .exact hr
   .exact hR z hz
theorem B0 {α:Type}{enc:α->D}{o:Ak (Ai × MO)}{cap:Aa (Ak Ai)}{fi:DI2}{tg:DG}{fe:DE}{Q:D->Sto->Prop}(xs:Aa α)(R:D->Prop)(C:qF->Sto->Prop)(hi:fi env S=.ok (o,xs.map enc) S1)(h0:C (x9 cap env) S1)(hl:xs.length<=lim)(hst:∀ env S,C env S->stn o S)
  (step:∀ x∈xs,∀ env S,C env S->Ok (tg (enc x) env S) λenv1 S1=>Ok (t env1 S1) λb S2=>b=true/\Ok (fe env1 S2) λd S3=>R d/\C env1 S3) (q:∀ ds env' S',ds.length=xs.length->(∀ d∈ds,R d)->C env' S'->Q (.lst ds) S'):Ok (zJ false cap fi tg t (zM fe) env S) Q:=by
 obtain⟨env',S',ds,e,c,l,hR⟩:=N4 (enc:=enc) (o:=o) (tg:=tg) (t:=t) (fe:=fe) R C hst xs (x9 cap env) S1 [] h0 (by simpa using hl) step
 exact⟨_,_,jP hi e,q ds env' S' l hR c⟩
theorem pY {α:Type}{Q:D->Sto->Prop}{l:Aa α}{p:α->Aq}(h:Q (.bl (l.all p)) S):Ok (kX false [.lst (l.map λx=>.bl (p x))] S) Q:=by
 refine⟨_,_,?_,h⟩;show (match (zT (.lst (l.map λx=>D.bl (p x)))).bind x5 with|some bs=>Res.ok (D.bl (bs.all id)) S|none=>.bad)=_
 rw[show (zT (.lst (l.map λx=>D.bl (p x)))).bind x5=Ab (l.map p) from oV p l]
 simp only[Ni];rfl
theorem L0 {Q:D->Sto->Prop}{gg:G2}{a b x y:D}{z:D}(e1:vP bU S a=Ab x)(e2:vP bU S b=Ab y)(e3:gg x y (uB S)=.ok z (uB S))(ha:iB z=true)(h:Q z S):Ok (pX gg a b S) Q:=by
 refine⟨z,S,?_,h⟩;unfold pX;rw[e1,e2];show iW (gg x y (uB S)) S=_;rw[e3];exact Bl ha
theorem PN {f:D->Ak D}{xs:Aa D}(h:∀ x∈xs,f x=Ab x):mapO f xs=Ab xs:=by
 induction xs with
 |nil=>rfl
 |cons x xs ih=>simp[mapO,h x (Dj ..),ih λy hy=>h y (Cd _ hy)]
theorem U1 {xs:Aa D}(e:S[i]? = Ab (.lst xs))(h:∀ x∈xs,vP 19 S x=Ab x):vP bU S (.loc i)=Ab (.lst xs):=by
 show (match S[i]? with|some (.lst xs)=>(mapO (vP 19 S) xs).map D.lst|_=>none)=_
 rw[e];show (mapO (vP 19 S) xs).map D.lst=_;rw[PN h];rfl
theorem OB {Q:qF->Sto->Prop}{h:G3}{d:D}(k:Ok (f env S) λa S1=>Ok (g env S1) λb S2=>Ok (h a b d S2) λ_ S3=>Q env S3):Ok (gSb f g h d env S) Q:=qW (zI k λ_ _ k=>qW (zI k λ_ _ k=>qW (zI k λ_ _ q=>⟨_,_,rfl,q⟩)))
variable {Q:qF->Sto->Prop}
theorem O8 {d:D}(h:Q (env.set i (Ab d)) S):Ok (gNm i d env S) Q:=⟨_,_,rfl,h⟩
theorem A0 {xs:Aa D}(h:xs.length=n/\Ok (gs xs env S) Q):Ok (gTp n gs (.tup xs) env S) Q:=by
 obtain⟨d,S1,e,q⟩:=h.2;exact⟨d,S1,by show (if xs.length=n then gs xs env S else .bad)=_;rw[Bl h.1];exact e,q⟩
theorem IZ (h:Q env S):Ok (uC [] env S) Q:=⟨_,_,rfl,h⟩
theorem IX {t:DG}{x:D}{xs:Aa D}(h:Ok (t x env S) λenv1 S1=>Ok (gs xs env1 S1) Q):Ok (xJ t gs (x::xs) env S) Q:=qW h
def Wo (P:Out->Prop)(o:Out):Prop:=P o
def U4 (g:DS)(P:Out->Prop):Out->Prop
 |.nx env S=>P (g env S)
 |o=>P o
noncomputable def cD (b:Aq)(f g:DS):DS:=match b with
 |true=>f
 |false=>g
def CL (Q:D->Sto->Prop):Out->Prop
 |.rt d S=>Q d S
 |.nx _ S=>Q .non S
 |_=>Fh
def d7 {α:Type}(I:Aa α -> qF->Sto->Prop)(xs:Aa α)(P:Out->Prop):Out->Prop
 |.nx env S=>I xs env S
 |.ct env S=>I xs env S
 |.bk env S=>P (.nx env S)
 |o=>P o
variable {P:Out->Prop}{sf sg:DS}{fi:DI}{tg:DG}{d:D}
theorem HF (h:Wo (U4 sg P) (sf env S)):Wo P (qQ sf sg env S):=by
 unfold qQ;unfold Wo at h ⊢;cases e:sf env S <;> rw[e] at h <;> exact h
theorem OF (h:Wo P (sg env S)):Wo (U4 sg P) (.nx env S):=h
theorem OG (h:Wo P (.rt d S)):Wo (U4 sg P) (.rt d S):=h
theorem AY (h:Wo P (.nx env S)):Wo P (zG env S):=h
theorem gR {r:Res β}{k:β->Sto->Out}(h:Ok r λd S1=>Wo P (k d S1)):Wo P (r.toS env k):=by
 obtain⟨d,S1,rfl,h⟩:=h;exact h
theorem IM (h:Ok (f env S) λd S1=>Ok (tg d env S1) λenv' S2=>Wo P (.nx env' S2)):Wo P (zD f tg env S):=gR (zI h λ_ _=>gR)
theorem AX (h:Ok (f env S) λ_ S1=>Wo P (.nx env S1)):Wo P (xX f env S):=gR h
theorem IR (h:Ok (f env S) λd S1=>Wo P (.rt d S1)):Wo P (qX f env S):=gR h
theorem IQ (h:Ok (fa env S) λds S1=>∃ a b,ds=[a,b]/\Wo P (.nx ((env.set i (Ab a)).set j (Ab b)) S1)):Wo P (nF i j fa env S):=gR (zI h λ_ _ ⟨_,_,e,q⟩=>by subst e;exact q)
theorem OE (h:Ok (t env S) λb S1=>Wo P (cD b sf sg env S1)):Wo P (sIf t sf sg env S):=gR (zI h λb S1 q=>by cases b <;> exact q)
theorem w_t (h:Wo P (sf env S)):Wo P (cD true sf sg env S):=h
theorem w_f (h:Wo P (sg env S)):Wo P (cD false sf sg env S):=h
theorem IP {b:Aq}(h:Wo P (cD b sg sf env S)):Wo P (cD (!b) sf sg env S):=by cases b <;> exact h
theorem wB {p:Prop}[Jk p](h1:p->Wo P (sf env S))(h2:¬ p->Wo P (sg env S)):Wo P (cD (decide p) sf sg env S):=by
 by_cases h:p
 .rw[Dk h];exact h1 h
 .rw[Dd h];exact h2 h
theorem HE (h:Ok (fi env S) λds S1=>Wo P (uE tg sf ds env S1)):Wo P (vD fi tg sf env S):=gR h
theorem wX {α:Type}{enc:α->D}(I:Aa α -> qF->Sto->Prop)(turn:∀ x xs env S,I (x::xs) env S->Ok (tg (enc x) env S) λenv1 S1=>Wo (d7 I xs P) (sf env1 S1))(last:∀ env S,I [] env S->Wo P (.nx env S)) :
  ∀ {xs:Aa α} {env:qF} {S:Sto},I xs env S->Wo P (uE tg sf (xs.map enc) env S)
 |[],env,S,h=>last env S h
 |x::xs,env,S,h=>by
  obtain⟨env1,S1,e1,h1⟩:=turn x xs env S h;rw[Dv,uE];unfold Wo at h1 ⊢;simp only[e1,Res.toS];cases e2:sf env1 S1 with
  |nx env2 S2=>rw[e2] at h1;exact wX I turn last h1
  |ct env2 S2=>rw[e2] at h1;exact wX I turn last h1
  |bk env2 S2=>rw[e2] at h1;exact h1
  |rt d2 S2=>rw[e2] at h1;exact h1
  |ex c2 x2 env2 S2=>rw[e2] at h1;exact h1
  |bad=>rw[e2] at h1;exact h1
theorem nM (I:Aa D->qF->Sto->Prop)(turn:∀ x xs env S,I (x::xs) env S->Ok (tg x env S) λenv1 S1=>Wo (d7 I xs P) (sf env1 S1))(last:∀ env S,I [] env S->Wo P (.nx env S)){xs:Aa D}{env:qF}{S:Sto}(h:I xs env S):Wo P (uE tg sf xs env S):=by
 have:=wX (enc:=id) I turn last h
 rwa [Us] at this
theorem kL {x:D}(hs:vF n ds=env)(h:sf env S=.ex v x env' S'):qR n sf ds S=.ex v x S':=by
 subst hs;unfold qR;rw[h];rfl
theorem sJ {x:D}(h:f env S=.ex v x S'):qQ (xX f) sg env S=.ex v x env S':=by
 simp only[qQ,xX,h,Res.toS]
theorem TX {x:D}(h:f env S=.ex v x S'):qQ (zD f tg) sg env S=.ex v x env S':=by
 simp only[qQ,zD,h,Res.toS]
theorem LI {x:D}(h:f env S=.ok x S'):qQ (xX f) sg env S=sg env S':=by
 simp only[qQ,xX,h,Res.toS]
theorem UY {x:D}(h:t env S=.ok true S1)(k:sf env S1=.ex v x env' S'):sIf t sf sg env S=.ex v x env' S':=by
 simp only[sIf,h,Res.toS,Dw];exact k
theorem VY (v:Ac)(x:Ap)(env:qF)(S:Sto):yE v (qA (dC (.str x)) (qC)) env S=.ex v .non env S:=by
 unfold yE;rw[Q7 (show dC (.str x) env S=.ok (.str x) S from rfl)]
 show (if ([D.str x]:Aa D).length<=lim then Out.ex v D.non env S else Out.bad)=_
 exact Bl (Cc rfl)
theorem yB {α:Type}{I:Aa α -> qF->Sto->Prop}{xs:Aa α}(h:I xs env S):Wo (d7 I xs P) (.nx env S):=h
theorem eA {α:Type}{I:Aa α -> qF->Sto->Prop}{xs:Aa α}(h:Wo P (.rt d S)):Wo (d7 I xs P) (.rt d S):=h
theorem z0 {Q:D->Sto->Prop}(hs:vF n ds=env)(h:Wo (CL Q) (sf env S)):Ok (qR n sf ds S) Q:=by
 subst hs;unfold qR;unfold Wo at h;cases e:sf (vF n ds) S <;> rw[e] at h <;> first|exact⟨_,_,rfl,h⟩|exact An h
end
abbrev Pt:=Al × Al
variable {p:Pt}
noncomputable def ptD (p:Pt):D:=.tup [.int p.1,.int p.2]
noncomputable def j9 (l:Aa Pt):D:=.tup (l.map ptD)
noncomputable def kP (p:Pt):Aa Al:=[p.1,p.2]
theorem fY (ps:Aa Pt):ps.map ptD=(ps.map kP).map tpD:=by
 rw[Ht];rfl
noncomputable def ltP (p q:Pt):Aq:=_H.lexLt [p.1,p.2] [q.1,q.2]
abbrev Up (l:Aa Pt):Prop:=l.Pairwise λp q=>ltP p q=true
theorem sT {K:Type}(lt':K->K->Aq)(x:K):∀ l:Aa K,(_S.j6 lt' x l).length<=l.length+1
 |[]=>by simp[_S.j6]
 |y::l=>by
  have:=sT lt' x l;unfold _S.j6
  split
  .simp
  .split <;> simp <;> omega
theorem aQ {K:Type}(lt':K->K->Aq):∀ l:Aa K,(_S.srt lt' l).length<=l.length
 |[]=>by simp[_S.srt]
 |x::l=>by
  have h1:=sT lt' x (_S.srt lt' l);have h2:=aQ lt' l;rw[_S.srt,Bj];omega
theorem O9 {Q:D->Sto->Prop}{S:Sto}(h:Q (.int p.1) S):Ok (gIx (ptD p) (.int 0) S) Q:=⟨_,_,rfl,h⟩
theorem OA {Q:D->Sto->Prop}{S:Sto}(h:Q (.int p.2) S):Ok (gIx (ptD p) (.int 1) S) Q:=⟨_,_,rfl,h⟩
theorem IJ {Q:qF->Sto->Prop}{env:qF}{S:Sto}(h:Ok (gs [.int p.1,.int p.2] env S) Q):Ok (gTp 2 gs (ptD p) env S) Q:=A0 ⟨rfl,h⟩
theorem FC {S:Sto}{a:Ai}{xs:Aa D}(h:S[a]? = Ab (.lst xs)):nG (.loc a) S=Ab xs:=by
 show (match S[a]? with|some (.lst xs)=>Ab xs|_=>none)=_
 rw[h]
def InB (B:Al)(q:Pt):Prop:=-B<=q.1/\q.1<=B /\ -B<=q.2/\q.2<=B
instance (B:Al)(q:Pt):Jk (InB B q):=by unfold InB;exact inferInstance
structure Lot (M:Ai)(l:Aa Pt):Prop where
 ne:l≠[]
 len:l.length<=M
 up:Up l
 box:∀ q∈l,InB 1000 q
def uA (S:Sto)(p:Ai):Prop:=∃ v f:Al,S[p]? = Ab (.lst [.int v,.int f])
theorem tX {S:Sto}{p:Ai}(h:uA S p)(e:S<+:S'):uA S' p:=by
 obtain⟨v0,f0,hp⟩:=h;obtain⟨r,rfl⟩:=e;exact⟨v0,f0,by rw[Bi (Bo.mp hp).1];exact hp⟩
structure Kp (p:Ai)(S S':Sto):Prop where
 pen:uA S' p
 len:S.length<=S'.length
 same:∀ m,m<S.length->m≠p->S'[m]? = S[m]?
theorem Kp.trans {p:Ai}{S:Sto}(a:Kp p S S1)(b:Kp p S1 S2):Kp p S S2:=⟨b.pen,DL a.len b.len,λm hm hp=>(b.same m (Bb hm a.len) hp).trans (a.same m hm hp)⟩
theorem Kp.set {p j:Ai}{S:Sto}(h:Kp p S S')(hj:S.length<=j)(m:MO)(hp:p≠j):Kp p S (S'.set j m):=by
 obtain⟨v,f,e⟩:=h.pen;exact⟨⟨v,f,by rw[Ch (Gb hp)];exact e⟩,by rw[Zj];exact h.len,λi hi hn=>by rw[Ch om];exact h.same i hi hn⟩
end _D
local macro_rules|`(tactic|array_get_dec)=>`(tactic| first | (with_reducible first | apply _D.HF | apply _D.OF | apply _D.IM | apply _D.o_2 | apply _D.o_c | apply _D.v8 | apply _D.mB | apply _D.AZ | apply _D.II | apply _D.IK | apply _D.E1 | apply _D.r0 | apply _D.IU | apply _D.IF | apply _D.L5 | apply _D.ZU | apply _D.OE | apply _D.w_t | apply _D.w_f | apply _D.IP | apply _D.AY | apply _D.AX | apply _D.IR | apply _D.OG | apply _D.IQ | apply _D.HE | apply _D.O6 | apply _D.O1 | apply _D.O0 | apply _D.IY | apply _D.NY | apply _D.O7 | apply _D.o_1 | apply _D.IE | apply _D.ZT | apply _D.AS | apply _D.AW | apply _D.AV | apply _D.AU | apply _D.OC | apply _D.IH | apply _D.IG | apply _D.IV | apply _D.IW | apply _D.IT | apply _D.IA | apply _D.A0 | apply _D.IX | apply _D.IZ | apply _D.IL | apply _D.AQ | apply _D.O9 | apply _D.OA | apply _D.IJ | apply _D.OB | apply _D.AR | apply _D.B3 ) | ((with_reducible apply _D.o_v); exact rfl) | ((with_reducible apply _D.O8); dsimp only [List.set_cons_succ, List.set_cons_zero]) | ((with_reducible (first | apply _D.ID | apply _D.IC | apply _D.IB)); omega) | ((with_reducible apply And.intro); (first | exact rfl | exact Nat.le_of_ble_eq_true rfl)) | ((with_reducible apply Exists.intro); (with_reducible apply And.intro); exact rfl) | ((with_reducible apply Exists.intro); (with_reducible apply Exists.intro); (with_reducible apply And.intro); exact rfl; dsimp only [List.set_cons_succ, List.set_cons_zero]) | ((with_reducible apply Exists.intro); (with_reducible apply Exists.intro); (with_reducible apply Exists.intro); (with_reducible apply And.intro); exact rfl; dsimp only [List.set_cons_succ, List.set_cons_zero]))
local macro_rules|`(tactic|rfl')=>`(tactic| repeat array_get_dec)
namespace _D
open PySem
variable {kvs:Aa (_L.Key × D)}{ks:Aa Al}{xs:Aa D}{n:Ai}{i:D}{Q:D->Sto->Prop}{S:Sto}
def Pn (d:D):Prop:=∃ p,pyD d=Ab p
theorem pns:∀ {ps:Aa PyData},fB xs=Ab ps->∀ x∈xs,Pn x:=by
 induction xs with
 |nil=>intro ps _ x hx;cases hx
 |cons d ds ih =>
  intro ps h x hx;simp only[fB] at h;obtain⟨p,h1,h2⟩:=Ei.mp h;obtain⟨ps',h3,_⟩:=Do.mp h2;rcases Aw.mp hx with rfl|hx
  .exact⟨p,h1⟩
  .exact ih h3 x hx
theorem rE (h:Pn (.tup xs)):∀ x∈xs,Pn x:=by
 obtain⟨p,h⟩:=h;simp only[pyD] at h;obtain⟨ps,h1,_⟩:=Do.mp h;exact pns h1
theorem rF:∀ {xs:Aa D},(∀ x∈xs,Pn x)->∃ l,fB xs=Ab l
 |[],_=>⟨[],rfl⟩
 |x::xs,h=>by
  obtain⟨l,e⟩:=rF (xs:=xs) λy hy=>h y (Cd _ hy);obtain⟨q,e'⟩:=h x (Dj ..);refine⟨q::l,?_⟩;show (pyD x).bind (λx=>(fB xs).map (x::·))=_
  rw[e,e'];rfl
theorem tZ (h:∀ x∈xs,Pn x):Pn (.tup xs):=by
 obtain⟨l,e⟩:=rF h;exact⟨.tuple l,by simp only[pyD,e,OY]⟩
theorem A6 (h:∀ x∈xs,Pn x):Pn (.lst xs):=by
 obtain⟨l,e⟩:=rF h;exact⟨.list l,by simp only[pyD,e,OY]⟩
theorem EJ (q:Pt):Pn (ptD q):=⟨.tuple [.int q.1,.int q.2],rfl⟩
theorem D2 (l:Aa Pt):Pn (j9 l):=tZ λx hx=>by
 obtain⟨q,_,rfl⟩:=Dc.mp hx;exact EJ q
noncomputable def inR (a b:Al):D->Aq
 |.int i=>decide (a<=i/\i<=b)
 |_=>false
noncomputable def isW:D->Aq
 |.int _=>true
 |_=>false
noncomputable def isT:D->Aq
 |.tup _=>true
 |_=>false
theorem iS {d:D}(h:Pn d)(S:Sto):zY [d,.ty "tuple"] S=.ok (.bl (isT d)) S:=by
 obtain⟨p,h⟩:=h;cases d <;> first|kernel_rfl!|simp[pyD] at h
theorem tU {fa fb fc:DE}{env:qF}{a b c:Al}(h1:fa env S=.ok (.int a) S)(h2:fb env S=.ok (.int b) S)(h3:fc env S=.ok (.int c) S)(q:Q (.bl (decide (a<=b/\b<=c))) S):Ok (wC gLe gLe fa fb fc env S) Q:=by
 refine⟨_,_,?_,q⟩;unfold wC;rw[h1,Res.bind_ok,h2,Res.bind_ok];show (match xO (.bl (decide (a<=b))) S with|some true=>(fc env S).bind λw S4=>gLe (.int b) w S4|some false=>Res.ok (.bl (decide (a<=b))) S|none=>.bad)=_
 by_cases h:a<=b
 .rw[Dk h]
  show (fc env S).bind _=_;rw[h3];simp only[h,true_and];rfl
 .rw[Dd h,Dd λz=>h z.1]
  rfl
noncomputable abbrev isI:D->Aq:=inR (-1000) 1000
noncomputable def yD:D->Aq
 |.tup [a,b]=>isI a&&isI b
 |_=>false
theorem GV (q:Pt):yD (ptD q)=decide (InB 1000 q):=by
 show (decide (-1000<=q.1/\q.1<=1000)&&decide (-1000<=q.2/\q.2<=1000))=_;rw[<- Bool.decide_and];exact Sj.mpr ⟨λh=>⟨h.1.1,h.1.2,h.2.1,h.2.2⟩,λh=>⟨⟨h.1,h.2.1⟩,h.2.2.1,h.2.2.2⟩⟩
theorem N7 (h:xs.length=2):yD (.tup xs)=xs.all isI:=by
 match xs,h with
 |[a,b],_=>simp[yD]
theorem N8 (h:xs.length≠2):yD (.tup xs)=false:=by
 match xs,h with
 |[],_=>rfl
 |[_],_=>rfl
 |[_,_],h=>exact absurd rfl h
 |_::_::_::_,_=>rfl
theorem N9 {d:D}(h:isT d=false):yD d=false:=by
 cases d <;> first|rfl|cases h
noncomputable def upB (ks:Aa (Aa Al)):Aq:=(ks.zip (ks.drop 1)).all λp=>_H.lexLt p.1 p.2
noncomputable def d3:D->Aq
 |.tup xs=>decide (1<=xs.length/\xs.length<=40)&&xs.all yD&&(match wN xs with|some ks=>upB ks|none=>false)
 |_=>false
theorem cB {a b:Al}{d:D}(h:inR a b d=true):∃ i,d=.int i/\a<=i/\i<=b:=by
 cases d <;> first|exact⟨_,rfl,Cw h⟩|cases h
theorem YO {d:D}(h:yD d=true):∃ q,d=ptD q/\InB 1000 q:=by
 unfold yD at h
 split at h
 .rw[Az] at h
  obtain⟨x,rfl,hx⟩:=cB h.1;obtain⟨y,rfl,hy⟩:=cB h.2;exact⟨(x,y),rfl,hx.1,hx.2,hy.1,hy.2⟩
 .cases h
theorem X2:∀ {xs:Aa D},xs.all yD=true->∃ qs:Aa Pt,xs=qs.map ptD/\∀ q∈qs,InB 1000 q
 |[],_=>⟨[],rfl,λ_ h=>by cases h⟩
 |d::ds,h=>by
  rw[Mc,Az] at h;obtain⟨qs,rfl,hq⟩:=X2 h.2;obtain⟨q,rfl,hb⟩:=YO h.1;refine⟨q::qs,rfl,λz hz=>?_⟩;rcases Aw.mp hz with rfl|hz
  .exact hb
  .exact hq z hz
theorem JA (a b:Aa Al)(S:Sto):bX (tpD a) (tpD b) S=.ok (.bl (_H.lexLt a b)) S:=by
 unfold bX tpD;simp only[xS]
theorem W1:∀ (ks:Aa (Aa Al)),upB ks=true↔ks.Pairwise (λa b=>_H.lexLt a b=true)
 |[]=>by simp[upB]
 |[a]=>by simp[upB]
 |a::b::r=>by
  have ih:=W1 (b::r);have e:upB (a::b::r)=(_H.lexLt a b&&upB (b::r)):=by simp[upB]
  rw[e,Az,ih,Cz (a:=a)];constructor
  .rintro⟨h1,h2⟩
   refine⟨λx hx=>?_,h2⟩;rcases Aw.mp hx with rfl|hx
   .exact h1
   .exact _S.gL.tr h1 ((Cz.mp h2).1 x hx)
  .rintro⟨h1,h2⟩
   exact⟨h1 b (by simp),h2⟩
theorem R0 (ks ms:Aa (Aa Al)):wY (ks.map tpD) (ms.map tpD)=(ks.zip ms).map λp=>D.tup [tpD p.1,tpD p.2]:=by
 unfold wY
 induction ks generalizing ms with
 |nil=>rfl
 |cons k ks ih =>
  cases ms with
  |nil=>rfl
  |cons m ms=>exact congrArg (_::·) (ih ms)
theorem GT {d:D}(h:isT d=false):d3 d=false:=by
 cases d <;> first|rfl|cases h
theorem YM {M:Ai}(hM:M<=40){l:Aa Pt}(h:Lot M l):d3 (j9 l)=true:=by
 show (decide (1<=(l.map ptD).length/\(l.map ptD).length<=40)&&(l.map ptD).all yD&&(match wN (l.map ptD) with|some ks=>upB ks|none=>false))=true
 have h1:1<=(l.map ptD).length/\(l.map ptD).length<=40:=by
  rw[Av];exact⟨Kg.mpr h.ne,by have:=h.len;lia⟩
 have h2:(l.map ptD).all yD=true:=by
  rw[Ni];exact Cn.mpr λq hq=>(GV q).trans (Dk (h.box q hq))
 have h3:upB (l.map kP)=true:=by
  rw[W1,Ge];exact h.up
 rw[Dk h1,h2,fY,pL];exact h3
theorem iH (xs:Aa D):zX xs (Ab 1) none=xs.drop 1:=by
 unfold zX;have h1:_H.sIx xs.length 0 (Ab 1)=min 1 xs.length:=rfl;have h2:_H.sIx xs.length xs.length none=xs.length:=rfl;rw[h1,h2];cases xs with
 |nil=>rfl
 |cons x r=>simp
theorem KB (xs:Aa D)(x:D):zX (xs++[x]) (Ab (-1)) none=[x]:=by
 unfold zX;have h1:_H.sIx (xs++[x]).length (xs++[x]).length none=(xs++[x]).length:=rfl;have h2:_H.sIx (xs++[x]).length 0 (Ab (-1))=xs.length:=by
  show (if (-1:Al)<0 then ((-1:Al)+((xs++[x]).length:Al)).toNat else min (-1:Al).toNat (xs++[x]).length)=_
  rw[Bl li,Cj];simp only[Bj,Ec]
  lia
 rw[h1,h2];simp
theorem MI (xs:Aa D)(n:Ai)(h:n<=xs.length):zX xs (Ab (n:Al)) none=xs.drop n:=by
 unfold zX;have h1:_H.sIx xs.length xs.length none=xs.length:=rfl;have h2:_H.sIx xs.length 0 (Ab (n:Al))=min n xs.length:=by
  show (if (n:Al)<0 then ((n:Al)+(xs.length:Al)).toNat else min (n:Al).toNat xs.length)=_
  rw[Bm li,Ez]
 rw[h1,h2,Pb h];exact Gm (by rw[Hw];exact Au _)
theorem MJ (xs:Aa D)(n:Ai)(h:n<=xs.length):zX xs none (Ab (n:Al))=xs.take n:=by
 unfold zX;have h1:_H.sIx xs.length 0 none=0:=rfl;have h2:_H.sIx xs.length xs.length (Ab (n:Al))=min n xs.length:=by
  show (if (n:Al)<0 then ((n:Al)+(xs.length:Al)).toNat else min (n:Al).toNat xs.length)=_
  rw[Bm li,Ez]
 rw[h1,h2,Pb h];rfl
theorem L3 {a:Aa D}{k:Ai}(l:a.length*k<=lim/\k<1000)(h:Q (.lst (Dg k a).flatten) S):Ok (pT (.lst a) (.int (k:Al)) S) Q:=by
 refine⟨_,_,?_,h⟩;unfold pT;have c:0<=(k:Al)/\(k:Al)<2 ^ 62/\a.length*(k:Al).toNat<=lim:=⟨by lia,by lia,by rw[Ez];exact l.1⟩
 refine(Bl c).trans ?_;rw[Ez]
theorem WM (xs:Aa D)(i:Ai):zX xs (Ab ((i:Al)+1)) none=xs.drop (i+1):=by
 unfold zX;have e1:_H.sIx xs.length 0 (Ab ((i:Al)+1))=min (i+1) xs.length:=by
  have:((i:Al)+1)=((i+1:Ai):Al):=by lia
  rw[this,_H.sIx_nat]
 rw[e1,_H.sIx_none];by_cases h:i+1<=xs.length
 .rw[Pb h,Gm (by simp)]
 .have:xs.drop (i+1)=[]:=Nz li
  rw[this,Zf li];simp
noncomputable def eL:Ai->Aa D->Aa D
 |_,[]=>[]
 |k,x::xs=>D.tup [.int (k:Al),x]::eL (k+1) xs
theorem Y6 (xs:Aa D):yF xs=eL 0 xs:=by
 have key:∀ (xs:Aa D) (k:Ai),(xs.mapIdx λi x=>D.tup [.int ((i+k:Ai):Al),x])=eL k xs:=by
  intro xs
  induction xs with
  |nil=>intro k;rfl
  |cons x xs ih =>
   intro k;rw[List.mapIdx_cons];show _::_=D.tup [.int (k:Al),x]::eL (k+1) xs
   congr 1
   .simp
   .rw[<- ih (k+1)]
    congr 1
    funext i y
    congr 4
    lia
 have:=key xs 0;simpa [yF] using this
noncomputable def far (p q:Pt):Al:=(p.1-q.1)*(p.1-q.1)+(p.2-q.2)*(p.2-q.2)
noncomputable def xF:Aa Pt->Aa (Pt × Pt)
 |[]=>[]
 |p::ps=>ps.map (λq=>(p,q))++xF ps
noncomputable def zH (x:Pt × Pt):Al:=far x.1 x.2
noncomputable def prD (x:Pt × Pt):D:=.tup [ptD x.1,ptD x.2]
structure GI {β : Type}(key:β->Al)(enc:β->D)(n:Ai)(prs:Aa β)(kvs:Aa (_L.Key × D))(S:Sto):Prop where
 dict:S[n]? = Ab (.dct kvs)
 lists:∀ kv∈kvs,∃ (f:Al) (j:Ai),kv=(.inl f,.loc j)/\n<j/\S[j]? = Ab (.lst ((prs.filter λx=>key x == f).map enc))
 nd:(kvs.map (·.2)).Nodup
 keys:kvs.map (·.1)=((prs.map key).foldl Bc []).map Jl
set_option tactic.hygienic true in
theorem U9 {l:Aa Al}{k x:Al}:x∈Bc l k↔x∈l\/x=k:=by
 unfold Bc
 split
 .rename_i h
  simp at h;constructor
  .exact λz=>.inl z
  .rintro (z|rfl)
   .exact z
   .exact h
 .simp
theorem bB {l:Aa Al}{k:Al}(h:k∈l):Bc l k=l:=by
 unfold Bc;rw[Bl (by simpa using h)]
theorem gP {l:Aa Al}{k:Al}(h:k ∉ l):Bc l k=l++[k]:=by
 unfold Bc;rw[Bm (by simpa using h)]
theorem bW:∀ {l:Aa Al} {x:Al},x∈ks.foldl Bc l↔x∈l\/x∈ks:=by
 induction ks with
 |nil=>intro l x;simp
 |cons k ks ih =>
  intro l x;rw[Kq,ih,U9,Aw];constructor
  .rintro ((h|h)|h)
   .exact .inl h
   .exact .inr (.inl h)
   .exact .inr (.inr h)
  .rintro (h|h|h)
   .exact .inl (.inl h)
   .exact .inl (.inr h)
   .exact .inr h
theorem YE:∀ {l:Aa Al},(ks.foldl Bc l).length<=l.length+ks.length:=by
 induction ks with
 |nil=>intro l;simp
 |cons k ks ih =>
  intro l;rw[Kq];have h1:=ih (l:=Bc l k);have h2:(Bc l k).length<=l.length+1:=by
   unfold Bc
   split <;> simp
  rw[Bj]
  lia
theorem UD {k:_L.Key}{d:D}(h:wA kvs k=Ab d):(k,d)∈kvs:=by
 unfold wA at h;obtain⟨kv,h1,rfl⟩:=Do.mp h;have h2:=List.find?_some h1;have h3:=List.mem_of_find?_eq_some h1;have h4:kv.1=k:=by simpa using h2
 subst h4;exact h3
theorem UC {k:_L.Key}(h:wA kvs k=none):∀ kv∈kvs,kv.1≠k:=by
 unfold wA at h;have h1:=Option.map_eq_none_iff.mp h;intro kv hk e;have:=Na.mp h1 kv hk;simp[e] at this
theorem JR {x:D}{k:_L.Key}(hd:S[n]? = Ab (.dct kvs))(hk:yY i=Ab k):wK (.loc n) [i,x] S=(match wA kvs k with|some d=>.ok d S|none=>if kvs.length<lim then .ok x (S.set n (.dct (yM kvs k x))) else .bad):=by
 show (match S[n]? with|some (.dct kvs)=>(match yY i with|some k=>(match wA kvs k with|some d=>Res.ok d S|none=>if kvs.length<lim then .ok x (S.set n (.dct (yM kvs k x))) else .bad)|none=>.bad)|_=>.bad)=_
 rw[hd,hk]
theorem FA {x d:D}{k:_L.Key}(hd:S[n]? = Ab (.dct kvs))(hk:yY i=Ab k)(hv:wA kvs k=Ab d):wK (.loc n) [i,x] S=.ok d S:=by
 rw[JR hd hk,hv]
theorem F9 {x:D}{k:_L.Key}(hd:S[n]? = Ab (.dct kvs))(hk:yY i=Ab k)(hv:wA kvs k=none)(hl:kvs.length<lim):wK (.loc n) [i,x] S=.ok x (S.set n (.dct (yM kvs k x))):=by
 rw[JR hd hk,hv];exact Bl hl
theorem ZN {β γ:Type}{l:Aa β}{f:β->γ}(nd:(l.map f).Nodup){x y:β}(hx:x∈l)(hy:y∈l)(e:f x=f y):x=y:=by
 obtain⟨a,ha,rfl⟩:=Cu.mp hx;obtain⟨b,hb,rfl⟩:=Cu.mp hy;have:a=b:=(Of nd (h₀:=by simpa using ha) (h₁:=by simpa using hb)).mp (by simpa using e)
 subst this;rfl
set_option tactic.hygienic true in
theorem GM:∀ (ks l:Aa Al),l.Nodup->(ks.foldl Bc l).Nodup:=by
 intro ks
 induction ks with
 |nil=>exact λl h=>h
 |cons k ks ih =>
  intro l h;rw[Kq];apply ih;unfold Bc
  split
  .exact h
  .rename_i hn
   rw[Jr];refine⟨h,by simp,?_⟩
   intro a ha b hb hab;simp at hb hn;subst hb;subst hab;exact hn ha
theorem GZ (h:kvs.map (·.1)=(ks.foldl Bc []).map Jl):(kvs.map (·.1)).Nodup:=by
 rw[h,f8,Ge];exact(GM ks [] Uz).imp λhne e=>hne (Ua e)
theorem M7 {j:Ai}(h:S[j]? = Ab (.lst xs))(hl:xs.length<lim)(d:D):wJ (.loc j) [d] S=.ok .non (S.set j (.lst (xs++[d]))):=zE (JF h hl ⟨rfl,rfl⟩)
theorem GO {β:Type}{key:β->Al}{enc:β->D}{prs:Aa β}(I:GI key enc n prs kvs S)(x:β)(hl:prs.length<lim) :
  ∃ (j:Ai) (S1 S2:Sto) (kvs':Aa (_L.Key × D)),wK (.loc n) [.int (key x),.loc S.length] (S++[.lst []]) = .ok (.loc j) S1/\tyD (.loc j) S1=Ab "list" /\ wJ (.loc j) [enc x] S1=.ok .non S2/\GI key enc n (prs++[x]) kvs' S2/\∀ m,m<n->S2[m]? = S[m]?:=by
 have hnS:n<S.length:=(Bo.mp I.dict).1;have hd:(S++[MO.lst []])[n]? = Ab (.dct kvs):=by rw[Bi hnS];exact I.dict
 have hkl:kvs.length<=prs.length:=by
  have h1:kvs.length=(kvs.map (·.1)).length:=by simp
  rw[h1,I.keys,Av];have:=YE (ks:=prs.map key) (l:=[]);simpa using this
 have hlim:kvs.length<lim:=by lia
 have jlt:∀ {f:Al} {j:Ai},((Jl f:_L.Key),D.loc j)∈kvs->n<j/\j<S.length/\S[j]? = Ab (.lst ((prs.filter λx=>key x == f).map enc)):=by
  intro f j hm;obtain⟨f',j',e,h1,h2⟩:=I.lists _ hm;cases e;exact⟨h1,(Bo.mp h2).1,h2⟩
 cases hv:wA kvs (.inl (key x)) with
 |some d =>
  have hm:=UD hv;obtain⟨f,j,e,h1,h2⟩:=I.lists _ hm;have e1:f=key x:=by
   have:=congrArg Prod.fst e;exact(Ua this).symm
  have e2:d=.loc j:=congrArg Prod.snd e;subst e1;subst e2;have hjS:=(Bo.mp h2).1;have h2':(S++[MO.lst []])[j]? = Ab (.lst ((prs.filter λy=>key y == key x).map enc)):=by rw[Bi hjS];exact h2
  have hll:((prs.filter λy=>key y == key x).map enc).length<lim:=by
   rw[Av];have:=Jh (λy=>key y == key x) prs
   lia
  refine⟨j,S++[MO.lst []],(S++[MO.lst []]).set j (.lst ((prs.filter λy=>key y == key x).map enc++[enc x])),kvs,?_,?_,?_,⟨?_,?_,I.nd,?_⟩,?_⟩
  .exact FA hd rfl hv
  .exact oN h2'
  .exact M7 h2' hll _
  .rw[Ch li];exact hd
  .intro kv hk
   obtain⟨f',j',rfl,h3,h4⟩:=I.lists kv hk;refine⟨f',j',rfl,h3,?_⟩;have hj':=(Bo.mp h4).1;by_cases hjj:j=j'
   .subst hjj
    have hff:f'=key x:=Ua (congrArg Prod.fst (ZN (f:=(·.2)) I.nd hk hm rfl))
    subst hff;rw[Ed (by simp;lia)]
    rw[Ie];simp
   .rw[Ch hjj,Bi hj',h4]
    have hne:(key x == f')=false:=by
     rw[Iq];rintro rfl;exact hjj (D.loc.inj (congrArg Prod.snd (ZN (f:=(·.1)) (GZ I.keys) hm hk rfl)))
    rw[Ie];simp[hne]
  .rw[En,Yh]
   show _=(Bc ((prs.map key).foldl Bc []) (key x)).map Jl;have hin:key x∈(prs.map key).foldl Bc []:=by
    have:(Jl (key x):_L.Key)∈kvs.map (·.1):=Dc.mpr ⟨_,hm,rfl⟩
    rw[I.keys] at this;obtain⟨y,hy,e⟩:=Dc.mp this;cases e;exact hy
   rw[bB hin];exact I.keys
  .intro m hm
   rw[Ch li,Bi li]
 |none =>
  have hno:=UC hv;have hput:yM kvs (.inl (key x)) (.loc S.length)=kvs++[(.inl (key x),.loc S.length)]:=by
   unfold yM;rw[Bm];rw[List.any_eq_true];rintro⟨kv,hk,e⟩;exact hno kv hk (by simpa using e)
  have hfn:key x ∉ prs.map key:=by
   intro hin;have:(Jl (key x):_L.Key)∈kvs.map (·.1):=by
    rw[I.keys];exact Dc.mpr ⟨_,bW.mpr (.inr hin),rfl⟩
   obtain⟨kv,hk,e⟩:=Dc.mp this;exact hno kv hk e
  have hS1:((S++[MO.lst []]).set n (.dct (kvs++[(Jl (key x),.loc S.length)])))[S.length]? = Ab (.lst []):=by
   rw[Ch li];simp
  refine⟨S.length,(S++[MO.lst []]).set n (.dct (kvs++[(.inl (key x),.loc S.length)])),((S++[MO.lst []]).set n (.dct (kvs++[(.inl (key x),.loc S.length)]))).set S.length (.lst [enc x]),kvs++[(.inl (key x),.loc S.length)],?_,?_,?_,⟨?_,?_,?_,?_⟩,?_⟩
  .rw[<- hput]
   exact F9 hd rfl hv hlim
  .exact oN hS1
  .have:(0:Ai)<lim:=by decide
   exact M7 hS1 this _
  .rw[Ch li,Ed (by simp;lia)]
  .intro kv hk
   rcases Cq.mp hk with hk|hk
   .obtain⟨f',j',rfl,h3,h4⟩:=I.lists kv hk
    have hj':=(Bo.mp h4).1;refine⟨f',j',rfl,h3,?_⟩;rw[Ch li,Ch li,Bi hj',h4];have hne:(key x == f')=false:=by
     rw[Iq];intro e;exact hno _ hk (by rw[e])
    rw[Ie];simp[hne]
   .have:kv=(.inl (key x),.loc S.length):=by simpa using hk
    subst this;refine⟨key x,S.length,rfl,hnS,?_⟩;rw[Ed (by simp)]
    have:(prs.filter λy=>key y == key x)=[]:=by
     rw[Oc];intro y hy e;exact hfn (by rw[<- (by simpa using e:key y=key x)];exact Dc.mpr ⟨y,hy,rfl⟩)
    rw[Ie,this];simp
  .rw[En,Jr]
   refine⟨I.nd,by simp,?_⟩
   intro a ha b hb hab;simp at hb;subst hb;subst hab;obtain⟨kv,hk,e⟩:=Dc.mp ha;obtain⟨f',j',rfl,h3,h4⟩:=I.lists kv hk;have hj':=(Bo.mp h4).1;have:j'=S.length:=D.loc.inj e
   lia
  .rw[En,I.keys,En,Yh]
   show _=(Bc ((prs.map key).foldl Bc []) (key x)).map Jl;have hin:key x ∉ (prs.map key).foldl Bc []:=by
    intro h;rcases bW.mp h with h|h
    .simp at h
    .exact hfn h
   rw[gP hin,En];rfl
  .intro m hm
   rw[Ch li,Ch li,Bi li]
theorem WB (l:Aa Pt):(xF l).length<=l.length*l.length:=by
 induction l with
 |nil=>simp[xF]
 |cons p l ih =>
  have e:(p::l).length*(p::l).length=l.length*l.length+l.length+l.length+1:=by
   simp only[Bj,Nat.add_mul,Nat.mul_add]
   lia
  rw[e];simp only[xF,Cj,Av]
  lia
theorem D3 {S':Sto}(h:∀ m,m<S.length->S'[m]? = S[m]?):S<+:S':=by
 rw[List.prefix_iff_getElem?];intro i hi;rw[h i hi,Ar hi]
theorem RX {l:Aa Pt}(h:l.length<=41):(xF l).length<4000:=by
 have h1:=WB l;have h2:l.length*l.length<=41*41:=wP h h
 lia
theorem FE (ks:Aa (Aa Al))(hl:ks.length<=100000)(he:∀ k∈ks,k≠[]):gO (ks.map tpD)=Ab ((_S.jH _H.lexLt ks).map tpD):=by
 unfold gO;cases ks with
 |nil =>
  have e1:_S.jH _S.ltI [] = []:=Wz;have e2:_S.jH _H.lexLt [] = []:=Wz;show (if ([] : Aa Al).length<=100000 then Ab ((_S.jH _S.ltI []).map D.int) else none)=_
  rw[e1,e2,Bl (by simp)]
  rfl
 |cons k r =>
  have h0:zU ((k::r).map tpD)=none:=rfl;rw[h0,pL];have h2:((k::r).all λk=>!k.isEmpty)=true:=Cn.mpr λq hq=>by
   have:=he q hq;cases q with
   |nil=>exact absurd rfl this
   |cons _ _=>rfl
  have h3:(decide ((k::r).length<=100000)&&(k::r).all λk=>!k.isEmpty)=true:=by rw[h2,Dk hl];rfl
  show (if (decide ((k::r).length<=100000)&&(k::r).all λk=>!k.isEmpty)=true then _ else _)=_
  rw[Bl h3]
end _D
namespace _K
open PySem PySem.Spec PyProof.Rows _L _D
noncomputable def top (i:Ai):Fj:=OJ.main.body.getD i (.Pass ⟨0,0,0,0⟩)
structure Cl where
 (FarError NoPoint NoLot NoNumber NoCircle NoMarks NoFars NoText NoLine NoDeed Alike TooMany:Af)
noncomputable def xG (c:Cl):Aa Af:=[c.NoPoint,c.NoLot,c.NoNumber,c.NoCircle,c.NoMarks,c.NoFars,c.NoText,c.NoLine,c.NoDeed,c.Alike,c.TooMany]
noncomputable def uR (c:Cl):Aa Ac:=[.ref c.NoPoint,.ref c.NoLot,.ref c.NoNumber,.ref c.NoCircle,.ref c.NoMarks,.ref c.NoFars,.ref c.NoText,.ref c.NoLine,.ref c.NoDeed]
noncomputable abbrev clt (c:Cl):Aa (Ap × Af):=[("FarError",c.FarError),("NoPoint",c.NoPoint),("NoLot",c.NoLot),("NoNumber",c.NoNumber),("NoCircle",c.NoCircle),("NoMarks",c.NoMarks),("NoFars",c.NoFars),("NoText",c.NoText),("NoLine",c.NoLine),("NoDeed",c.NoDeed),("Alike",c.Alike),("TooMany",c.TooMany)]
noncomputable abbrev plt (c:Cl):Aa (Ap × Af):=[("NoPoint",c.NoPoint),("NoLot",c.NoLot),("NoNumber",c.NoNumber),("NoCircle",c.NoCircle),("NoMarks",c.NoMarks),("NoFars",c.NoFars),("NoText",c.NoText),("NoLine",c.NoLine),("NoDeed",c.NoDeed)]
noncomputable abbrev cst:Aa (Ap × Al):=[("LEAST_NUMBER",-1000),("MOST_NUMBER",1000),("MOST_POINTS",40),("MOST_MARKS",20),("MOST_MARK",1000)]
noncomputable abbrev bl:Aa Ap:=["ValueError","all","bool","enumerate","int","isinstance","len","list","max","range","set","sorted","str","tuple","zip"]
noncomputable abbrev tab:Aa (Ap × Ai × Aa Ap):=[(("is_whole" : Ap),(14:Ai),[("thing" : Ap)]),(("is_within" : Ap),(15:Ai),[("thing" : Ap),("least" : Ap),("most" : Ap)]),(("is_rising" : Ap),(16:Ai),[("some" : Ap)]),(("need_within" : Ap),(17:Ai),[("thing" : Ap),("least" : Ap),("most" : Ap)]),(("is_point" : Ap),(22:Ai),[("thing" : Ap)]),(("is_lot" : Ap),(23:Ai),[("thing" : Ap)]),(("need_lot" : Ap),(24:Ai),[("thing" : Ap)]),(("far_between" : Ap),(25:Ai),[("one" : Ap),("other" : Ap)]),(("pairs_by_far" : Ap),(26:Ai),[("points" : Ap)]),(("first_like" : Ap),(28:Ai),[("lot" : Ap)]),(("are_marks" : Ap),(32:Ai),[("thing" : Ap)]),(("need_marks" : Ap),(33:Ai),[("thing" : Ap)]),(("are_all_unlike" : Ap),(34:Ai),[("numbers" : Ap)]),(("first_twice" : Ap),(35:Ai),[("marks" : Ap)]),(("unlike_by" : Ap),(36:Ai),[("marks" : Ap),("m" : Ap)]),(("as_lot" : Ap),(37:Ai),[("marks" : Ap)]),(("_law_kinds" : Ap),(39:Ai),[("_law_e" : Ap)]),(("_law_refused" : Ap),(40:Ai),[("_law_call" : Ap)]),(("_law_same" : Ap),(41:Ai),[("_law_found" : Ap),("_law_due" : Ap)]),(("_law_cell" : Ap),(42:Ai),[("_law_script" : Ap),("_law_k" : Ap)]),(("_law_pen" : Ap),(43:Ai),[("_law_cell_here" : Ap)]),(("_law_draw" : Ap),(44:Ai),[("_law_pen_here" : Ap),("_law_many" : Ap)]),(("_law_no_number" : Ap),(45:Ai),[("_law_pen_here" : Ap),("_law_low" : Ap),("_law_high" : Ap)]),(("_law_combos" : Ap),(46:Ai),[("_law_some" : Ap),("_law_n" : Ap)]),(("_law_marks" : Ap),(47:Ai),[("_law_pen_here" : Ap),("_law_most" : Ap)]),(("_law_no_marks" : Ap),(48:Ai),[("_law_pen_here" : Ap),("_law_marks_here" : Ap)]),(("_law_twice" : Ap),(49:Ai),[("_law_marks_here" : Ap)]),(("_law_unlike_by" : Ap),(50:Ai),[("_law_marks_here" : Ap),("_law_m" : Ap)]),(("law" : Ap),(51:Ai),[("_law_script" : Ap)])]
abbrev Txt (K:Aj)(mg:Ap->Ak Ac)(c:Cl):Prop:=TxS K mg top tab bl (clt c) (plt c) (uR c) (xG c) cst
noncomputable abbrev NL:Aa Ap:=["law"]
@[reducible] def b_is_whole:DS:=qX (uS (qN zY (qA (qB 0) (qA (dC (.ty "int")) (qC)))) (WQ (qN zY (qA (qB 0) (qA (dC (.ty "bool")) (qC))))))
@[irreducible] def S_is_whole:DF:=sh (qR 1 b_is_whole)
theorem gU:S_is_whole=qR 1 b_is_whole:=by delta S_is_whole;exact zO _
@[reducible] def b_is_within:DS:=qX (uS (qO 1 S_is_whole (qA (qB 0) (qC))) (wC gLe gLe (qB 1) (qB 0) (qB 2)))
@[irreducible] def S_is_within:DF:=sh (qR 3 b_is_within)
theorem kF:S_is_within=qR 3 b_is_within:=by delta S_is_within;exact zO _
@[reducible] def b_is_rising:DS:=qX (qN (kX false) (qA (zJ false [none,none] (yH (bT (qA (qB 0) (qA (dSl (qB 0) (x8 (dC (.int 1))) (xZ)) (qC))))) (gTp 2 (xJ (gNm 0) (xJ (gNm 1) (uC)))) (wQ) (zM (d2 bX (qB 0) (qB 1)))) (qC)))
@[irreducible] def S_is_rising:DF:=sh (qR 1 b_is_rising)
theorem vL:S_is_rising=qR 1 b_is_rising:=by delta S_is_rising;exact zO _
@[reducible] def b_need_within (c:Cl):DS:=sIf (xN (dTr (qO 3 S_is_within (qA (qB 0) (qA (qB 1) (qA (qB 2) (qC))))))) (yE (.ref c.NoNumber) (qA (lW [dC (.str "a whole number from "),d1 jY (qB 1),dC (.str " to "),d1 jY (qB 2),dC (.str " is needed")]) (qC))) (zG)
@[irreducible] def S_need_within (c:Cl):DF:=sh (qR 3 (b_need_within c))
theorem yK (c:Cl):S_need_within c=qR 3 (b_need_within c):=by delta S_need_within;exact zO _
@[reducible] def b_is_point:DS:=qQ (sIf (uV (xN (dTr (qN zY (qA (qB 0) (qA (dC (.ty "tuple")) (qC)))))) (dTr (d2 gNe (qN xA (qA (qB 0) (qC))) (dC (.int 2))))) (qX (dC (.bl false))) (zG)) (qX (qN (kX false) (qA (zJ false [none] (dIt (qB 0)) (gNm 0) (wQ) (zM (qO 3 (okO S_is_within) (qA (qB 0) (qA (dC (.int (-1000))) (qA (dC (.int (1000))) (qC))))))) (qC))))
@[irreducible] def S_is_point:DF:=sh (qR 1 b_is_point)
theorem gT:S_is_point=qR 1 b_is_point:=by delta S_is_point;exact zO _
@[reducible] def b_is_lot:DS:=qQ (sIf (uV (xN (dTr (qN zY (qA (qB 0) (qA (dC (.ty "tuple")) (qC)))))) (xN (dTr (wC gLe gLe (dC (.int 1)) (qN xA (qA (qB 0) (qC))) (dC (.int (40))))))) (qX (dC (.bl false))) (zG)) (qX (uS (qN (kX false) (qA (zJ false [none] (dIt (qB 0)) (gNm 0) (wQ) (zM (qO 1 (okO S_is_point) (qA (qB 0) (qC))))) (qC))) (qO 1 S_is_rising (qA (qB 0) (qC)))))
@[irreducible] def S_is_lot:DF:=sh (qR 1 b_is_lot)
theorem bF:S_is_lot=qR 1 b_is_lot:=by delta S_is_lot;exact zO _
@[reducible] def b_need_lot (c:Cl):DS:=sIf (xN (dTr (qO 1 S_is_lot (qA (qB 0) (qC))))) (yE (.ref c.NoLot) (qA (dC (.str "a lot is needed")) (qC))) (zG)
@[irreducible] def S_need_lot (c:Cl):DF:=sh (qR 1 (b_need_lot c))
theorem gV (c:Cl):S_need_lot c=qR 1 (b_need_lot c):=by delta S_need_lot;exact zO _
@[reducible] def b_far_between:DS:=qQ (zD (d2 yX (d2 gIx (qB 0) (dC (.int 0))) (d2 gIx (qB 1) (dC (.int 0)))) (gNm 2)) (qQ (zD (d2 yX (d2 gIx (qB 0) (dC (.int 1))) (d2 gIx (qB 1) (dC (.int 1)))) (gNm 3)) (qX (d2 zC (d2 xR (qB 2) (qB 2)) (d2 xR (qB 3) (qB 3)))))
@[irreducible] def S_far_between:DF:=sh (qR 4 b_far_between)
theorem uP:S_far_between=qR 4 b_far_between:=by delta S_far_between;exact zO _
@[reducible] def b_pairs_by_far:DS:=qQ (zD (iI) (gNm 1)) (qQ (vD (lV (qA (qB 0) (qC))) (gTp 2 (xJ (gNm 2) (xJ (gNm 3) (uC)))) (vD (xY (dSl (qB 0) (x8 (d2 zC (qB 2) (dC (.int 1)))) (xZ))) (gNm 4) (xX (dBm "list" wJ (dBm "dict" wK (qB 1) (qA (qO 2 S_far_between (qA (qB 3) (qA (qB 4) (qC)))) (qA (pQ (qC)) (qC)))) (qA (zV (qA (qB 3) (qA (qB 4) (qC)))) (qC)))))) (qX (qB 1)))
@[irreducible] def S_pairs_by_far:DF:=sh (qR 5 b_pairs_by_far)
theorem u9:S_pairs_by_far=qR 5 b_pairs_by_far:=by delta S_pairs_by_far;exact zO _
@[reducible] def b_first_like (c:Cl):DS:=qQ (xX (qO 1 (S_need_lot c) (qA (qB 0) (qC)))) (qQ (vD (fN (qO 1 S_pairs_by_far (qA (qB 0) (qC)))) (gNm 1) (sIf (dTr (d2 gGt (qN xA (qA (qB 1) (qC))) (dC (.int 1)))) (qX (d2 zC (d2 gIx (qB 1) (dC (.int 0))) (d2 gIx (qB 1) (dC (.int 1))))) (zG))) (qX (dC .non)))
@[irreducible] def S_first_like (c:Cl):DF:=sh (qR 2 (b_first_like c))
theorem jN (c:Cl):S_first_like c=qR 2 (b_first_like c):=by delta S_first_like;exact zO _
@[reducible] def b_are_marks:DS:=qQ (sIf (uV (xN (dTr (qN zY (qA (qB 0) (qA (dC (.ty "tuple")) (qC)))))) (xN (dTr (wC gLe gLe (dC (.int 1)) (qN xA (qA (qB 0) (qC))) (dC (.int (20))))))) (qX (dC (.bl false))) (zG)) (qQ (sIf (uV (xN (dTr (qN (kX false) (qA (zJ false [none] (dIt (qB 0)) (gNm 0) (wQ) (zM (qO 1 (okO S_is_whole) (qA (qB 0) (qC))))) (qC))))) (xN (dTr (qO 1 S_is_rising (qA (qB 0) (qC)))))) (qX (dC (.bl false))) (zG)) (qX (uS (d2 gEq (d2 gIx (qB 0) (dC (.int 0))) (dC (.int 0))) (d2 gLe (d2 gIx (qB 0) (d1 pD (dC (.int 1)))) (dC (.int (1000)))))))
@[irreducible] def S_are_marks:DF:=sh (qR 1 b_are_marks)
theorem kE:S_are_marks=qR 1 b_are_marks:=by delta S_are_marks;exact zO _
@[reducible] def b_need_marks (c:Cl):DS:=sIf (xN (dTr (qO 1 S_are_marks (qA (qB 0) (qC))))) (yE (.ref c.NoMarks) (qA (dC (.str "marks are needed")) (qC))) (zG)
@[irreducible] def S_need_marks (c:Cl):DF:=sh (qR 1 (b_need_marks c))
theorem yU (c:Cl):S_need_marks c=qR 1 (b_need_marks c):=by delta S_need_marks;exact zO _
@[reducible] def b_are_all_unlike:DS:=qX (d2 gEq (uU (qB 0)) (qN xA (qA (qB 0) (qC))))
@[irreducible] def S_are_all_unlike:DF:=sh (qR 1 b_are_all_unlike)
theorem vJ:S_are_all_unlike=qR 1 b_are_all_unlike:=by delta S_are_all_unlike;exact zO _
@[reducible] def b_as_lot (c:Cl):DS:=qQ (xX (qO 1 (S_need_marks c) (qA (qB 0) (qC)))) (qX (qN uX (qA (zJ false [none] (dIt (qB 0)) (gNm 0) (wQ) (zM (zV (qA (qB 0) (qA (dC (.int 0)) (qC)))))) (qC))))
@[irreducible] def S_as_lot (c:Cl):DF:=sh (qR 1 (b_as_lot c))
theorem jW (c:Cl):S_as_lot c=qR 1 (b_as_lot c):=by delta S_as_lot;exact zO _
@[reducible] def b_first_twice (c:Cl):DS:=qQ (zD (qO 1 (S_first_like c) (qA (qO 1 (S_as_lot c) (qA (qB 0) (qC))) (qC))) (gNm 1)) (qX (dIf (dTr (d2 gIs (qB 1) (dC .non))) (dC .non) (qN uX (qA (zJ false [none,none] (dIt (qB 1)) (gTp 2 (xJ (gNm 0) (xJ (gNm 1) (uC)))) (wQ) (zM (qB 0))) (qC)))))
@[irreducible] def S_first_twice (c:Cl):DF:=sh (qR 2 (b_first_twice c))
theorem yJ (c:Cl):S_first_twice c=qR 2 (b_first_twice c):=by delta S_first_twice;exact zO _
@[reducible] def b_unlike_by (c:Cl):DS:=qQ (xX (qO 1 (S_need_marks c) (qA (qB 0) (qC)))) (qQ (xX (qO 3 (S_need_within c) (qA (qB 1) (qA (dC (.int 1)) (qA (d2 kZ (dC (.int 10)) (dC (.int 6))) (qC)))))) (qQ (zD (zJ false [none,none,Ab 1,Ab 0] (dIt (qB 0)) (gNm 0) (wQ) (kIn (dIt (qB 3)) (gNm 1) (yW (dTr (d2 gNe (qB 0) (qB 1))) (wQ)) (zM (d2 u7 (d2 yX (qB 0) (qB 1)) (qB 2))))) (gNm 2)) (qX (uS (d2 uZ (dC (.int 0)) (qB 2)) (qO 1 S_are_all_unlike (qA (qB 2) (qC)))))))
@[irreducible] def S_unlike_by (c:Cl):DF:=sh (qR 3 (b_unlike_by c))
theorem wZ (c:Cl):S_unlike_by c=qR 3 (b_unlike_by c):=by delta S_unlike_by;exact zO _
@[reducible] def b__law_kinds (c:Cl):DS:=qQ (zD (xD (qA (qN (zP (xG c)) (qA (qB 0) (qA (dC (.obj c.NoPoint)) (qC)))) (qA (qN (zP (xG c)) (qA (qB 0) (qA (dC (.obj c.NoLot)) (qC)))) (qA (qN (zP (xG c)) (qA (qB 0) (qA (dC (.obj c.NoNumber)) (qC)))) (qC))))) (gNm 1)) (qQ (zD (d2 zC (qB 1) (xD (qA (qN (zP (xG c)) (qA (qB 0) (qA (dC (.obj c.NoCircle)) (qC)))) (qA (qN (zP (xG c)) (qA (qB 0) (qA (dC (.obj c.NoMarks)) (qC)))) (qA (qN (zP (xG c)) (qA (qB 0) (qA (dC (.obj c.NoFars)) (qC)))) (qC)))))) (gNm 1)) (qQ (zD (d2 zC (qB 1) (xD (qA (qN (zP (xG c)) (qA (qB 0) (qA (dC (.obj c.NoText)) (qC)))) (qA (qN (zP (xG c)) (qA (qB 0) (qA (dC (.obj c.NoLine)) (qC)))) (qA (qN (zP (xG c)) (qA (qB 0) (qA (dC (.obj c.NoDeed)) (qC)))) (qC)))))) (gNm 1)) (qQ (zD (d2 zC (qB 1) (xD (qA (qN (zP (xG c)) (qA (qB 0) (qA (dC (.obj c.Alike)) (qC)))) (qA (qN (zP (xG c)) (qA (qB 0) (qA (dC (.obj c.TooMany)) (qC)))) (qC))))) (gNm 1)) (qQ (sIf (uV (xN (dTr (qN (zP (xG c)) (qA (qB 0) (qA (dC (.ty "ValueError")) (qC)))))) (dTr (d2 gNe (dBm "list" fQ (qB 1) (qA (dC (.bl true)) (qC))) (dC (.int 1))))) (qX (dC (.str "other"))) (zG)) (qQ (sIf (dTr (qN (zP (xG c)) (qA (qB 0) (qA (dC (.obj c.Alike)) (qC))))) (qX (zV (qA (dC (.str "alike")) (qA (pB) (qA (pB) (qA (pB) (qA (pB) (qC)))))))) (zG)) (qQ (sIf (dTr (qN (zP (xG c)) (qA (qB 0) (qA (dC (.obj c.TooMany)) (qC))))) (qX (zV (qA (dC (.str "many")) (qA (pB) (qA (pB) (qC)))))) (zG)) (qQ (zD (xD (qA (dC (.str "point")) (qA (dC (.str "lot")) (qA (dC (.str "number")) (qA (dC (.str "circle")) (qA (dC (.str "marks")) (qA (dC (.str "fars")) (qA (dC (.str "text")) (qA (dC (.str "line")) (qA (dC (.str "deed")) (qC))))))))))) (gNm 2)) (qX (d2 gIx (qB 2) (dBm "list" fR (qB 1) (qA (dC (.bl true)) (qC))))))))))))
@[irreducible] def S__law_kinds (c:Cl):DF:=sh (qR 3 (b__law_kinds c))
theorem yT (c:Cl):S__law_kinds c=qR 3 (b__law_kinds c):=by delta S__law_kinds;exact zO _
@[reducible] def b__law_refused (c:Cl)(G:Aa D->DF)(a:Af)(cv:Aa V):DS:=qQ (fE 2 1 (uR c) (xX (kT 0 (qC) a cv 0 G)) (qX (qO 1 (S__law_kinds c) (qA (qB 1) (qC))))) (qX (dC (.str "told")))
@[reducible] def b__law_same (S__law_same:DF):DS:=qQ (sIf (dTr (d2 gIs (qB 1) (dC .non))) (qX (d2 gIs (qB 0) (dC .non))) (zG)) (qQ (sIf (dTr (qN kY (qA (qB 1) (qA (zV (qA (dC (.ty "list")) (qA (dC (.ty "tuple")) (qC)))) (qC))))) (qQ (sIf (dTr (d2 gNe (qN zY (qA (qB 1) (qA (dC (.ty "list")) (qC)))) (qN zY (qA (qB 0) (qA (dC (.ty "list")) (qC)))))) (qX (dC (.bl false))) (zG)) (qQ (sIf (uV (dTr (d2 gNe (qN zY (qA (qB 1) (qA (dC (.ty "tuple")) (qC)))) (qN zY (qA (qB 0) (qA (dC (.ty "tuple")) (qC)))))) (dTr (d2 gNe (qN xA (qA (qB 0) (qC))) (qN xA (qA (qB 1) (qC)))))) (qX (dC (.bl false))) (zG)) (qX (qN (kX false) (qA (zJ false [none,none] (yH (bT (qA (qB 0) (qA (qB 1) (qC))))) (gTp 2 (xJ (gNm 0) (xJ (gNm 1) (uC)))) (wQ) (zM (qO 2 (okO S__law_same) (qA (qB 0) (qA (qB 1) (qC)))))) (qC)))))) (zG)) (qQ (sIf (dTr (qN zY (qA (qB 1) (qA (dC (.ty "str")) (qC))))) (qX (uS (qN zY (qA (qB 0) (qA (dC (.ty "str")) (qC)))) (d2 gEq (qB 0) (qB 1)))) (zG)) (qQ (sIf (dTr (d2 gNe (qN zY (qA (qB 0) (qA (dC (.ty "bool")) (qC)))) (qN zY (qA (qB 1) (qA (dC (.ty "bool")) (qC)))))) (qX (dC (.bl false))) (zG)) (qX (uS (qN zY (qA (qB 0) (qA (dC (.ty "int")) (qC)))) (d2 gEq (qB 0) (qB 1)))))))
def mG:Ai->DF
 |0=>λ_ _=>.bad
 |n+1=>qR 2 (b__law_same (mG n))
@[irreducible] def S__law_same:DF:=sh (mG 4)
theorem vK:S__law_same=mG 4:=by delta S__law_same;exact zO _
@[reducible] def b__law_cell:DS:=qQ (sIf (dTr (d2 gLt (qB 1) (qN xA (qA (qB 0) (qC))))) (qX (d2 gIx (qB 0) (qB 1))) (zG)) (qX (dC (.int 0)))
@[irreducible] def S__law_cell:DF:=sh (qR 2 b__law_cell)
theorem kB:S__law_cell=qR 2 b__law_cell:=by delta S__law_cell;exact zO _
@[reducible] def b__law_pen:DS:=qX (pQ (qA (qB 0) (qA (qN iO (qA (d2 gGe (qB 0) (d2 kZ (dC (.int 10)) (dC (.int 18)))) (qC))) (qC))))
@[irreducible] def S__law_pen:DF:=sh (qR 1 b__law_pen)
theorem gS:S__law_pen=qR 1 b__law_pen:=by delta S__law_pen;exact zO _
@[reducible] def b__law_draw:DS:=qQ (sIf (dTr (d2 gEq (d2 gIx (qB 0) (dC (.int 1))) (dC (.int 1)))) (qQ (zD (d2 u7 (d2 gIx (qB 0) (dC (.int 0))) (qB 1)) (gNm 2)) (qQ (zD (d2 t8 (d2 gIx (qB 0) (dC (.int 0))) (qB 1)) (gSb (qB 0) (dC (.int 0)) vU)) (qX (qB 2)))) (zG)) (qQ (zD (d2 u7 (d2 zC (d2 xR (d2 u7 (d2 gIx (qB 0) (dC (.int 0))) (dC (.int 2147483629))) (dC (.int 48271))) (dC (.int 11))) (dC (.int 2147483629))) (gSb (qB 0) (dC (.int 0)) vU)) (qX (d2 u7 (d2 t8 (d2 u7 (d2 zC (d2 xR (d2 gIx (qB 0) (dC (.int 0))) (d2 gIx (qB 0) (dC (.int 0)))) (d2 xR (dC (.int 40692)) (d2 gIx (qB 0) (dC (.int 0))))) (dC (.int 2147483647))) (dC (.int 8))) (qB 1))))
@[irreducible] def S__law_draw:DF:=sh (qR 3 b__law_draw)
theorem kD:S__law_draw=qR 3 b__law_draw:=by delta S__law_draw;exact zO _
@[reducible] def b__law_no_number:DS:=qQ (zD (xD (qA (d2 yX (qB 1) (dC (.int 1))) (qA (d2 zC (qB 2) (dC (.int 1))) (qA (d2 yX (d2 yX (dC (.int 0)) (qB 2)) (dC (.int 1))) (qA (d2 zC (d2 zC (qB 2) (dC (.int 1))) (qO 2 S__law_draw (qA (qB 0) (qA (d2 kZ (dC (.int 10)) (dC (.int 9))) (qC))))) (qA (dC (.bl true)) (qC))))))) (gNm 3)) (qQ (zD (d2 zC (qB 3) (xD (qA (dC (.bl false)) (qC)))) (gNm 3)) (qX (d2 gIx (d2 zC (qB 3) (xD (qA (dC .non) (qA (dC (.str "1")) (qA (zV (qA (dC (.int 1)) (qC))) (qA (xD (qA (dC (.int 1)) (qC))) (qA (fL) (qA (d2 kZ (dC (.int 10)) (dC (.int 29))) (qC))))))))) (qO 2 S__law_draw (qA (qB 0) (qA (dC (.int 12)) (qC)))))))
@[irreducible] def S__law_no_number:DF:=sh (qR 4 b__law_no_number)
theorem vH:S__law_no_number=qR 4 b__law_no_number:=by delta S__law_no_number;exact zO _
@[reducible] def b__law_combos:DS:=qQ (zD (xD (qA (zV (qC)) (qC))) (gNm 2)) (qQ (vD (xY (qB 0)) (gNm 3) (zD (d2 zC (qB 2) (zJ false [none,Ab 1,Ab 3] (dIt (qB 2)) (gNm 0) (yW (dTr (d2 gLt (qN xA (qA (qB 0) (qC))) (qB 1))) (wQ)) (zM (d2 zC (qB 0) (zV (qA (qB 2) (qC))))))) (gNm 2))) (qX (qN mZ (qA (zJ false [none,Ab 1] (dIt (qB 2)) (gNm 0) (yW (dTr (d2 gEq (qN xA (qA (qB 0) (qC))) (qB 1))) (wQ)) (zM (qB 0))) (qC)))))
@[irreducible] def S__law_combos:DF:=sh (qR 4 b__law_combos)
theorem uO:S__law_combos=qR 4 b__law_combos:=by delta S__law_combos;exact zO _
@[reducible] def b__law_marks:DS:=qQ (nF 2 3 (qA (qO 2 S__law_draw (qA (qB 0) (qA (dC (.int 5)) (qC)))) (qA (d2 zC (dC (.int 1)) (qO 2 S__law_draw (qA (qB 0) (qA (qB 1) (qC))))) (qC)))) (qQ (zD (zV (qA (d2 zC (dC (.int 1)) (qO 2 S__law_draw (qA (qB 0) (qA (dC (.int 50)) (qC))))) (qA (d2 gIx (xD (qA (d2 zC (qB 3) (dC (.int 2))) (qA (d2 xR (dC (.int 3)) (qB 3)) (qA (dC (.int 1000)) (qC))))) (qO 2 S__law_draw (qA (qB 0) (qA (dC (.int 3)) (qC))))) (qC)))) (gTp 2 (xJ (gNm 4) (xJ (gNm 5) (uC))))) (qQ (sIf (dTr (d2 gEq (qB 2) (dC (.int 0)))) (qX (qN uX (qA (zJ false [none,Ab 4] (yH (bS (qA (qB 3) (qC)))) (gNm 0) (wQ) (zM (d2 xR (qB 0) (qB 1)))) (qC)))) (zG)) (qQ (sIf (dTr (d2 gEq (qB 2) (dC (.int 1)))) (qQ (zD (xD (qA (zV (qA (dC (.int 0)) (qA (dC (.int 1)) (qA (dC (.int 4)) (qA (dC (.int 6)) (qC)))))) (qA (zV (qA (dC (.int 0)) (qA (dC (.int 1)) (qA (dC (.int 4)) (qA (dC (.int 9)) (qA (dC (.int 11)) (qC))))))) (qA (zV (qA (dC (.int 0)) (qA (dC (.int 2)) (qA (dC (.int 5)) (qA (dC (.int 6)) (qC)))))) (qA (zV (qA (dC (.int 0)) (qA (dC (.int 1)) (qA (dC (.int 3)) (qA (dC (.int 9)) (qC)))))) (qA (zV (qA (dC (.int 0)) (qA (dC (.int 1)) (qA (dC (.int 4)) (qA (dC (.int 14)) (qA (dC (.int 16)) (qC))))))) (qC))))))) (gNm 6)) (qX (dSl (d2 gIx (qB 6) (d2 u7 (qB 4) (dC (.int 5)))) (xZ) (x8 (qB 3))))) (zG)) (qQ (zD (jQ false (zJ false [none,Ab 0,Ab 5] (yH (bS (qA (qB 3) (qC)))) (gNm 0) (wQ) (zM (d2 zC (dC (.int 1)) (qO 2 (okO S__law_draw) (qA (qB 1) (qA (qB 2) (qC)))))))) (gNm 7)) (qX (d2 zC (zV (qA (dC (.int 0)) (qC))) (dSl (qN uX (qA (qB 7) (qC))) (xZ) (x8 (d2 yX (qB 1) (dC (.int 1)))))))))))
@[irreducible] def S__law_marks:DF:=sh (qR 8 b__law_marks)
theorem jL:S__law_marks=qR 8 b__law_marks:=by delta S__law_marks;exact zO _
@[reducible] def b__law_no_marks:DS:=qQ (nF 2 3 (qA (qO 2 S__law_draw (qA (qB 0) (qA (dC (.int 15)) (qC)))) (qA (qO 2 S__law_draw (qA (qB 0) (qA (qN xA (qA (qB 1) (qC))) (qC)))) (qC)))) (qQ (zD (d2 gIx (xD (qA (d1 pD (dC (.int 1))) (qA (dC (.int 1001)) (qA (dC (.bl true)) (qA (dC .non) (qA (dC (.str "1")) (qA (zV (qA (dC (.int 1)) (qC))) (qA (dC (.bl false)) (qA (d2 kZ (dC (.int 10)) (dC (.int 29))) (qC)))))))))) (qO 2 S__law_draw (qA (qB 0) (qA (dC (.int 8)) (qC))))) (gNm 4)) (qQ (zD (d2 zC (d2 zC (dSl (qB 1) (xZ) (x8 (qB 3))) (zV (qA (qB 4) (qC)))) (dSl (qB 1) (x8 (d2 zC (qB 3) (dC (.int 1)))) (xZ))) (gNm 5)) (qQ (zD (d2 zC (d2 pT (xD (qA (qB 5) (qC))) (dC (.int 4))) (xD (qA (dC .non) (qA (zV (qC)) (qA (qN lY (qA (qB 1) (qC))) (qA (d2 zC (zV (qA (dC (.int 1)) (qC))) (dSl (qB 1) (x8 (dC (.int 1))) (xZ))) (qA (dC (.str "0 1")) (qA (dC (.int 7)) (qA (fL) (qC)))))))))) (gNm 6)) (qQ (zD (d2 zC (qB 6) (xD (qA (d2 zC (qB 1) (dSl (qB 1) (x8 (d1 pD (dC (.int 1)))) (xZ))) (qA (lX true (qA (dC (.int 21)) (qC))) (qA (d2 zC (qB 1) (zV (qA (dC (.int 0)) (qC)))) (qC)))))) (gNm 6)) (qX (d2 gIx (d2 zC (qB 6) (xD (qA (zV (qA (qB 1) (qC))) (qC)))) (qB 2)))))))
@[irreducible] def S__law_no_marks:DF:=sh (qR 7 b__law_no_marks)
theorem vX:S__law_no_marks=qR 7 b__law_no_marks:=by delta S__law_no_marks;exact zO _
@[reducible] def b__law_twice:DS:=qQ (zD (qO 2 S__law_combos (qA (qB 0) (qA (dC (.int 2)) (qC)))) (gNm 1)) (qQ (vD (xY (qB 1)) (gNm 2) (vD (xY (qB 1)) (gNm 3) (sIf (yW (dTr (d2 bX (qB 2) (qB 3))) (dTr (d2 gEq (d2 yX (d2 gIx (qB 2) (dC (.int 1))) (d2 gIx (qB 2) (dC (.int 0)))) (d2 yX (d2 gIx (qB 3) (dC (.int 1))) (d2 gIx (qB 3) (dC (.int 0))))))) (qX (d2 zC (qB 2) (qB 3))) (zG)))) (qX (dC .non)))
@[irreducible] def S__law_twice:DF:=sh (qR 4 b__law_twice)
theorem jM:S__law_twice=qR 4 b__law_twice:=by delta S__law_twice;exact zO _
@[reducible] def b__law_unlike_by:DS:=qQ (zD (pQ (qC)) (gNm 2)) (qQ (vD (xY (qB 0)) (gNm 3) (vD (xY (qB 0)) (gNm 4) (sIf (dTr (d2 gNe (qB 3) (qB 4))) (xX (dBm "list" wJ (qB 2) (qA (d2 u7 (d2 yX (qB 3) (qB 4)) (qB 1)) (qC)))) (zG)))) (qX (uS (d2 (pX uZ) (dC (.int 0)) (qB 2)) (d2 gEq (uU (qB 2)) (qN xA (qA (qB 2) (qC)))))))
@[irreducible] def S__law_unlike_by:DF:=sh (qR 5 b__law_unlike_by)
theorem vI:S__law_unlike_by=qR 5 b__law_unlike_by:=by delta S__law_unlike_by;exact zO _
@[reducible] def b_law (c:Cl):DS:=qQ (sIf (uV (xN (dTr (qO 2 S__law_same (qA (qO 1 (S_first_twice c) (qA (zV (qA (dC (.int 0)) (qA (dC (.int 1)) (qA (dC (.int 2)) (qC))))) (qC))) (qA (zV (qA (dC (.int 0)) (qA (dC (.int 1)) (qA (dC (.int 1)) (qA (dC (.int 2)) (qC)))))) (qC)))))) (dTr (d2 t9 (qO 2 (S_unlike_by c) (qA (zV (qA (dC (.int 0)) (qA (dC (.int 1)) (qA (dC (.int 3)) (qC))))) (qA (dC (.int 7)) (qC)))) (dC (.bl true))))) (qX (dC (.bl false))) (zG)) (qQ (vD (xY (d2 zC (xD (qA (qO 2 S__law_cell (qA (qB 0) (qA (dC (.int 0)) (qC)))) (qC))) (dSl (qB 0) (x8 (dC (.int 1))) (x8 (dC (.int 8)))))) (gNm 1) (qQ (zD (qO 1 S__law_pen (qA (qB 1) (qC))) (gNm 2)) (qQ (zD (qO 2 S__law_marks (qA (qB 2) (qA (dC (.int 20)) (qC)))) (gNm 8)) (qQ (zD (qO 1 S__law_twice (qA (qB 8) (qC))) (gNm 3)) (qQ (sIf (uV (xN (dTr (qO 2 S__law_same (qA (qO 1 (S_first_twice c) (qA (qB 8) (qC))) (qA (qB 3) (qC)))))) (xN (dTr (qO 2 S__law_same (qA (qO 1 (S_first_twice c) (qA (qB 8) (qC))) (qA (qB 3) (qC))))))) (qX (dC (.bl false))) (zG)) (qQ (zD (d2 zC (d2 xR (qN xA (qA (qB 8) (qC))) (d2 yX (qN xA (qA (qB 8) (qC))) (dC (.int 1)))) (dC (.int 1))) (gNm 4)) (qQ (zD (xD (qA (dC (.int 1)) (qA (dC (.int 2)) (qA (qB 4) (qA (d2 zC (qB 4) (qO 2 S__law_draw (qA (qB 2) (qA (dC (.int 30)) (qC))))) (qA (qN lZ (qA (dC (.int 1)) (qA (d2 xR (dC (.int 2)) (d2 gIx (qB 8) (d1 pD (dC (.int 1))))) (qC)))) (qC))))))) (gNm 5)) (qQ (zD (d2 zC (qB 5) (xD (qA (d2 zC (d2 xR (dC (.int 2)) (d2 gIx (qB 8) (d1 pD (dC (.int 1))))) (dC (.int 1))) (qA (d2 kZ (dC (.int 10)) (dC (.int 6))) (qC))))) (gNm 5)) (qQ (vD (xY (d2 zC (qB 5) (xD (qA (d2 zC (dC (.int 1)) (qO 2 S__law_draw (qA (qB 2) (qA (dC (.int 200)) (qC))))) (qC))))) (gNm 7) (sIf (xN (dTr (qO 2 S__law_same (qA (qO 2 (S_unlike_by c) (qA (qB 8) (qA (qB 7) (qC)))) (qA (qO 2 S__law_unlike_by (qA (qB 8) (qA (qB 7) (qC)))) (qC)))))) (qX (dC (.bl false))) (zG))) (qQ (zD (zV (qA (qO 2 S__law_no_marks (qA (qB 2) (qA (qB 8) (qC)))) (qA (qO 3 S__law_no_number (qA (qB 2) (qA (dC (.int 1)) (qA (d2 kZ (dC (.int 10)) (dC (.int 6))) (qC))))) (qC)))) (gTp 2 (xJ (gNm 6) (xJ (gNm 9) (uC))))) (qQ (sIf (dTr (d2 gNe (uT false [6] 1 2 (qC) (b__law_refused c (gE (qO 1 (S_first_twice c) (qA (qB 0) (qC)))))) (dC (.str "marks")))) (qX (dC (.bl false))) (zG)) (qQ (vD (xY (zV (qA (qB 9) (qA (dC (.int 7)) (qC))))) (gNm 7) (sIf (dTr (d2 gNe (uT false [6,7] 1 2 (qC) (b__law_refused c (gE (qO 2 (S_unlike_by c) (qA (qB 0) (qA (qB 1) (qC))))))) (dC (.str "marks")))) (qX (dC (.bl false))) (zG))) (sIf (dTr (d2 gNe (uT false [8,9] 1 2 (qC) (b__law_refused c (gE (qO 2 (S_unlike_by c) (qA (qB 0) (qA (qB 1) (qC))))))) (dC (.str "number")))) (qX (dC (.bl false))) (zG)))))))))))))) (qX (dC (.bl true))))
end _K
namespace _K
open PySem _D
variable {cl:Aa Af}{ms:Aa Al}{xs:Aa D}{C:Af}{i M:Ai}{f:DE}{Q:D->Sto->Prop}{S:Sto}{env:qF}
theorem aA {d:D}(h:Pn d)(S:Sto):S_is_whole [d] S=.ok (.bl (isW d)) S:=by
 rw[gU];obtain⟨p,h⟩:=h;cases d <;> first|kernel_rfl!|simp[pyD] at h
theorem fD {d:D}(h:Pn d)(a b:Al)(S:Sto):S_is_within [d,.int a,.int b] S=.ok (.bl (inR a b d)) S:=by
 rw[kF];refine zE (z0 (env:=[Ab d,Ab (.int a),Ab (.int b)]) rfl ?_);rfl';refine pZ ?_;rfl';refine qM (aA h S) ⟨_,rfl,λe=>?_,λe=>?_⟩
 .cases d with
  |int i=>exact tU rfl rfl rfl ⟨rfl,rfl⟩
  |_=>cases e
 .cases d <;> first|exact⟨rfl,rfl⟩|cases e
theorem oC {d:D}(h:Pn d)(S:Sto):S_is_point [d] S=.ok (.bl (yD d)) S:=by
 rw[gT];refine zE (z0 (env:=[Ab d]) rfl ?_);rfl';refine uH ?_;rfl';refine qM (iS h S) ?_;rfl';refine⟨λe=>?_,λe=>?_⟩
 .rfl'
  exact⟨by rw[N9 (by simpa using e)],rfl⟩
 .cases d with
  |tup xs =>
   rfl';refine wB (λe=>?_) λe=>?_
   .rfl'
    refine v7 (enc:=id) (o:=none) xs (λx=>.bl (isI x)) (λenv S'=>S'=S/\∃ a,env=[a]) ((tH rfl).trans (by rw[Us])) ⟨rfl,none,rfl⟩ (by unfold lim;lia) (λ_ _ _=>trivial) (λx hx env S' ⟨e1,a,e2⟩=>?_) λenv S' ⟨e1,_⟩=>?_
    .subst e1 e2
     rfl';exact qM (fD (rE h x hx) _ _ _) ⟨rfl,rfl,_,rfl⟩
    .subst e1
     rfl';exact pY ⟨by rw[N7 li],rfl⟩
   .rfl'
    exact⟨by rw[N8 li],rfl⟩
  |_=>cases e
theorem VX (qs:Aa Pt)(hl:qs.length<=1000)(S:Sto):S_is_rising [j9 qs] S=.ok (.bl (upB (qs.map kP))) S:=by
 rw[vL];refine zE (z0 (env:=[Ab (.tup (qs.map ptD))]) rfl ?_);rfl';have hz:yH (bT (qA (qB 0) (qA (dSl (qB 0) (x8 (dC (.int 1))) (xZ)) (qC)))) [Ab (.tup (qs.map ptD))] S=.ok (none,(((qs.map kP).zip ((qs.map kP).drop 1)).map λp=>D.tup [tpD p.1,tpD p.2])) S:=by
  show Res.ok (none,wY (qs.map ptD) (zX (qs.map ptD) (Ab 1) none)) S=_;rw[iH,fY,<- Rp,R0]
 refine v7 _ (λp=>.bl (_H.lexLt p.1 p.2)) (λenv S'=>S'=S/\∃ a b,env=[a,b]) hz ⟨rfl,none,none,rfl⟩ ?_ (λ_ _ _=>trivial) (λx hx env S' ⟨e1,a,b,e2⟩=>?_) λenv S' ⟨e1,_⟩=>?_
 .rw[Pa,Av]
  unfold lim
  lia
 .subst e1 e2
  rfl';exact qM (JA _ _ _) ⟨rfl,rfl,_,_,rfl⟩
 .subst e1
  rfl';exact pY ⟨rfl,rfl⟩
theorem VV {d:D}(h:Pn d)(S:Sto):S_is_lot [d] S=.ok (.bl (d3 d)) S:=by
 rw[bF];refine zE (z0 (env:=[Ab d]) rfl ?_);rfl';refine uH ?_;rfl';refine qM (iS h S) ?_;rfl';refine⟨λe=>?_,λe=>?_⟩
 .rfl'
  exact⟨by rw[GT (by simpa using e)],rfl⟩
 .cases d with
  |tup xs =>
   rfl';refine tU (b:=(xs.length:Al)) rfl rfl rfl ?_;rfl';refine wB (λz=>?_) λz=>?_
   .have hl:1<=xs.length/\xs.length<=40:=by lia
    rfl';refine pZ ?_;rfl';refine v7 (enc:=id) (o:=none) xs (λx=>.bl (yD x)) (λenv S'=>S'=S/\∃ a,env=[a]) ((tH rfl).trans (by rw[Us])) ⟨rfl,none,rfl⟩ (by unfold lim;lia) (λ_ _ _=>trivial) (λx hx env S' ⟨e1,a,e2⟩=>?_) λenv S' ⟨e1,_⟩=>?_
    .subst e1 e2
     rfl';exact qM (oC (rE h x hx) _) ⟨rfl,rfl,_,rfl⟩
    .subst e1
     rfl';refine pY ⟨_,rfl,λha=>?_,λha=>?_⟩
     .obtain⟨qs,rfl,_⟩:=X2 ha
      rw[Av] at hl;rfl';refine qM (VX qs li _) ⟨?_,rfl⟩;show _=D.bl (decide (1<=(qs.map ptD).length/\(qs.map ptD).length<=40)&&(qs.map ptD).all yD&&(match wN (qs.map ptD) with|some ks=>upB ks|none=>false))
      rw[ha,Av,Dk hl,fY,pL];rfl
     .refine⟨?_,rfl⟩
      show _=D.bl (decide (1<=xs.length/\xs.length<=40)&&xs.all yD&&(match wN xs with|some ks=>upB ks|none=>false))
      rw[ha,Ll,Fm]
   .rfl'
    refine⟨?_,rfl⟩;show _=D.bl (decide (1<=xs.length/\xs.length<=40)&&xs.all yD&&(match wN xs with|some ks=>upB ks|none=>false))
    rw[Dd li,Fm,Fm]
  |_=>cases e
theorem eJ (c:Cl){d:D}(S:Sto)(h:Pn d)(k:d3 d=true):S_need_lot c [d] S=.ok .non S:=by
 rw[gV];refine zE (z0 (env:=[Ab d]) rfl ?_);rfl';refine qM (VV h S) ?_;rw[k];rfl';exact⟨rfl,rfl⟩
theorem wH {p:Ai}{m:Al}(h:uA S p)(hm:0<m/\m<1073741824)(q:∀ (r:Ai) S1,Kp p S S1->(r:Al)<m->Q (.int r) S1):Ok (S__law_draw [.loc p,.int m] S) Q:=by
 have fin:∀ r v f:Al,0<=r->r<m->Q (.int r) (S.set p (.lst [.int v,.int f])):=λr v f h0 h1=>by
  obtain⟨r,rfl⟩:=Ta h0;obtain⟨v0,f0,e⟩:=h;have hpl:=(Bo.mp e).1;exact q r _ ⟨⟨v,f,by simp[hpl]⟩,by simp,λi hi hn=>Ch (Gb hn)⟩ h1
 obtain⟨v,f,e⟩:=h;have hpl:=(Bo.mp e).1;rw[kD];refine z0 (env:=[Ab (.loc p),Ab (.int m),none]) rfl ?_;rfl';refine uG e (d:=.int f) rfl ?_;rfl';refine wB (λz=>?_) λz=>?_
 .rfl'
  refine uG e (d:=.int v) rfl ?_;rfl';refine uG e (d:=.int v) rfl ?_;rfl';refine ZV e rfl ?_;rfl';exact fin _ _ _ (Kt _ om) (Jd _ hm.1)
 .rfl'
  refine uG e (d:=.int v) rfl ?_;have hv:=Kt v (show (2147483629:Al)≠0 by omega)
  have hv':=Jd v (show (0:Al)<2147483629 by omega)
  rfl';have hw:=Kt (v % 2147483629*48271+11) (show (2147483629:Al)≠0 by omega)
  have hw':=Jd (v % 2147483629*48271+11) (show (0:Al)<2147483629 by omega)
  generalize (v % 2147483629*48271+11) % 2147483629=w at hw hw';refine ZV e rfl ?_;have e2:(S.set p (MO.lst [.int w,.int f]))[p]? = Ab (.lst [.int w,.int f]):=by simp[hpl]
  rfl';refine uG e2 (d:=.int w) rfl ?_;rfl';refine uG e2 (d:=.int w) rfl ?_;rfl';refine uG e2 (d:=.int w) rfl ?_;rfl';exact fin _ _ _ (Kt _ om) (Jd _ hm.1)
theorem E2 {x:Al}(q:∀ p S1,uA S1 p->Q (.loc p) S1):Ok (S__law_pen [.int x] S) Q:=by
 rw[gS];refine z0 (env:=[Ab (.int x)]) rfl ?_;rfl';refine qM (d:=.int 1000000000000000000) rfl ?_;rfl';refine qM (d:=.int (b01 (decide (1000000000000000000<=x)))) rfl ?_;rfl';exact q _ _ ⟨_,_,vM _ _⟩
theorem RY (nd:cl.Nodup){i j:Ai}{a b:Af}(ha:cl[i]? = Ab a)(hb:cl[j]? = Ab b)(h:i≠j):(a == b)=false:=by
 rw[Iq];rintro rfl;obtain⟨h1,e1⟩:=Bo.mp ha;obtain⟨h2,e2⟩:=Bo.mp hb;exact h ((Of nd).mp (e1.trans e2.symm))
theorem JG {B:Af}(hC:C∈cl)(hB:B∈cl)(q:Q (.bl (C == B)) S):Ok (zP cl [.exn (.ref C),.obj B] S) Q:=by
 refine⟨_,_,?_,q⟩;show (if (cl.contains C&&cl.contains B)=true then Res.ok (D.bl (C == B)) S else .bad)=_
 rw[Ex.mpr hC,Ex.mpr hB];rfl
theorem JH (hC:C∈cl)(q:Q (.bl true) S):Ok (zP cl [.exn (.ref C),.ty "ValueError"] S) Q:=by
 refine⟨_,_,?_,q⟩;show (if (cl.contains C&&(("ValueError" : Dx) == "ValueError"))=true then Res.ok (D.bl true) S else .bad)=_
 rw[Ex.mpr hC];rfl
theorem JD (nd:cl.Nodup){i j:Ai}{a b:Af}(ha:cl[i]? = Ab a)(hb:cl[j]? = Ab b):decide (i=j)=(a == b):=by
 by_cases h:i=j
 .subst h
  cases ha.symm.trans hb;rw[Dk rfl,Gk]
 .rw[Dd h,RY nd ha hb h]
theorem gZ (c:Cl)(nd:(xG c).Nodup)(S:Sto):S__law_kinds c [.exn (.ref c.NoMarks)] S=.ok (.str "marks") S:=by
 have s:∀ {Q:D->Sto->Prop} (j:Ai) {B:Af},(xG c)[j]? = Ab B->Q (.bl (decide (4=j))) S->Ok (zP (xG c) [.exn (.ref c.NoMarks),.obj B] S) Q:=λj B h q=>JG (Bp (i:=4) rfl) (Bp h) (JD nd (i:=4) rfl h▸q);rw[yT];refine zE (z0 (env:=[Ab (.exn (.ref c.NoMarks)),none,none]) rfl ?_);rfl';refine s 0 rfl ?_;rfl';refine s 1 rfl ?_;rfl';refine s 2 rfl ?_;rfl';refine s 3 rfl ?_;rfl';refine s 4 rfl ?_;rfl';refine s 5 rfl ?_;rfl';refine xM (Cc rfl) ?_;rfl';refine s 6 rfl ?_;rfl';refine s 7 rfl ?_;rfl';refine s 8 rfl ?_;rfl';refine xM (Cc rfl) ?_;rfl';refine s 9 rfl ?_;rfl';refine s 10 rfl ?_;rfl';refine xM (Cc rfl) ?_;rfl';refine uH ?_;rfl';refine JH (Bp (i:=4) rfl) ?_;rfl';refine⟨(λe=>by cases e),λ_=>?_⟩
 rfl';refine qM (d:=.int 1) (S:=S) (by kernel_rfl!) ?_
 rfl';refine wB (λ_=>?_) λe=>absurd rfl e;rfl';refine s 9 rfl ?_;rfl';refine wB (λe=>absurd e (by decide)) λ_=>?_
 rfl';refine s 10 rfl ?_;rfl';refine wB (λe=>absurd e (by decide)) λ_=>?_
 rfl';refine qM (d:=.int 4) (S:=S) (by kernel_rfl!) ?_
 exact d9 (d:=.str "marks") rfl ⟨rfl,rfl⟩
theorem tJ (c:Cl)(nd:(xG c).Nodup)(S:Sto):S__law_kinds c [.exn (.ref c.NoNumber)] S=.ok (.str "number") S:=by
 have s:∀ {Q:D->Sto->Prop} (j:Ai) {B:Af},(xG c)[j]? = Ab B->Q (.bl (decide (2=j))) S->Ok (zP (xG c) [.exn (.ref c.NoNumber),.obj B] S) Q:=λj B h q=>JG (Bp (i:=2) rfl) (Bp h) (JD nd (i:=2) rfl h▸q);rw[yT];refine zE (z0 (env:=[Ab (.exn (.ref c.NoNumber)),none,none]) rfl ?_);rfl';refine s 0 rfl ?_;rfl';refine s 1 rfl ?_;rfl';refine s 2 rfl ?_;rfl';refine s 3 rfl ?_;rfl';refine s 4 rfl ?_;rfl';refine s 5 rfl ?_;rfl';refine xM (Cc rfl) ?_;rfl';refine s 6 rfl ?_;rfl';refine s 7 rfl ?_;rfl';refine s 8 rfl ?_;rfl';refine xM (Cc rfl) ?_;rfl';refine s 9 rfl ?_;rfl';refine s 10 rfl ?_;rfl';refine xM (Cc rfl) ?_;rfl';refine uH ?_;rfl';refine JH (Bp (i:=2) rfl) ?_;rfl';refine⟨(λe=>by cases e),λ_=>?_⟩
 rfl';refine qM (d:=.int 1) (S:=S) (by kernel_rfl!) ?_
 rfl';refine wB (λ_=>?_) λe=>absurd rfl e;rfl';refine s 9 rfl ?_;rfl';refine wB (λe=>absurd e (by decide)) λ_=>?_
 rfl';refine s 10 rfl ?_;rfl';refine wB (λe=>absurd e (by decide)) λ_=>?_
 rfl';refine qM (d:=.int 2) (S:=S) (by kernel_rfl!) ?_
 exact d9 (d:=.str "number") rfl ⟨rfl,rfl⟩
noncomputable def sq (b:Aq)(ws:Aa D):D:=match b with
 |true=>.tup ws
 |false=>.lst ws
theorem UL (ws:Aa D):wY ws ws=ws.map λx=>D.tup [x,x]:=by
 induction ws with
 |nil=>rfl
 |cons w ws ih=>exact congrArg (D.tup [w,w]::·) ih
theorem rO (F:DF)(b:Aq)(ws:Aa D)(S:Sto)(hw:ws.length<=lim)(ih:∀ x∈ws,F [x,x] S=.ok (.bl true) S):qR 2 (b__law_same F) [sq b ws,sq b ws] S=.ok (.bl true) S:=by
 have t1:zY [sq b ws,.ty "list"] S=.ok (.bl (!b)) S:=by cases b <;> kernel_rfl!
 have t2:zY [sq b ws,.ty "tuple"] S=.ok (.bl b) S:=by cases b <;> kernel_rfl!
 have t3:kY [sq b ws,.tup [.ty "list",.ty "tuple"]] S=.ok (.bl true) S:=by cases b <;> kernel_rfl!
 have l:xA [sq b ws] S=.ok (.int ws.length) S:=by cases b <;> rfl
 have n:∀ x:Aq,gNe (.bl x) (.bl x) S=.ok (.bl false) S:=λx=>by cases x <;> rfl
 have hz:yH (bT (qA (qB 0) (qA (qB 1) (qC)))) [Ab (sq b ws),Ab (sq b ws)] S=.ok (none,ws.map λx=>D.tup [x,x]) S:=by
  rw[<- UL];cases b <;> rfl
 refine zE (z0 (env:=[Ab (sq b ws),Ab (sq b ws)]) rfl ?_);rfl';refine qM (d:=.bl false) (S:=S) (by cases b <;> rfl) ?_
 rfl';refine qM t3 ?_;rfl';refine qM t1 ?_;rfl';refine qM t1 ?_;rfl';refine qM (n _) ?_;rfl';refine uH ?_;rfl';refine qM t2 ?_;rfl';refine qM t2 ?_;rfl';refine qM (n _) ?_;rfl';refine⟨(λe=>by cases e),λ_=>?_⟩
 rfl';refine qM l ?_;rfl';refine qM l ?_;rfl';refine wB (λ_=>?_) λe=>absurd rfl e;rfl';refine v7 ws (λ_=>.bl true) (λenv S'=>S'=S/\∃ a b,env=[a,b]) hz ⟨rfl,none,none,rfl⟩ hw (λ_ _ _=>trivial) (λx hx env S' ⟨e1,a,b,e2⟩=>?_) λenv S' ⟨e1,_⟩=>?_
 .subst e1 e2
  rfl';exact qM (ih x hx) ⟨rfl,rfl,_,_,rfl⟩
 .subst e1
  rfl';exact pY (p:=λ_=>true) ⟨by simp,rfl⟩
theorem bA (F:DF){d:D}(S:Sto)(h1:gIs d .non S=.ok (.bl false) S)(h2:kY [d,.tup [.ty "list",.ty "tuple"]] S=.ok (.bl false) S)(h3:zY [d,.ty "str"] S=.ok (.bl false) S){b:Aq}(h4:zY [d,.ty "bool"] S=.ok (.bl b) S)(h5:zY [d,.ty "int"] S=.ok (.bl true) S)(h6:gEq d d S=.ok (.bl true) S):qR 2 (b__law_same F) [d,d] S=.ok (.bl true) S:=by
 refine zE (z0 (env:=[Ab d,Ab d]) rfl ?_);rfl';refine qM h1 ?_;rfl';refine qM h2 ?_;rfl';refine qM h3 ?_;rfl';refine qM h4 ?_;rfl';refine qM h4 ?_;rfl';refine qM (d:=.bl false) (S:=S) (by cases b <;> rfl) ?_
 rfl';refine pZ ?_;rfl';refine qM h5 ⟨_,rfl,λ_=>?_,λe=>by cases e⟩
 rfl';exact qM h6 ⟨rfl,rfl⟩
def okD:Ai->D->Prop
 |n+1,.tup xs=>xs.length<=lim/\∀ x∈xs,okD n x
 |n+1,.lst xs=>xs.length<=lim/\∀ x∈xs,okD n x
 |_,.int _=>Od
 |_,.bl _=>Od
 |_,_=>Fh
theorem XT:∀ (n:Ai) (d:D) (S:Sto),okD n d->mG (n+1) [d,d] S=.ok (.bl true) S:=by
 intro n
 induction n with
 |zero =>
  intro d S h;cases d with
  |int i=>exact bA _ S rfl (by kernel_rfl!) (by kernel_rfl!) (b:=false) (by kernel_rfl!) (by kernel_rfl!) (zE (NY ⟨by rw[Dk rfl],rfl⟩))
  |bl b=>exact bA _ S rfl (by kernel_rfl!) (by kernel_rfl!) (b:=true) (by kernel_rfl!) (by kernel_rfl!) (by cases b <;> rfl)
  |_=>exact An h
 |succ n ih =>
  intro d S h;cases d with
  |tup ws=>exact rO _ true ws S h.1 λx hx=>ih x S (h.2 x hx)
  |lst ws=>exact rO _ false ws S h.1 λx hx=>ih x S (h.2 x hx)
  |int i=>exact bA _ S rfl (by kernel_rfl!) (by kernel_rfl!) (b:=false) (by kernel_rfl!) (by kernel_rfl!) (zE (NY ⟨by rw[Dk rfl],rfl⟩))
  |bl b=>exact bA _ S rfl (by kernel_rfl!) (by kernel_rfl!) (b:=true) (by kernel_rfl!) (by kernel_rfl!) (by cases b <;> rfl)
  |_=>exact An h
theorem XJ {d:D}(S:Sto)(h:okD 3 d):S__law_same [d,d] S=.ok (.bl true) S:=by
 rw[vK];exact XT 3 d S h
theorem CJ {a:Af}{cv:Aa _L.V}{G:Aa D->DF}{caps:Aa D}(h:env[i]? = Ab (Ab (.clo a cv caps))):kT i (qC) a cv 0 G env S=G caps [] S:=by
 unfold kT;rw[h];show (if a=a/\cv=cv then _ else _)=_
 rw[Bl ⟨rfl,rfl⟩];rfl
theorem o6 {c:Cl}{wd:Ap}{cap:Aa Ai}{fe:DE}(hC:(uR c).contains (.ref C)=true)(hk:∀ S,S__law_kinds c [.exn (.ref C)] S=.ok (.str wd) S){caps:Aa D}(h:bQ cap env=Ab caps){x:D}(e:fe (caps.map Ab) S=.ex (.ref C) x S)(q:Q (.str wd) S):Ok (uT false cap 1 2 (qC) (b__law_refused c (gE fe)) env S) Q:=by
 refine⟨_,_,?_,q⟩;unfold uT;rw[h];show (if 0+1=1 then exO false (uni λa cv=>qR 2 (b__law_refused c (gE fe) a cv) [.clo a cv caps] S) else .bad)=_
 rw[Bl rfl,SQ (R:=.ok (.str wd) S) λa cv=>?_]
 .rfl
 .have e':kT 0 (qC) a cv 0 (gE fe) [Ab (.clo a cv caps),none] S=.ex (.ref C) x S:=(CJ rfl).trans (by unfold gE;exact e)
  refine zE (z0 (env:=[Ab (.clo a cv caps),none]) rfl ?_);refine HF ?_;have k:fE 2 1 (uR c) (xX (kT 0 (qC) a cv 0 (gE fe))) (qX (qO 1 (S__law_kinds c) (qA (qB 1) (qC)))) [Ab (.clo a cv caps),none] S=.rt (.str wd) S:=by
   unfold fE xX;rw[e'];simp only[Res.toS,hC,Dw];have z:qO 1 (S__law_kinds c) (qA (qB 1) (qC)) ((Dg 2 none).set 1 (Ab (.exn (.ref C)))) S=.ok (.str wd) S:=(kQ rfl).trans (hk S);simp only[qX,z,Res.toS]
  rw[k];exact⟨rfl,rfl⟩
theorem F3 (ns:Aa Al)(hl:ns.length<=63)(k:Al){Q:Aa D->Sto->Prop}{env:qF}{S:Sto}(h0:env[0]? = Ab (Ab (.lst (ns.map D.int))))(q:∀ ms:Aa Al,Q (ms.map D.int) S):Ok (xY (d2 zC (xD (qA (qO 2 S__law_cell (qA (qB 0) (qA (dC (.int 0)) (qC)))) (qC))) (dSl (qB 0) (x8 (dC (.int 1))) (x8 (dC (.int k))))) env S) Q:=by
 have hc:∃ x:Al,S__law_cell [.lst (ns.map D.int),.int 0] S=.ok (.int x) S:=by
  rw[kB];cases ns with
  |nil=>exact⟨0,zE (z0 (env:=[Ab (.lst []),Ab (.int 0)]) rfl (by rfl';exact⟨rfl,rfl⟩))⟩
  |cons n ns =>
   refine⟨n,zE (z0 (env:=[Ab (.lst ((n::ns).map D.int)),Ab (.int 0)]) rfl ?_)⟩;rfl';refine wB (λ_=>?_) λe=>absurd (by rw[Av,Bj];omega) e
   rfl';exact d9 (dO (a:=0) (by simp)) ⟨rfl,rfl⟩
 obtain⟨x,hx⟩:=hc;refine B3 (o_2 (E1 (v8 (r0 (v8 (o_v h0 ?_))))));rfl';refine qM hx ?_;rfl';refine o_v h0 ?_;rfl';have hm:zX (ns.map D.int) (Ab 1) (Ab k)=((ns.drop (_H.sIx (ns.map D.int).length 0 (Ab 1))).take (_H.sIx (ns.map D.int).length (ns.map D.int).length (Ab k)-_H.sIx (ns.map D.int).length 0 (Ab 1))).map D.int:=by
  unfold zX;rw[Wh,Rp]
 rw[hm];refine xM ?_ ⟨_,rfl,q (x::_)⟩;rw[Av,El,Hw];show 1+_<=lim;unfold lim;omega
theorem PX (c:Cl){i a b:Al}(S:Sto)(h:a<=i/\i<=b):S_need_within c [.int i,.int a,.int b] S=.ok .non S:=by
 rw[yK];refine zE (z0 (env:=[Ab (.int i),Ab (.int a),Ab (.int b)]) rfl ?_);rfl';refine qM (fD ⟨.int i,rfl⟩ a b S) ?_;rw[show inR a b (.int i)=true from Dk h]
 rfl';exact⟨rfl,rfl⟩
theorem QQ (a:Al)(S:Sto)(h:a.natAbs.log2<1920):jY (.int a) S=.ok (.str (toString a)) S:=by
 unfold jY;simp only[h,Dw]
noncomputable def NU (a b:Al):Aa Ap:=[Lz++("a whole number from " : Ap),Lz++("a whole number from " : Ap)++((toString a:Dx):Ap),Lz++("a whole number from " : Ap)++((toString a:Dx):Ap)++(" to " : Ap),Lz++("a whole number from " : Ap)++((toString a:Dx):Ap)++(" to " : Ap)++((toString b:Dx):Ap),Lz++("a whole number from " : Ap)++((toString a:Dx):Ap)++(" to " : Ap)++((toString b:Dx):Ap)++(" is needed" : Ap)]
noncomputable def JC (a b:Al):Aq:=decide (a.natAbs.log2<1920)&&decide (b.natAbs.log2<1920)&&(NU a b).all λm=>decide (m.length<=lim)
theorem pF {out y:Ap}{p:DE}{ps:Aa DE}{S1:Sto}(h:p env S=.ok (.str y) S1)(hl:(out++y).length<=lim):gC out (p::ps) env S=gC (out++y) ps env S1:=by
 show ((p env S).bind λd S1=>match d with|.str y=>if (out++y).length<=lim then gC (out++y) ps env S1 else .bad|_=>.bad)=_
 rw[h];exact Bl hl
theorem F6 {v:Ac}{y:Ap}(h:f env S=.ok (.str y) S):yE v (qA f (qC)) env S=.ex v .non env S:=by
 unfold yE;rw[Q7 h];show (if ([D.str y]:Aa D).length<=lim then Out.ex v D.non env S else Out.bad)=_
 exact Bl (Cc rfl)
theorem PV (c:Cl){d:D}{a b:Al}(S:Sto)(hm:JC a b=true)(h:Pn d)(k:inR a b d=false):S_need_within c [d,.int a,.int b] S=.ex (.ref c.NoNumber) .non S:=by
 simp only[JC,NU,Mc,List.all_nil,Az,Aa4,Bv] at hm;obtain⟨⟨la,lb⟩,j1,j2,j3,j4,j5⟩:=hm;have hj:lW [dC (.str "a whole number from "),d1 jY (qB 1),dC (.str " to "),d1 jY (qB 2),dC (.str " is needed")] [Ab d,Ab (.int a),Ab (.int b)] S=.ok (.str (Lz++("a whole number from " : Ap)++((toString a:Dx):Ap)++(" to " : Ap)++((toString b:Dx):Ap)++(" is needed" : Ap))) S:=
  (pF rfl j1).trans ((pF (QQ a S la) j2).trans ((pF rfl j3).trans ((pF (QQ b S lb) j4).trans ((pF rfl j5).trans (Bl j5)))))
 rw[yK];refine kL (env:=[Ab d,Ab (.int a),Ab (.int b)]) (env':=[Ab d,Ab (.int a),Ab (.int b)]) rfl ?_;refine UY (zE (ZU (L5 (r0 (v8 (o_v rfl (v8 (o_v rfl (v8 (o_v rfl (mB ⟨rfl,qM ((fD h a b S).trans (by rw[k])) ⟨_,rfl,rfl,rfl⟩⟩))))))))))) ?_
 exact F6 hj
noncomputable def mkD (ms:Aa Al):D:=.tup (ms.map D.int)
noncomputable def upI (ns:Aa Al):Aq:=(ns.zip (ns.drop 1)).all λp=>decide (p.1<p.2)
theorem bC:∀ (ks:Aa Al),upI ks=true↔ks.Pairwise (· < ·)
 |[]=>by simp[upI]
 |[a]=>by simp[upI]
 |a::b::r=>by
  have ih:=bC (b::r);have e:upI (a::b::r)=(decide (a<b)&&upI (b::r)):=by simp[upI]
  rw[e,Az,ih,Cz (a:=a),Bv];constructor
  .rintro⟨h1,h2⟩
   refine⟨λx hx=>?_,h2⟩;rcases Aw.mp hx with rfl|hx
   .exact h1
   .exact Int.lt_trans h1 ((Cz.mp h2).1 x hx)
  .rintro⟨h1,h2⟩
   exact⟨h1 b (by simp),h2⟩
theorem FU (ks ms:Aa Al):wY (ks.map D.int) (ms.map D.int)=(ks.zip ms).map λp=>D.tup [.int p.1,.int p.2]:=by
 unfold wY
 induction ks generalizing ms with
 |nil=>rfl
 |cons k ks ih =>
  cases ms with
  |nil=>rfl
  |cons m ms=>exact congrArg (_::·) (ih ms)
theorem SB (ns:Aa Al)(hl:ns.length<=1000)(S:Sto):S_is_rising [mkD ns] S=.ok (.bl (upI ns)) S:=by
 rw[vL];refine zE (z0 (env:=[Ab (.tup (ns.map D.int))]) rfl ?_);rfl';have hz:yH (bT (qA (qB 0) (qA (dSl (qB 0) (x8 (dC (.int 1))) (xZ)) (qC)))) [Ab (.tup (ns.map D.int))] S=.ok (none,((ns.zip (ns.drop 1)).map λp=>D.tup [.int p.1,.int p.2])) S:=by
  show Res.ok (none,wY (ns.map D.int) (zX (ns.map D.int) (Ab 1) none)) S=_;rw[iH,<- Rp,FU]
 refine v7 (ns.zip (ns.drop 1)) (λp:Al × Al=>.bl (decide (p.1<p.2))) (λenv S'=>S'=S/\∃ a b,env=[a,b]) hz ⟨rfl,none,none,rfl⟩ ?_ (λ_ _ _=>trivial) (λx hx env S' ⟨e1,a,b,e2⟩=>?_) λenv S' ⟨e1,_⟩=>?_
 .rw[Pa]
  unfold lim
  lia
 .subst e1 e2
  rfl';exact qM (d:=.bl (decide (x.1<x.2))) rfl ⟨rfl,rfl,_,_,rfl⟩
 .subst e1
  rfl';exact pY ⟨rfl,rfl⟩
theorem UN (h:xs≠[]):_L.atI xs (-1)=Ab (xs.getLast h):=by
 have hp:=Kg.mpr h;have e:_L.ixN xs.length (-1)=Ab (xs.length-1):=by
  unfold _L.ixN;simp
  lia
 unfold _L.atI;rw[e];show xs[xs.length-1]? = _;rw[List.getLast_eq_getElem,Ar li]
noncomputable def yC:D->Aq
 |.tup xs=>decide (1<=xs.length/\xs.length<=20)&&(xs.all isW&&match zU xs with
  |some ns=>upI ns&&(decide (ns.headD 1=0)&&decide (ns.getLastD 0<=1000))
  |none=>false)
 |_=>false
theorem N6 {d:D}(h:isT d=false):yC d=false:=by
 cases d <;> first|rfl|cases h
theorem tG:∀ {xs:Aa D},xs.all isW=true->∃ ns:Aa Al,xs=ns.map D.int
 |[],_=>⟨[],rfl⟩
 |d::ds,h=>by
  rw[Mc,Az] at h;obtain⟨ns,rfl⟩:=tG h.2;cases d with
  |int i=>exact⟨i::ns,rfl⟩
  |_=>cases h.1
theorem a9 {d:D}(h:Pn d)(S:Sto):S_are_marks [d] S=.ok (.bl (yC d)) S:=by
 rw[kE];refine zE (z0 (env:=[Ab d]) rfl ?_);rfl';refine uH ?_;rfl';refine qM (iS h S) ?_;rfl';refine⟨λe=>?_,λe=>?_⟩
 .rfl'
  exact⟨by rw[N6 (by simpa using e)],rfl⟩
 .cases d with
  |tup xs =>
   rfl';refine tU (b:=(xs.length:Al)) rfl rfl rfl ?_;rfl';refine wB (λz=>?_) λz=>?_
   .have hl:1<=xs.length/\xs.length<=20:=by lia
    rfl';refine uH ?_;rfl';refine v7 (enc:=id) (o:=none) xs (λx=>.bl (isW x)) (λenv S'=>S'=S/\∃ a,env=[a]) ((tH rfl).trans (by rw[Us])) ⟨rfl,none,rfl⟩ (by unfold lim;lia) (λ_ _ _=>trivial) (λx hx env S' ⟨e1,a,e2⟩=>?_) λenv S' ⟨e1,_⟩=>?_
    .subst e1 e2
     rfl';exact qM (aA (rE h x hx) _) ⟨rfl,rfl,_,rfl⟩
    .subst e1
     rfl';refine pY ?_;rfl';refine⟨λha=>?_,λha=>?_⟩
     .rfl'
      refine⟨?_,rfl⟩;have ha:xs.all isW=false:=by simpa using ha
      show _=D.bl (decide (1<=xs.length/\xs.length<=20)&&(xs.all isW&&match zU xs with|some ns=>upI ns&&(decide (ns.headD 1=0)&&decide (ns.getLastD 0<=1000))|none=>false))
      rw[ha,Fm,Ll]
     .have ha:xs.all isW=true:=by simpa using ha
      obtain⟨ns,rfl⟩:=tG ha;rw[Av] at hl;rfl';refine qM (SB ns li _) ?_;have hd:yC (.tup (ns.map D.int))=(upI ns&&(decide (ns.headD 1=0)&&decide (ns.getLastD 0<=1000))):=by
       show (decide (1<=(ns.map D.int).length/\(ns.map D.int).length<=20)&&((ns.map D.int).all isW&&match zU (ns.map D.int) with|some ns=>upI ns&&(decide (ns.headD 1=0)&&decide (ns.getLastD 0<=1000))|none=>false))=_
       rw[Av,Dk hl,ha,xS,Gh,Gh]
      rw[hd];cases hu:upI ns with
      |false =>
       rfl';exact⟨rfl,rfl⟩
      |true =>
       rfl';refine pZ ?_;rfl';obtain⟨a,r,rfl⟩:∃ a r,ns=a::r:=by
        cases ns with
        |nil=>simp at hl
        |cons a r=>exact⟨a,r,rfl⟩
       refine dA (d:=.int a) (dO (a:=0) (by simp)) ?_
       rfl';refine⟨λea=>?_,λea=>?_⟩
       .rfl'
        refine dA (UN (by simp)) ?_
        rw[Zg];rfl';refine⟨?_,rfl⟩;rw[Gh,show decide ((a::r).headD 1=0)=true from ea,Gh,Km]
        congr 2
        rw[Rz]
       .refine⟨?_,rfl⟩
        rw[Gh,show decide ((a::r).headD 1=0)=false from ea,Fm]
   .rfl'
    refine⟨?_,rfl⟩;show _=D.bl (decide (1<=xs.length/\xs.length<=20)&&(xs.all isW&&match zU xs with|some ns=>upI ns&&(decide (ns.headD 1=0)&&decide (ns.getLastD 0<=1000))|none=>false))
    rw[Dd li,Fm]
  |_=>cases e
structure Mk (M:Ai)(ms:Aa Al):Prop where
 hd:ms.head? = Ab 0
 len:ms.length<=M
 up:ms.Pairwise (· < ·)
 le:∀ x∈ms,x<=1000
theorem Mk.ne (h:Mk M ms):ms≠[]:=λe=>by
 have:=h.hd;rw[e] at this;cases this
theorem Mk.ge (h:Mk M ms):∀ x∈ms,0<=x:=λx hx=>by
 cases ms with
 |nil=>cases hx
 |cons a r =>
  have:a=0:=by simpa using h.hd
  subst this;rcases Aw.mp hx with rfl|hx
  .lia
  .have:=(Cz.mp h.up).1 x hx
   lia
theorem oO:∀ {ns:Aa Al} {x:Al},ns.Pairwise (· < ·) -> x∈ns->x<=ns.getLastD 0
 |[],x,_,h=>by cases h
 |[a],x,_,h=>by
  have:x=a:=by simpa using h
  subst this;exact Ms _
 |a::b::r,x,u,h=>by
  rw[Km];have u2:=Cz.mp u;have e:(b::r).getLastD a=(b::r).getLastD 0:=by rw[Km,Km]
  rw[e];rcases Aw.mp h with rfl|h
  .have:=oO u2.2 (.head _)
   have:=u2.1 b (.head _)
   lia
  .exact oO u2.2 h
theorem YN (ns:Aa Al):yC (mkD ns)=(decide (1<=ns.length/\ns.length<=20)&&(upI ns&&(decide (ns.headD 1=0)&&decide (ns.getLastD 0<=1000)))):=by
 show (decide (1<=(ns.map D.int).length/\(ns.map D.int).length<=20)&&((ns.map D.int).all isW&&match zU (ns.map D.int) with|some ns=>upI ns&&(decide (ns.headD 1=0)&&decide (ns.getLastD 0<=1000))|none=>false))=_
 have ha:(ns.map D.int).all isW=true:=by
  rw[Ni];exact Cn.mpr λ_ _=>rfl
 rw[Av,ha,xS,Gh]
theorem GU (hM:M<=20){ms:Aa Al}(h:Mk M ms):yC (mkD ms)=true:=by
 have h1:=Kg.mpr h.ne;have h2:=h.len;rw[YN,Dk ⟨h1,by lia⟩,(bC ms).mpr h.up,Gh,Gh,Az,Bv,Bv]
 refine⟨?_,?_⟩
 .have:=h.hd
  cases ms with
  |nil=>cases this
  |cons a r=>simpa using this
 .refine h.le _ ?_
  cases ms with
  |nil=>exact absurd rfl h.ne
  |cons a r =>
   rw[Km,<- Rz (by simp)]
   exact Sk _
theorem NR {d:D}(h:yC d=true):∃ ms,d=mkD ms/\Mk 20 ms:=by
 cases d with
 |tup xs =>
  have h':(decide (1<=xs.length/\xs.length<=20)&&(xs.all isW&&match zU xs with|some ns=>upI ns&&(decide (ns.headD 1=0)&&decide (ns.getLastD 0<=1000))|none=>false))=true:=h
  rw[Az,Az,Bv] at h';obtain⟨ns,rfl⟩:=tG h'.2.1;have hl:=h'.1;have h2:=h'.2.2;rw[xS] at h2;rw[Av] at hl;simp only[Az,Bv] at h2;have u:=(bC ns).mp h2.1;refine⟨ns,rfl,?_,hl.2,u,λx hx=>Fv (oO u hx) h2.2.2⟩;cases ns with
  |nil=>simp at hl
  |cons a r=>simpa using h2.2.1
 |_=>cases h
theorem dD (ms:Aa Al):Pn (mkD ms):=tZ λx hx=>by
 obtain⟨i,_,rfl⟩:=Dc.mp hx;exact⟨.int i,rfl⟩
theorem gI (c:Cl){M:Ai}(hM:M<=20){ms:Aa Al}(h:Mk M ms)(S:Sto):S_need_marks c [mkD ms] S=.ok .non S:=by
 rw[yU];refine zE (z0 (env:=[Ab (mkD ms)]) rfl ?_);rfl';refine qM (a9 (dD ms) S) ?_;rw[GU hM h];rfl';exact⟨rfl,rfl⟩
theorem m8 (c:Cl){d:D}(S:Sto)(h:Pn d)(k:yC d=false):S_need_marks c [d] S=.ex (.ref c.NoMarks) .non S:=by
 rw[yU];refine kL (env:=[Ab d]) (env':=[Ab d]) rfl ?_;exact UY (zE (ZU (L5 (r0 (v8 (o_v rfl (mB ⟨rfl,qM ((a9 h S).trans (by rw[k])) ⟨_,rfl,rfl,rfl⟩⟩))))))) (VY _ _ _ _)
theorem d8 {d:D}(h:∀ ms,Mk 20 ms->d≠mkD ms):yC d=false:=by
 cases e:yC d with
 |false=>rfl
 |true =>
  obtain⟨ms,e1,h1⟩:=NR e;exact absurd e1 (h ms h1)
theorem ZK {x:D}(hx:x∈xs)(h:inR 0 1000 x=false):yC (.tup xs)=false:=d8 λms hm e=>by
 injection e with e
 subst e;obtain⟨i,hi,rfl⟩:=Dc.mp hx;have:¬ (0<=i/\i<=1000):=Wy h;exact this ⟨hm.ge i hi,hm.le i hi⟩
theorem ZL {xs:Aa Al}(h:¬ xs.Nodup):yC (mkD xs)=false:=d8 λms hm e=>by
 injection e with e
 have:xs=ms:=by
  have:=congrArg zU e;rw[xS,xS] at this;exact Ct this
 subst this;exact h (hm.up.imp λh e=>by lia)
theorem E0 {p q:Pt}(hp:InB 1000 p)(hq:InB 1000 q)(h:Q (.int (far p q)) S):Ok (S_far_between [ptD p,ptD q] S) Q:=by
 unfold InB at hp hq;rw[uP];refine z0 (env:=[Ab (ptD p),Ab (ptD q),none,none]) rfl ?_;rfl';exact h
theorem B5 {l:Aa Pt}(hb:∀ p∈l,InB 1000 p)(hl:l.length<=41)(q:∀ kvs S',GI zH prD S.length (xF l) kvs S'->(∀ m,m<S.length->S'[m]? = S[m]?)->Q (.loc S.length) S'):Ok (S_pairs_by_far [j9 l] S) Q:=by
 rw[u9];refine z0 (env:=[Ab (.tup (l.map ptD)),none,none,none,none]) rfl ?_;rfl';refine nM (λds env S'=>∃ i e2 e3 e4 done kvs,env=[Ab (.tup (l.map ptD)),Ab (.loc S.length),e2,e3,e4]/\ds=eL i ((l.drop i).map ptD)/\GI zH prD S.length done kvs S'/\done++xF (l.drop i)=xF l/\∀ m,m<S.length->S'[m]? = S[m]?) ?_ ?_ ⟨0,_,_,_,[],[],rfl,Y6 _,⟨vM _ _,λ_ h=>(by cases h),Uz,rfl⟩,rfl,λm hm=>Bi hm⟩
 .rintro d ds _ S' ⟨i,e2,e3,e4,done,kvs,rfl,hds,G,hall,hpre⟩
  cases hdr:l.drop i with
  |nil=>rw[hdr] at hds;cases hds
  |cons p rest =>
   rw[hdr] at hds hall;injection hds with h1 h2
   subst h1 h2;have hrest:l.drop (i+1)=rest:=by
    have:=congrArg List.tail hdr;simpa [List.tail_drop] using this
   have hmem:∀ z∈p::rest,z∈l:=λz hz=>Lq (hdr▸hz);rfl';rw[WM,<- Rp,hrest];refine wX (λr env S'=>∃ e4 done kvs,env=[Ab (.tup (l.map ptD)),Ab (.loc S.length),Ab (.int (i:Al)),Ab (ptD p),e4]/\(∀ z∈r,z∈l)/\GI zH prD S.length done kvs S'/\done++(r.map (λz=>(p,z))++xF rest)=xF l/\∀ m,m<S.length->S'[m]? = S[m]?) ?_ ?_ ⟨_,done,kvs,rfl,λz hz=>hmem z (Cd _ hz),G,hall,hpre⟩
   .rintro z r _ S' ⟨e4,done,kvs,rfl,hr,G,hall,hpre⟩
    have hdl:done.length<lim:=by
     have:=congrArg Ol hall;have h3:=RX hl;simp only[Cj] at this;unfold lim
     lia
    obtain⟨j,S1,S2,kvs',f1,f2,f3,G',hp'⟩:=GO G (p,z) hdl;rfl';refine⟨W0 G.dict,?_⟩;rfl';refine E0 (hb p (hmem p (Dj ..))) (hb z (hr z (Dj ..))) ?_;rfl';refine qM f1 ⟨f2,?_⟩;rfl';refine qM f3 ?_;exact yB ⟨_,done++[(p,z)],kvs',rfl,λy hy=>hr y (Cd _ hy),G',by rw[<- hall];simp,λm hm=>(hp' m hm).trans (hpre m hm)⟩
   .rintro _ S' ⟨e4,done,kvs,rfl,hr,G,hall,hpre⟩
    exact yB ⟨i+1,_,_,_,done,kvs,rfl,by rw[hrest],G,by rw[hrest];simpa using hall,hpre⟩
 .rintro _ S' ⟨i,e2,e3,e4,done,kvs,rfl,hds,G,hall,hpre⟩
  rfl';refine q kvs S' ?_ hpre;cases hdr:l.drop i with
  |cons _ _=>rw[hdr] at hds;cases hds
  |nil =>
   rw[hdr] at hall;have:done=xF l:=by simpa [xF] using hall
   rw[<- this];exact G
abbrev PP:=Pt × Pt
noncomputable def fl:Aa PP->Ak (PP × PP)
 |[]=>none
 |x::xs=>match xs.find? (λy=>zH y == zH x) with
  |some y=>Ab (x,y)
  |none=>fl xs
noncomputable def ded (ks:Aa Al):Aa Al:=ks.foldl Bc []
theorem jR (k:Al):∀ (ks l:Aa Al),ks.foldl Bc (k::l)=k::(ks.filter λx=>x != k).foldl Bc l
 |[],l=>rfl
 |x::ks,l=>by
  show ks.foldl Bc (Bc (k::l) x)=_;by_cases hx:x=k
  .subst hx
   rw[bB (.head _),jR x ks l];simp
  .have e:((x::ks).filter λx=>x != k)=x::ks.filter λx=>x != k:=by simp[hx]
   rw[e];show _=k::(ks.filter λx=>x != k).foldl Bc (Bc l x);by_cases hl:x∈l
   .rw[bB (.tail _ hl),bB hl,jR k ks l]
   .rw[gP (by simp[hx,hl]),gP hl]
    exact jR k ks (l++[x])
theorem WW (k:Al)(ks:Aa Al):ded (k::ks)=k::ded (ks.filter λx=>x != k):=by
 show ks.foldl Bc (Bc [] k)=_;rw[gP (by simp)]
 exact jR k ks []
noncomputable def two (g:Aa PP):Ak (PP × PP):=match g with
 |a::b::_=>Ab (a,b)
 |_=>none
theorem sS {α β:Type}{f g:α->Ak β} : ∀ {l:Aa α},(∀ x∈l,f x=g x)->l.findSome? f=l.findSome? g
 |[],_=>rfl
 |x::l,h=>by
  rw[Mi,Mi,h x (.head _),sS λy hy=>h y (.tail _ hy)]
theorem c6:∀ xs:Aa PP,(ded (xs.map zH)).findSome? (λf=>two (xs.filter λx=>zH x == f))=fl xs
 |[]=>rfl
 |x::xs=>by
  rw[Dv,WW,Mi];have e1:((x::xs).filter λz=>zH z == zH x)=x::xs.filter λz=>zH z == zH x:=by simp
  rw[e1];unfold fl;cases q:xs.find? (λy=>zH y == zH x) with
  |some y =>
   have:∃ t,(xs.filter λz=>zH z == zH x)=y::t:=by
    rw[<- List.head?_filter] at q;cases z:(xs.filter λz=>zH z == zH x) with
    |nil=>rw[z] at q;cases q
    |cons a t=>rw[z] at q;cases q;exact⟨t,rfl⟩
   obtain⟨t,ht⟩:=this;rw[ht];rfl
  |none =>
   have hn:∀ y∈xs,zH y≠zH x:=λy hy e=>by
    have:=Na.mp q y hy;exact this (by simpa using e)
   have e2:(xs.filter λz=>zH z == zH x)=[]:=Oc.mpr λz hz=>by simpa using hn z hz
   have e3:((xs.map zH).filter λz=>z != zH x)=xs.map zH:=List.filter_eq_self.mpr λz hz=>by
    obtain⟨y,hy,rfl⟩:=Dc.mp hz;simpa using hn y hy
   rw[e2,e3];show (ded (xs.map zH)).findSome? _=fl xs;rw[<- c6 xs];refine sS λf hf=>?_;have hf':f∈xs.map zH:=by
    rcases bW.mp hf with h|h
    .cases h
    .exact h
   obtain⟨y,hy,rfl⟩:=Dc.mp hf';have:(zH x == zH y)=false:=Iq.mpr (Gb (hn y hy));rw[Za,this];rfl
noncomputable def qD (z:PP × PP):D:=.tup [ptD z.1.1,ptD z.1.2,ptD z.2.1,ptD z.2.2]
noncomputable def flD:Ak (PP × PP)->D
 |some z=>qD z
 |none=>.non
theorem NZ (c:Cl){l:Aa Pt}{M:Ai}(hM:M<=40)(h:Lot M l){S:Sto}(q:∀ S',S<+:S'->Q (flD (fl (xF l))) S'):Ok (S_first_like c [j9 l] S) Q:=by
 have hll:=h.len;obtain⟨_,S1,e1,rfl,kvs,G,hp⟩:=B5 (S:=S) (Q:=λd S'=>d=.loc S.length/\∃ kvs,GI zH prD S.length (xF l) kvs S'/\∀ m,m<S.length->S'[m]? = S[m]?) h.box li λkvs S' G hp=>⟨rfl,kvs,G,hp⟩;have hv:fN (qO 1 S_pairs_by_far (qA (qB 0) (qC))) [Ab (j9 l),none] S=.ok (kvs.map (·.2)) (S1.set S.length .dead):=by
  unfold fN;rw[(kQ (f1:=qB 0) (env:=[Ab (j9 l),none]) (S:=S) rfl).trans e1,Res.bind_ok];show (match S1[S.length]? with|some (.dct kvs)=>Res.ok (kvs.map λkv:_L.Key × D=>kv.2) (S1.set S.length .dead)|_=>.bad)=_
  rw[G.dict]
 have hpre:S<+:S1.set S.length .dead:=D3 λm hm=>by rw[Ch li];exact hp m hm
 rw[jN];refine z0 (env:=[Ab (j9 l),none]) rfl ?_;array_get_dec;array_get_dec;array_get_dec;array_get_dec;array_get_dec;array_get_dec;array_get_dec;refine qM (eJ c S (D2 l) (YM hM h)) ?_;array_get_dec;array_get_dec;array_get_dec;refine qM hv ?_;refine wX (λr env S'=>S'=S1.set S.length .dead/\∃ (e:Ak D) (ks:Aa Al),env=[Ab (j9 l),e]/\(∀ kv∈r,kv∈kvs)/\r.map (·.1)=ks.map Jl/\ks.findSome? (λf=>two ((xF l).filter λx=>zH x == f))=fl (xF l)) ?_ ?_ ⟨rfl,_,_,rfl,λ_ h=>h,G.keys,c6 _⟩
 .rintro kv r _ S' ⟨rfl,e,ks,rfl,hm,hk,hf⟩
  obtain⟨f,j,rfl,h1,h2⟩:=G.lists kv (hm kv (.head _));have h3:(S1.set S.length .dead)[j]? = Ab (.lst (((xF l).filter λx=>zH x == f).map prD)):=by rw[Ch li];exact h2
  cases ks with
  |nil=>cases hk
  |cons f' ks =>
   rw[Dv,Dv] at hk;injection hk with k1 k2
   injection k1 with k1
   subst k1;rw[Mi] at hf;rfl';refine ZS h3 ?_;rfl';rw[Av];refine wB (λz=>?_) λz=>?_
   .cases hg:(xF l).filter λx=>zH x == f with
    |nil=>rw[hg] at z;simp at z
    |cons a g =>
     cases g with
     |nil=>rw[hg] at z;simp at z
     |cons b g =>
      rw[hg] at hf h3;have hf:fl (xF l)=Ab (a,b):=hf.symm;rfl';refine uG h3 (d:=prD a) (dO (a:=0) (by simp)) ?_
      rfl';refine uG h3 (d:=prD b) (dO (a:=1) (by simp)) ?_
      refine v3 (Cc rfl) ?_;refine eA ?_;rfl';have:=q _ hpre;rw[hf] at this;exact this
   .have ht:two ((xF l).filter λx=>zH x == f)=none:=by
     cases hg:(xF l).filter λx=>zH x == f with
     |nil=>rfl
     |cons a g =>
      cases g with
      |nil=>rfl
      |cons b g=>rw[hg] at z;exact absurd (by simp only[Bj];lia) z
    rw[ht] at hf;rfl';exact yB ⟨rfl,_,ks,rfl,λkv hk=>hm kv (.tail _ hk),k2,hf⟩
 .rintro _ S' ⟨rfl,e,ks,rfl,hm,hk,hf⟩
  cases ks with
  |cons _ _=>cases hk
  |nil =>
   rfl';have:=q _ hpre;rw[<- hf] at this;exact this
noncomputable def mkL (ms:Aa Al):Aa Pt:=ms.map λm=>(m,0)
theorem NQ (h:Mk M ms):Lot M (mkL ms):=by
 refine⟨λe=>h.ne (List.map_eq_nil_iff.mp e),by unfold mkL;rw[Av];exact h.len,?_,λq hq=>?_⟩
 .unfold mkL Up
  rw[Ge];refine h.up.imp λ{a b} hab=>?_;unfold ltP;simp[_H.lexLt,hab]
  lia
 .obtain⟨m,hm,rfl⟩:=Dc.mp hq
  have:=h.ge m hm;have:=h.le m hm;exact⟨by show -1000<=m;lia,by show m<=1000;lia,by show (-1000:Al)<=0;lia,by show (0:Al)<=1000;lia⟩
noncomputable def pr:Aa Al->Aa Pt
 |[]=>[]
 |a::r=>r.map (λb=>(a,b))++pr r
noncomputable def em (p:Pt):PP:=((p.1,0),(p.2,0))
theorem eV:∀ ms:Aa Al,xF (mkL ms)=(pr ms).map em
 |[]=>rfl
 |a::r=>by
  show (mkL r).map (λq=>((a,0),q))++xF (mkL r)=_;rw[eV r];show _=(r.map (λb=>(a,b))++pr r).map em;unfold mkL;rw[En,Ht,Ht];rfl
theorem rG:∀ {ms:Aa Al} {p:Pt},ms.Pairwise (· < ·) -> p∈pr ms->p.1<p.2/\p.1∈ms/\p.2∈ms
 |[],p,_,h=>by cases h
 |a::r,p,u,h=>by
  obtain⟨u1,u2⟩:=Cz.mp u;rcases Cq.mp h with h|h
  .obtain⟨b,hb,rfl⟩:=Dc.mp h
   exact⟨u1 b hb,.head _,.tail _ hb⟩
  .obtain⟨h1,h2,h3⟩:=rG u2 h
   exact⟨h1,.tail _ h2,.tail _ h3⟩
theorem oA:∀ {ms:Aa Al},ms.Pairwise (· < ·) -> Up (pr ms)
 |[],_=>.nil
 |a::r,u=>by
  obtain⟨u1,u2⟩:=Cz.mp u;unfold Up pr;rw[Dt];refine⟨?_,oA u2,λx hx y hy=>?_⟩
  .rw[Ge]
   refine u2.imp λ{b c} hbc=>?_;unfold ltP;simp[_H.lexLt,hbc]
   lia
  .obtain⟨b,hb,rfl⟩:=Dc.mp hx
   have:=u1 y.1 (rG u2 hy).2.1;unfold ltP;simp[_H.lexLt,this]
   lia
theorem X1:∀ ms:Aa Al,(pr ms).length<=ms.length*ms.length
 |[]=>Au _
 |a::r=>by
  have ih:=X1 r;unfold pr;rw[Cj,Av,Bj,Nat.add_mul,Nat.mul_add]
  lia
noncomputable def gap (p:Pt):Al:=p.2-p.1
noncomputable def tw:Aa Pt->Ak (Pt × Pt)
 |[]=>none
 |x::xs=>match xs.find? (λy=>gap y == gap x) with
  |some y=>Ab (x,y)
  |none=>tw xs
theorem TZ {x y:Pt}(hx:x.1<x.2)(hy:y.1<y.2):(zH (em y) == zH (em x))=(gap y == gap x):=by
 obtain⟨a,b⟩:=x;obtain⟨c,d⟩:=y;rw[Ts,Oa,Oa];show (c-d)*(c-d)+(0-0)*(0-0)=(a-b)*(a-b)+(0-0)*(0-0)↔d-c=b-a;have hx:a<b:=hx;have hy:c<d:=hy;constructor
 .intro h
  have:(d-c-(b-a))*(d-c+(b-a))=0:=by grind
  rcases Int.mul_eq_zero.mp this with h|h <;> lia
 .intro h
  have:c-d=a-b:=by lia
  rw[this]
theorem UV:∀ (xs:Aa Pt),(∀ x∈xs,x.1<x.2)->fl (xs.map em)=(tw xs).map λz=>(em z.1,em z.2)
 |[],_=>rfl
 |x::xs,h=>by
  have ih:=UV xs λy hy=>h y (.tail _ hy);rw[Dv];unfold fl tw;have e:(xs.map em).find? (λy=>zH y == zH (em x))=(xs.find? λy=>gap y == gap x).map em:=by
   rw[List.find?_map]
   congr 1
   clear ih
   induction xs with
   |nil=>rfl
   |cons y ys ihh =>
    rw[Fy,Fy];have:((λy=>zH y == zH (em x))∘em) y=(gap y == gap x):=TZ (h x (.head _)) (h y (.tail _ (.head _)));rw[this,ihh λz hz=>by
     rcases Aw.mp hz with rfl|hz
     .exact h z (.head _)
     .exact h z (.tail _ (.tail _ hz))]
  rw[e];cases xs.find? λy=>gap y == gap x with
  |some y=>rfl
  |none=>exact ih
noncomputable def twD:Ak (Pt × Pt)->D
 |some z=>.tup [.int z.1.1,.int z.1.2,.int z.2.1,.int z.2.2]
 |none=>.non
theorem F2 (c:Cl){M:Ai}(hM:M<=20){ms:Aa Al}(h:Mk M ms)(S:Sto):S_as_lot c [mkD ms] S=.ok (j9 (mkL ms)) S:=by
 have hl:=h.len;rw[jW];refine zE (z0 (env:=[Ab (.tup (ms.map D.int))]) rfl ?_);rfl';refine qM (gI c hM h S) ?_;rfl';refine v7 (enc:=D.int) (o:=none) ms (λx=>ptD (x,0)) (λenv S'=>S'=S/\∃ a,env=[a]) (tH rfl) ⟨rfl,none,rfl⟩ (by unfold lim;lia) (λ_ _ _=>trivial) (λx hx env S' ⟨e1,a,e2⟩=>?_) λenv S' ⟨e1,_⟩=>?_
 .subst e1 e2
  rfl';exact⟨_,rfl⟩
 .subst e1
  rfl';refine⟨?_,rfl⟩;unfold j9 mkL;rw[Ht];rfl
theorem tV (c:Cl){ms:Aa Al}(h:Mk 20 ms){S:Sto}(q:∀ S',S<+:S'->Q (twD (tw (pr ms))) S'):Ok (S_first_twice c [mkD ms] S) Q:=by
 have hf:fl (xF (mkL ms))=(tw (pr ms)).map λz=>(em z.1,em z.2):=by
  rw[eV,UV _ λx hx=>(rG h.up hx).1]
 rw[yJ];refine z0 (env:=[Ab (mkD ms),none]) rfl ?_;rfl';refine qM (F2 c (Au _) h S) ?_;rfl';refine NZ c li (NQ h) λS1 p1=>?_;rw[hf];rfl';refine CZ ?_;rfl';cases ht:tw (pr ms) with
 |none =>
  refine qM (d:=.bl true) (S:=S1) rfl ?_;rfl';refine⟨λ_=>?_,λe=>by cases e⟩
  rfl';have:=q _ p1;rw[ht] at this;exact this
 |some z =>
  refine qM (d:=.bl false) (S:=S1) rfl ?_;rfl';refine⟨λe=>(by cases e),λ_=>?_⟩
  rfl';refine v7 (enc:=ptD) (o:=none) [((z.1.1,0):Pt),(z.1.2,0),(z.2.1,0),(z.2.2,0)] (λp=>.int p.1) (λenv S'=>S'=S1/\∃ a b,env=[a,b]) rfl ⟨rfl,none,none,rfl⟩ (Cc rfl) (λ_ _ _=>trivial) (λx hx env S' ⟨e1,a,b,e2⟩=>?_) λenv S' ⟨e1,_⟩=>?_
  .subst e1 e2
   rfl';exact⟨_,_,rfl⟩
  .subst e1
   rfl';have:=q _ p1;rw[ht] at this;exact this
theorem V9 (c:Cl){d:D}(S:Sto)(h:Pn d)(k:yC d=false):S_first_twice c [d] S=.ex (.ref c.NoMarks) .non S:=by
 have e1:S_as_lot c [d] S=.ex (.ref c.NoMarks) .non S:=by
  rw[jW];exact kL (env:=[Ab d]) rfl (sJ ((kQ rfl).trans (m8 c S h k)))
 rw[yJ];refine kL (env:=[Ab d,none]) rfl (TX ?_);have e2:qO 1 (S_as_lot c) (qA (qB 0) (qC)) [Ab d,none] S=.ex (.ref c.NoMarks) .non S:=(kQ rfl).trans e1;show ((qA (qO 1 (S_as_lot c) (qA (qB 0) (qC))) (qC) [Ab d,none] S).bind _)=_;have e3:qA (qO 1 (S_as_lot c) (qA (qB 0) (qC))) (qC) [Ab d,none] S=.ex (.ref c.NoMarks) .non S:=by
  show ((qO 1 (S_as_lot c) (qA (qB 0) (qC)) [Ab d,none] S).bind _)=_;rw[e2];rfl
 rw[e3];rfl
theorem mP {b:Aq}(h:f env S=.ok (.bl b) S):yW (dTr f) wQ env S=.ok b S:=by
 unfold yW;rw[HC h];cases b <;> rfl
noncomputable def chS (f:Aa (Aa Al))(x:Al):Aa (Aa Al):=f++(f.filter λl=>decide (l.length<2)).map λl=>l++[x]
structure Cb (done:Aa Al)(f:Aa (Aa Al)):Prop where
 a0:(f.filter λl=>decide (l.length=0))=[[]]
 a1:(f.filter λl=>decide (l.length=1))=done.map λx=>[x]
 a2:(f.filter λl=>decide (l.length=2)).Perm ((pr done).map kP)
 le:f.length<=2 ^ done.length
theorem cV (x:Al):∀ ms:Aa Al,(pr (ms++[x])).Perm (pr ms++ms.map λa=>(a,x))
 |[]=>.refl _
 |a::r=>by
  show (((r++[x]).map λb=>(a,b))++pr (r++[x])).Perm ((r.map λb=>(a,b))++pr r++((a,x)::r.map λa=>(a,x)));rw[En,Cp,Cp];refine Hz _ ?_;show ((a,x)::pr (r++[x])).Perm _;refine((cV x r).cons _).trans ?_;exact List.perm_middle.symm
theorem c5 (f:Aa (Aa Al))(x:Al)(k:Ai)(hk:k<2):((f.filter λl=>decide (l.length<2)).map λl=>l++[x]).filter (λl=>decide (l.length=k+1))=(f.filter λl=>decide (l.length=k)).map λl=>l++[x]:=by
 rw[Zu,List.filter_filter]
 congr 1
 refine List.filter_congr λl _=>?_;simp only[Function.comp,Cj,Bj,Ec];rw[Ts];simp
 lia
theorem K0 {done:Aa Al}{f:Aa (Aa Al)}(h:Cb done f)(x:Al):Cb (done++[x]) (chS f x):=by
 refine⟨?_,?_,?_,?_⟩
 .unfold chS
  rw[Ie,h.a0,Zu];have:(f.filter λl=>decide (l.length<2)).filter ((λl:Aa Al=>decide (l.length=0))∘λl=>l++[x])=[]:=Oc.mpr λl _=>by simp
  rw[this];rfl
 .unfold chS
  rw[Ie,h.a1,c5 f x 0 li,h.a0,En];rfl
 .unfold chS
  rw[Ie,c5 f x 1 li,h.a1];have p:=(cV x done).map kP;refine Mr ?_ p.symm;rw[En];refine h.a2.append ?_;rw[Ht,Ht];exact .refl _
 .unfold chS
  have h1:=h.le;have h2:=Jh (λl:Aa Al=>decide (l.length<2)) f;rw[Cj,Av,Cj,Bj,Ec,Nat.pow_succ]
  lia
theorem VU (hl:ms.length<=20)(hu:ms.Pairwise (· < ·))(S:Sto):S__law_combos [mkD ms,.int 2] S=.ok (.lst ((pr ms).map ptD)) S:=by
 rw[uO];refine zE (z0 (env:=[Ab (.tup (ms.map D.int)),Ab (.int 2),none,none]) rfl ?_);rfl';refine wX (λr env S'=>S'=S/\∃ e3 done f,env=[Ab (.tup (ms.map D.int)),Ab (.int 2),Ab (.lst (f.map tpD)),e3]/\done++r=ms/\Cb done f) ?_ ?_ ⟨rfl,_,[],[[]],rfl,rfl,⟨rfl,rfl,.refl _,Au _⟩⟩
 .rintro x r _ S' ⟨rfl,e3,done,f,rfl,hd,C⟩
  have hfl:f.length<=2 ^ 19:=DL C.le (Vk li (by
   have:=congrArg Ol hd;rw[Cj,Bj] at this
   lia))
  rfl';refine qM (h9 (xs:=f) (enc:=tpD) (o:=none) (NB rfl) trivial (λl=>decide (l.length<2)) (λl=>tpD (l++[x])) (λenv=>∃ a,env=[a,Ab (.int 2),Ab (.int x)]) ⟨none,rfl⟩ (by unfold lim;lia) λl hl env ⟨a,e⟩=>?_) ?_
  .subst e
   refine⟨_,rfl,⟨_,rfl⟩,mP (zE ?_),λ_=>zE ?_⟩
   .rfl'
    refine ZT ?_;rfl';rw[Av];refine⟨?_,rfl⟩
    congr 1
    rw[Sj]
    lia
   .rfl'
    refine v3 ?_ ⟨?_,rfl⟩
    .have:l.length<2:=Cw (by assumption)
     rw[Av];unfold lim;simp only[Bj,Ec]
     lia
    .show D.tup (l.map D.int++[.int x])=D.tup ((l++[x]).map D.int)
     rw[En];rfl
  .refine xM (by
    have:=Jh (λl:Aa Al=>decide (l.length<2)) f;rw[Av,Av];unfold lim
    lia) ?_
   rfl';refine yB ⟨rfl,Ab (.int x),done++[x],chS f x,?_,by rw[<- hd];simp,K0 C x⟩
   have:f.map tpD++(f.filter λl=>decide (l.length<2)).map (λl=>tpD (l++[x]))=(chS f x).map tpD:=by
    unfold chS;rw[En,Ht];rfl
   rw[this]
 .rintro _ S' ⟨rfl,e3,done,f,rfl,hd,C⟩
  have hd:done=ms:=by simpa using hd
  subst hd;have hfl:f.length<=2 ^ 20:=DL C.le (Vk li hl);rfl';refine qM (h9 (xs:=f) (enc:=tpD) (o:=none) (NB rfl) trivial (λl=>decide (l.length=2)) tpD (λenv=>∃ a,env=[a,Ab (.int 2)]) ⟨none,rfl⟩ (by unfold lim;lia) λl hl env ⟨a,e⟩=>?_) ?_
  .subst e
   refine⟨_,rfl,⟨_,rfl⟩,mP (zE ?_),λ_=>rfl⟩;rfl';refine ZT ?_;rfl';rw[Av];refine⟨?_,rfl⟩
   congr 1
   rw[Sj]
   lia
  .rfl'
   have hp:=C.a2;have hs:_S.jH _H.lexLt (f.filter λl=>decide (l.length=2))=(pr done).map kP:=by
    refine _S.tS _S.gL (_S.aP _S.gL _) ?_ ((_S.lK _).trans hp);unfold _S.Nf;rw[Ge];refine(oA hu).imp λ{a b} h=>?_;cases hh:_H.lexLt (kP b) (kP a) with
    |false=>rfl
    |true =>
     have:=_S.gL.tr (show _H.lexLt (kP a) (kP b)=true from h) hh
     rw[_S.gL.irr] at this;cases this
   have hpl:(f.filter λl=>decide (l.length=2)).length<=400:=by
    rw[hp.length_eq,Av];exact DL (X1 _) (wP hl hl)
   refine⟨_,_,?_,rfl,rfl⟩;show (match (Ab ((f.filter λl=>decide (l.length=2)).map tpD)).bind gO with|some ys=>Res.ok (D.lst ys) S'|none=>.bad)=_
   rw[Sl,FE _ li λk hk=>by
    have:=(Ti.mp hk).2;rintro rfl;cases this]
   rw[hs,fY]
theorem YD {ps done r:Aa Pt}{x:Pt}(hd:done++x::r=ps)(hu:Up ps):ps.find? (λy=>ltP x y&&(gap x == gap y))=r.find? λy=>gap y == gap x:=by
 subst hd;obtain⟨_,u2,u3⟩:=Dt.mp hu;obtain⟨u4,_⟩:=Cz.mp u2;have as:∀ {a b:Pt},ltP a b=true->ltP b a=false:=λ{a b} h=>by
  cases hh:ltP b a with
  |false=>rfl
  |true =>
   have:=_S.gL.tr h hh;rw[_S.gL.irr] at this;cases this
 have h1:done.find? (λy=>ltP x y&&(gap x == gap y))=none:=Na.mpr λy hy=>by
  rw[as (u3 y hy x (.head _))];simp
 have h2:∀ r:Aa Pt,(∀ y∈r,ltP x y=true)->r.find? (λy=>ltP x y&&(gap x == gap y))=r.find? λy=>gap y == gap x:=by
  intro r
  induction r with
  |nil=>intro _;rfl
  |cons y r ih =>
   intro u;rw[Fy,Fy,u y (.head _),Gh,show (gap x == gap y)=(gap y == gap x) from BEq.comm,ih λz hz=>u z (.tail _ hz)]
 rw[List.find?_append,h1,Option.none_or,Fy,show ltP x x=false from _S.gL.irr _,Fm]
 exact h2 r u4
theorem VW (h:Mk 20 ms)(S:Sto):S__law_twice [mkD ms] S=.ok (twD (tw (pr ms))) S:=by
 have hu:=oA h.up;rw[jM];refine zE (z0 (env:=[Ab (mkD ms),none,none,none]) rfl ?_);rfl';refine qM (VU h.len h.up S) ?_;rfl';refine wX (λr env S'=>S'=S/\∃ e2 e3 done,env=[Ab (mkD ms),Ab (.lst ((pr ms).map ptD)),e2,e3]/\done++r=pr ms/\tw r=tw (pr ms)) ?_ ?_ ⟨rfl,_,_,[],rfl,rfl,rfl⟩
 .rintro x r _ S' ⟨rfl,e2,e3,done,rfl,hd,ht⟩
  have hf:=YD hd hu;rfl';refine wX (λr2 env S''=>S''=S'/\∃ e3,env=[Ab (mkD ms),Ab (.lst ((pr ms).map ptD)),Ab (ptD x),e3]/\r2.find? (λy=>ltP x y&&(gap x == gap y))=r.find? λy=>gap y == gap x) ?_ ?_ ⟨rfl,_,rfl,hf⟩
  .rintro y r2 _ S'' ⟨rfl,e3,rfl,hf⟩
   rw[Fy] at hf;rfl';refine NW ?_;rfl';refine qM (d:=.bl (ltP x y)) (S:=S'') (JA (kP x) (kP y) S'') ?_;rfl';refine⟨λe1=>?_,λe1=>?_⟩
   .rfl'
    show Wo _ (cD (decide (gap x=gap y)) _ _ _ _);refine wB (λe2=>?_) λe2=>?_
    .have hg:(gap x == gap y)=true:=by simpa using e2
     rw[e1,hg,Gh] at hf;rfl';refine v3 (Cc rfl) ?_;refine eA (eA ?_);rfl';refine⟨?_,rfl⟩;rw[<- ht];unfold tw;rw[<- hf];rfl
    .have hg:(gap x == gap y)=false:=by simpa using e2
     rw[e1,hg,Ll] at hf;rfl';exact yB ⟨rfl,_,rfl,hf⟩
   .rw[e1,Fm] at hf
    rfl';exact yB ⟨rfl,_,rfl,hf⟩
  .rintro _ S'' ⟨rfl,e3,rfl,hf⟩
   refine yB ⟨rfl,_,_,done++[x],rfl,by rw[<- hd];simp,?_⟩
   rw[<- ht]
   conv=>rhs;unfold tw
   rw[<- hf];rfl
 .rintro _ S' ⟨rfl,e2,e3,done,rfl,hd,ht⟩
  rfl';refine⟨?_,rfl⟩;rw[<- ht];rfl
noncomputable def rs (ms:Aa Al)(m:Al):Aa Al:=ms.flatMap λx=>(ms.filter λy=>x != y).map λy=>(x-y) % m
noncomputable def ub (ms:Aa Al)(m:Al):Aq:=!(rs ms m).contains 0&&decide (((iK (rs ms m):Ai):Al)=((rs ms m).length:Al))
theorem XS (ms:Aa Al)(m:Al)(hl:ms.length<=20):(rs ms m).length<=400:=by
 have:∀ l:Aa Al,(l.flatMap λx=>(ms.filter λy=>x != y).map λy=>(x-y) % m).length<=l.length*20:=by
  intro l
  induction l with
  |nil=>simp
  |cons x l ih =>
   rw[Ju,Cj,Av,Bj];have:=Jh (λy=>x != y) ms
   lia
 have h:=this ms;unfold rs
 lia
theorem JI (h:Ok (f env S) λd S1=>∃ ns:Aa Al,iZ d S1=Ab (ns.map D.int)/\ns.length<4000/\Q (.int (iK ns:Ai)) S1):Ok (uU f env S) Q:=qW (zI h λd S1 ⟨ns,e,l,q⟩=>⟨_,_,by rw[e,Sl,xS];exact Bl l,q⟩)
theorem D1 (ns:Aa Al):(ns.map D.int).all (pl zW)=true:=by
 rw[Ni];exact Cn.mpr λ_ _=>rfl
theorem cS (ns:Aa Al)(S:Sto):uZ (.int 0) (.lst (ns.map D.int)) S=.ok (.bl (!ns.contains 0)) S:=by
 have e:inI (.int 0) (.lst (ns.map D.int))=Ab (ns.contains 0):=by
  show (if ((ns.map D.int).all (pl zW)&&pl zW (.int 0))=true then Ab ((ns.map D.int).any λx=>eqD x (.int 0)) else none)=_
  rw[D1,show (true&&pl zW (D.int 0))=true from rfl,Bl rfl]
  congr 1
  rw[Sr]
  induction ns with
  |nil=>rfl
  |cons n ns ih =>
   rw[Jq,ih,List.contains_cons]
   congr 1
   show (n == 0)=(0 == n);exact BEq.comm
 unfold uZ;rw[e]
theorem ET (ns:Aa Al)(hl:ns.length<4000)(S:Sto):S_are_all_unlike [.lst (ns.map D.int)] S=.ok (.bl (decide (((iK ns:Ai):Al)=(ns.length:Al)))) S:=by
 rw[vJ];refine zE (z0 (env:=[Ab (.lst (ns.map D.int))]) rfl ?_);array_get_dec;array_get_dec;refine JI ?_;refine o_v rfl ⟨ns,rfl,hl,?_⟩;rfl';rw[Av];exact⟨rfl,rfl⟩
theorem XM (c:Cl){ms:Aa Al}(h:Mk 20 ms){m:Al}(hm:1<=m/\m<=1000000)(S:Sto):S_unlike_by c [mkD ms,.int m] S=.ok (.bl (ub ms m)) S:=by
 have hl:=XS ms m h.len;rw[wZ];refine zE (z0 (env:=[Ab (.tup (ms.map D.int)),Ab (.int m),none]) rfl ?_);rfl';refine qM (gI c (Au _) h S) ?_;rfl';refine qM (d:=.int 1000000) rfl ?_;rfl';refine qM (PX c S hm) ?_;rfl';refine qM (K9 (xs:=ms) (enc:=D.int) (enc2:=D.int) (o:=none) (o2:=none) (tH rfl) trivial trivial (λ_=>ms) (λx y=>x != y) (λx y=>.int ((x-y) % m)) (λenv=>∃ a b,env=[a,b,Ab (.int m),Ab (.tup (ms.map D.int))]) (λx env=>∃ b,env=[Ab (.int x),b,Ab (.int m),Ab (.tup (ms.map D.int))]) ⟨none,none,rfl⟩ (λx env ⟨b,e⟩=>⟨_,_,e⟩) ?_ (λx hx env ⟨a,b,e⟩=>?_) λx hx y hy env ⟨b,e⟩=>?_) ?_
 .have:(ms.flatMap λx=>(ms.filter λy=>x != y).map λy=>D.int ((x-y) % m)).length=(rs ms m).length:=by
   unfold rs;simp only[List.length_flatMap,Av]
  rw[this];unfold lim
  lia
 .subst e
  exact⟨_,rfl,⟨_,rfl⟩,rfl,tH rfl⟩
 .subst e
  refine⟨_,rfl,⟨_,rfl⟩,mP (zE ?_),λ_=>zE ?_⟩
  .rfl'
   exact rfl
  .rfl'
   exact rfl
 .have e:(ms.flatMap λx=>(ms.filter λy=>x != y).map λy=>D.int ((x-y) % m))=(rs ms m).map D.int:=by
   unfold rs;rw[List.map_flatMap];simp only[Ht];rfl
  rw[e];rfl';refine pZ ?_;rfl';refine qM (cS _ S) ?_;refine⟨_,rfl,λz=>?_,λz=>?_⟩
  .rfl'
   refine qM (ET _ li S) ⟨?_,rfl⟩;unfold ub;rw[z,Gh]
  .unfold ub
   rw[z,Fm];exact⟨rfl,rfl⟩
theorem ZQ (c:Cl){d e:D}(S:Sto)(h:Pn d)(k:yC d=false):S_unlike_by c [d,e] S=.ex (.ref c.NoMarks) .non S:=by
 rw[wZ];exact kL (env:=[Ab d,Ab e,none]) rfl (sJ ((kQ rfl).trans (m8 c S h k)))
theorem ZR (c:Cl){ms:Aa Al}(hk:Mk 20 ms){d:D}(S:Sto)(h:Pn d)(k:inR 1 1000000 d=false):S_unlike_by c [mkD ms,d] S=.ex (.ref c.NoNumber) .non S:=by
 rw[wZ];refine kL (env:=[Ab (mkD ms),Ab d,none]) rfl ((LI ((kQ rfl).trans (gI c (Au _) hk S))).trans (sJ ?_));exact(R4 (a:=d) (b:=.int 1) (c:=.int 1000000) rfl rfl rfl).trans (PV c S (kd) h k)
theorem F4 (h:Mk 20 ms){m:Al}(hm:1<=m/\m<=1000000){S:Sto}(q:∀ S',S<+:S'->Q (.bl (ub ms m)) S'):Ok (S__law_unlike_by [mkD ms,.int m] S) Q:=by
 have hl:=XS ms m h.len;have hml:=h.len;rw[vI];refine z0 (env:=[Ab (.tup (ms.map D.int)),Ab (.int m),none,none,none]) rfl ?_;rfl';refine wX (λr env S'=>∃ (e3 e4:Ak D) (ns:Aa Al),env=[Ab (.tup (ms.map D.int)),Ab (.int m),Ab (.loc S.length),e3,e4]/\S'=S++[.lst (ns.map D.int)]/\ns++(r.flatMap λx=>(ms.filter λy=>x != y).map λy=>(x-y) % m)=rs ms m) ?_ ?_ ⟨_,_,[],rfl,rfl,rfl⟩
 .rintro x r _ _ ⟨e3,e4,ns,rfl,rfl,hd⟩
  rfl';refine wX (λr2 env S'=>∃ (e4:Ak D) (ns:Aa Al),env=[Ab (.tup (ms.map D.int)),Ab (.int m),Ab (.loc S.length),Ab (.int x),e4]/\S'=S++[.lst (ns.map D.int)]/\ns++(((r2.filter λy=>x != y).map λy=>(x-y) % m)++(r.flatMap λx=>(ms.filter λy=>x != y).map λy=>(x-y) % m))=rs ms m) ?_ ?_ ⟨_,ns,rfl,rfl,hd⟩
  .rintro y r2 _ _ ⟨e4,ns,rfl,rfl,hd⟩
   have hn:ns.length<=400:=by
    have:=congrArg Ol hd;rw[Cj] at this
    lia
   rfl';refine wB (λe=>?_) λe=>?_
   .subst e
    rfl';refine yB ⟨_,ns,rfl,rfl,?_⟩;rw[<- hd,List.filter_cons_of_neg (by simp)]
   .rfl'
    refine⟨oN (vM _ _),?_⟩;rfl';refine JF (vM _ _) (by rw[Av];unfold lim;lia) ?_
    rw[U5];rfl';refine yB ⟨_,ns++[(x-y) % m],rfl,by rw[En];rfl,?_⟩
    rw[<- hd,List.filter_cons_of_pos (by simpa using e)]
    simp
  .rintro _ _ ⟨e4,ns,rfl,rfl,hd⟩
   exact yB ⟨_,_,ns,rfl,rfl,hd⟩
 .rintro _ _ ⟨e3,e4,ns,rfl,rfl,hd⟩
  have hd:ns=rs ms m:=by simpa using hd
  subst hd;rfl';refine pZ ?_;rfl';refine L0 (x:=.int 0) (y:=.lst ((rs ms m).map D.int)) (z:=.bl (!(rs ms m).contains 0)) rfl (U1 (vM _ _) λx hx=>?_) (cS _ _) rfl ?_
  .obtain⟨i,_,rfl⟩:=Dc.mp hx
   rfl
  refine⟨_,rfl,λz=>?_,λz=>?_⟩
  .array_get_dec
   refine JI ?_;refine o_v rfl ⟨rs ms m,?_,by lia,?_⟩
   .exact FC (vM _ _)
   rfl';refine ZS (vM _ _) ?_;rfl';rw[Av];have:=q (S++[.lst ((rs ms m).map D.int)]) (Jc _ _);unfold ub at this;rw[z,Gh] at this;exact this
  .have:=q (S++[.lst ((rs ms m).map D.int)]) (Jc _ _)
   unfold ub at this;rw[z,Fm] at this;exact this
theorem RV {n:Ai}(e:env[i]? = Ab (Ab (.int (n:Al))))(h:n<=1000000):yH (bS (qA (qB i) qC)) env S=.ok (none,(De n).map λ(i:Ai)=>D.int (i:Al)) S:=zE (qW (E4 (v8 (o_v e (mB ⟨_,JP n h,_,_,rfl,rfl,rfl⟩)))))
theorem J2 {k:Al}(e:env[i]? = Ab (Ab (.int k)))(h:0<=k/\k<=1000000):yH (bS (qA (qB i) qC)) env S=.ok (none,(De k.toNat).map λ(i:Ai)=>D.int (i:Al)) S:=RV (by rw[Int.toNat_of_nonneg h.1];exact e) li
theorem PU {n:Ai}{k:Al}(hn:n+1<=M)(hM:M<=20)(hk:1<=k/\k<=50):Mk M ((De (n+1)).map λ(i:Ai)=>(i:Al)*k):=by
 have hb:∀ i:Ai,i<20->(i:Al)*k<=1000:=λi hi=>by
  have:=wS (show (i:Al)<=19 by lia) hk.2 li li
  lia
 refine⟨?_,by simpa using hn,?_,λx hx=>?_⟩
 .rw[Ks,Dv]
  simp
 .rw[Ge]
  refine Tt.imp λ{a b} h=>?_;have h1:(a:Al)+1<=b:=by lia
  have h2:=Int.mul_le_mul_of_nonneg_right h1 (show 0<=k by lia)
  rw[Int.add_mul] at h2
  lia
 .obtain⟨i,hi,rfl⟩:=Dc.mp hx
  exact hb i (by have:=Fk.mp hi;lia)
noncomputable def told:Aa (Aa Al):=[[0,1,4,6],[0,1,4,9,11],[0,2,5,6],[0,1,3,9],[0,1,4,14,16]]
noncomputable def mkB (ms:Aa Al):Aq:=decide (ms.head? = Ab 0)&&upI ms&&ms.all λx=>decide (x<=1000)
theorem cR {n:Ai}(h:mkB ms=true)(hn:1<=n/\n<=M):Mk M (ms.take n):=by
 unfold mkB at h;simp only[Az,Bv,Cn] at h;obtain⟨⟨h1,h2⟩,h3⟩:=h;refine⟨?_,by rw[El];lia,((bC _).mp h2).sublist (Qw _ _),λx hx=>h3 x (Ls hx)⟩
 cases ms with
 |nil=>cases h1
 |cons a r =>
  obtain⟨m,rfl⟩:∃ m,n=m+1:=⟨n-1,by lia⟩
  exact h1
theorem Q3 (xs:Aa D)(n:Ai):zX xs none (Ab (n:Al))=xs.take n:=by
 unfold zX;have h1:_H.sIx xs.length 0 none=0:=rfl;have h2:_H.sIx xs.length xs.length (Ab (n:Al))=min n xs.length:=by
  show (if (n:Al)<0 then ((n:Al)+(xs.length:Al)).toNat else min (n:Al).toNat xs.length)=_
  rw[Bm li,Ez]
 rw[h1,h2,Nat.sub_zero,List.drop_zero];rcases Nat.le_total n xs.length with h|h
 .rw[Pb h]
 .rw[Zf h,Gm h,Gm (Au _)]
theorem eO (ns:Aa Al)(l:ns.length<=1000):jG (ns.map D.int)=Ab ((_S.srt _S.ltI ns).map D.int):=by
 unfold jG;rw[xS];exact Bl (DL (aQ _ _) l)
theorem E5 (h:Ok (f env S) λd S1=>∃ ns:Aa Al,nG d S1=Ab (ns.map D.int)/\ns.length<=1000/\Q (.lst ((_S.srt _S.ltI ns).map D.int)) S1):Ok (jQ false f env S) Q:=qW (zI h λd S1 ⟨ns,e,l,q⟩=>⟨_,_,by rw[e,Sl,eO ns l];rfl,q⟩)
theorem V7 {ns:Aa Al}(h:∀ x∈ns,1<=x/\x<=1000)(hM:1<=M):Mk M (0::(_S.srt _S.ltI ns).take (M-1)):=by
 have hm:∀ x∈(_S.srt _S.ltI ns).take (M-1),1<=x/\x<=1000:=λx hx=>h x ((_S.uM _S.VD x ns).mp (Ls hx));refine⟨rfl,by rw[Bj,El];lia,Cz.mpr ⟨λx hx=>by have:=hm x hx;lia,?_⟩,λx hx=>?_⟩
 .refine((_S.pJ _S.VD ns).imp λ{a b} h=>?_).sublist (Qw _ _)
  exact Cw h
 .rcases Aw.mp hx with rfl|hx
  .lia
  .exact(hm x hx).2
theorem B4 {p:Ai}(hM:1<=M/\M<=20){S:Sto}(h:uA S p)(q:∀ ms S1,Kp p S S1->Mk M ms->Q (mkD ms) S1):Ok (S__law_marks [.loc p,.int (M:Al)] S) Q:=by
 rw[jL];refine z0 (env:=[Ab (.loc p),Ab (.int (M:Al)),none,none,none,none,none,none]) rfl ?_;rfl';refine wH h li λway S1 k1 h1=>?_;rfl';refine wH k1.pen li λn S2 k2 h2=>?_;rfl';generalize hN:(1:Al)+(n:Al)=N;refine wH k2.pen li λst S3 k3 h3=>?_;rfl';refine wH k3.pen li λw S4 k4 h4=>?_;rfl';refine m9 (show w<3 by lia) λd hd=>?_
 obtain⟨wd,rfl,hw⟩:∃ wd:Al,d=.int wd/\1<=wd/\wd<=1000:=by
  simp only[Aw,Dl,Hg] at hd;rcases hd with rfl|rfl|rfl
  .exact⟨_,rfl,by lia,by lia⟩
  .exact⟨_,rfl,by lia,by lia⟩
  .exact⟨_,rfl,by lia,by lia⟩
 have K4:=((k1.trans k2).trans k3).trans k4;rfl';by_cases e:(way:Al)=0
 .rw[Dk e]
  rfl';refine v7 (enc:=λ(i:Ai)=>D.int (i:Al)) (o:=none) (De N.toNat) (λi=>.int ((i:Al)*(1+(st:Al)))) (λenv S'=>S'=S4/\∃ a,env=[a,Ab (.int (1+(st:Al)))]) (J2 (k:=N) rfl li) ⟨rfl,none,rfl⟩ (by rw[Jt];unfold lim;lia) (λ_ _ _=>trivial) (λx hx env S' ⟨e1,a,e2⟩=>?_) λenv S' ⟨e1,_⟩=>?_
  .subst e1 e2
   have:=Fk.mp hx;rfl';exact⟨_,rfl⟩
  .subst e1
   rfl';have:=q ((De N.toNat).map λ(i:Ai)=>(i:Al)*(1+(st:Al))) S' K4 (by
    rw[show N.toNat=n+1 by lia]
    exact PU li hM.2 li)
   unfold mkD at this;rw[Ht] at this;exact this
 .rw[Dd e]
  rfl';by_cases e:(way:Al)=1
  .rw[Dk e]
   rfl';obtain⟨j,hj⟩:=Ta (Kt (1+(st:Al)) (show (5:Al)≠0 by lia))
   have hj5:=Jd (1+(st:Al)) (show (0:Al)<5 by lia)
   rw[hj];refine m9 (show j<5 by lia) λd hd=>?_
   obtain⟨t,ht,rfl⟩:=Dc.mp (show d∈told.map mkD from hd)
   have hb:mkB t=true:=Cn.mp (show told.all mkB=true from kd) t ht
   unfold mkD;rfl';rw[show N=((n+1:Ai):Al) by lia,Q3,<- Wh]
   exact q (t.take (n+1)) S4 K4 (cR hb li)
  .rw[Dd e]
   rfl';refine E5 ?_;refine B0 (enc:=λ(i:Ai)=>D.int (i:Al)) (o:=none) (De N.toNat) (λd=>∃ x:Al,d=.int x/\1<=x/\x<=1000) (λenv S'=>Kp p S S'/\∃ a,env=[a,Ab (.loc p),Ab (.int wd)]) (J2 (k:=N) rfl li) ⟨K4,none,rfl⟩ (by rw[Jt];unfold lim;lia) (λ_ _ _=>trivial) (λx hx env S' ⟨K,a,e2⟩=>?_) λds env S' hl hR ⟨K,_⟩=>?_
   .subst e2
    rfl';refine wH K.pen li λr S6 k6 h6=>?_;rfl';exact⟨⟨_,rfl,by lia,by lia⟩,K.trans k6,_,rfl⟩
   .obtain⟨ns,rfl,hn⟩:∃ ns:Aa Al,ds=ns.map D.int/\∀ x∈ns,1<=x/\x<=1000:=by
     clear hl
     induction ds with
     |nil=>exact⟨[],rfl,λ_ h=>by cases h⟩
     |cons d ds ih =>
      obtain⟨ns,rfl,h1⟩:=ih λd hd=>hR d (.tail _ hd);obtain⟨x,rfl,h2⟩:=hR d (.head _);exact⟨x::ns,rfl,λy hy=>by
       rcases Aw.mp hy with rfl|hy
       .exact h2
       .exact h1 y hy⟩
    rw[Av,Jt] at hl;refine⟨ns,rfl,by lia,?_⟩
    rfl';rw[show (M:Al)-1=((M-1:Ai):Al) by lia,Q3,<- Wh]
    have hlen:((_S.srt _S.ltI ns).take (M-1)).length<=20:=by rw[El];lia
    refine v3 (by rw[Av];unfold lim;show 1+_<=_;lia) ?_
    exact q (0::(_S.srt _S.ltI ns).take (M-1)) S' K (V7 hn hM.1)
def NoM (d:D):Prop:=Pn d/\yC d=false
def NoN (a b:Al)(d:D):Prop:=Pn d/\inR a b d=false
theorem NS (h:20<xs.length):yC (.tup xs)=false:=d8 λms hm e=>by
 injection e with e
 subst e;have:=hm.len;rw[Av] at h
 lia
theorem PQ:yC (.tup (.int 1::xs))=false:=d8 λms hm e=>by
 have:=hm.hd;injection e with e
 cases ms with
 |nil=>cases e
 |cons a r =>
  injection e with e _
  injection e with e
  subst e;cases this
noncomputable def VB:Aa D:=[.int (-1),.int 1001,.bl true,.non,.str "1",.tup [.int 1],.bl false,.int 100000000000000000000000000000]
theorem B8:∀ d∈VB,NoN 0 1000 d:=by
 intro d hd;simp only[VB,Aw,Dl,Hg] at hd;rcases hd with rfl|rfl|rfl|rfl|rfl|rfl|rfl|rfl <;> exact⟨⟨_,rfl⟩,rfl⟩
theorem L4 (q:Q (.tup ((De 21).map λ(i:Ai)=>D.int (i:Al))) S):Ok (lX true (qA (dC (.int 21)) (qC)) env S) Q:=
 qW (v8 (o_c (mB ⟨.tup ((De 21).map λ(i:Ai)=>D.int (i:Al)),_,by
  rw[show jE [D.int 21]=Ab ((De 21).map λ(i:Ai)=>D.int (i:Al)) from JP 21 li]
  exact Bl (Cc rfl),q⟩)))
theorem b0 (ms:Aa Al):∀ x∈ms.map D.int,Pn x:=λx hx=>by
 obtain⟨i,_,rfl⟩:=Dc.mp hx;exact⟨.int i,rfl⟩
theorem o4 {p:Ai}(hM:M<=20){ms:Aa Al}(hk:Mk M ms){S:Sto}(h:uA S p):Ok (S__law_no_marks [.loc p,mkD ms] S) λd S1=>NoM d/\Kp p S S1:=by
 rw[vX];refine z0 (env:=[Ab (.loc p),Ab (.tup (ms.map D.int)),none,none,none,none,none]) rfl ?_;have n0:0<(ms.map D.int).length:=by rw[Av];exact Kg.mpr hk.ne
 have n1:(ms.map D.int).length<=20:=by rw[Av];have:=hk.len;lia
 rfl';refine wH h li λw S1 k1 hw=>?_;rfl';refine wH k1.pen li λa S2 k2 ha=>?_;rfl';refine qM (d:=.int 100000000000000000000000000000) rfl ?_;rfl';refine wH k2.pen li λb S3 k3 hb=>?_;refine m9 (a:=VB) (show b<8 by lia) λo ho=>?_
 have on:=B8 o ho;rfl';rw[MJ _ a li];refine v3 (by simp only[El,Bj,Ec];unfold lim;lia) ?_
 rfl';rw[show (a:Al)+1=((a+1:Ai):Al) by lia,MI _ (a+1) li]
 refine v3 (by simp only[Cj,El,Hw,Bj,Ec];unfold lim;lia) ?_
 have hb:NoM (.tup ((ms.map D.int).take a++[o]++(ms.map D.int).drop (a+1))):=by
  refine⟨tZ λx hx=>?_,ZK (x:=o) (by simp) on.2⟩
  rcases Cq.mp hx with hx|hx
  .rcases Cq.mp hx with hx|hx
   .exact b0 ms x (Ls hx)
   .rw[Dq.mp hx];exact on.1
  .exact b0 ms x (Lq hx)
 generalize D.tup ((ms.map D.int).take a++[o]++(ms.map D.int).drop (a+1))=bn at hb;rfl';refine L3 (k:=4) ⟨Cc rfl,by lia⟩ ?_
 rfl';rw[iH];refine v3 (by simp only[Hw,Bj,Ec];unfold lim;lia) ?_
 rfl';refine xM (Cc rfl) ?_;rfl';obtain⟨l',z,hz⟩:∃ l' z,ms=l'++[z]:=by
  rcases List.eq_nil_or_concat ms with z|⟨l',z,e⟩
  .exact absurd z hk.ne
  .exact⟨l',z,by rw[e,List.concat_eq_append]⟩
 have lc:zX (ms.map D.int) (Ab (-1)) none=[.int z]:=by
  rw[hz,En];exact KB _ _
 rw[lc];refine v3 (by simp only[Bj,Ec];unfold lim;lia) ?_
 rfl';refine L4 ?_;rfl';refine v3 (by simp only[Bj,Ec];unfold lim;lia) ?_
 rfl';refine xM (Cc rfl) ?_;rfl';refine xM (Cc rfl) ?_;rfl';refine m9 (show w<15 by lia) λd hd=>?_
 rfl';refine⟨?_,(k1.trans k2).trans k3⟩;simp only[Go,List.replicate_zero,Ih,List.flatten_nil,Lu,Gw,Fx,Aw,Dl,Hg] at hd;rcases hd with rfl|rfl|rfl|rfl|rfl|rfl|rfl|rfl|rfl|rfl|rfl|rfl|rfl|rfl|rfl
 .exact hb
 .exact hb
 .exact hb
 .exact hb
 .exact⟨⟨_,rfl⟩,rfl⟩
 .exact⟨⟨_,rfl⟩,rfl⟩
 .exact⟨A6 (b0 ms),rfl⟩
 .refine⟨tZ λx hx=>?_,PQ⟩
  rcases Aw.mp hx with rfl|hx
  .exact⟨_,rfl⟩
  .exact b0 ms x (Lq hx)
 .exact⟨⟨_,rfl⟩,rfl⟩
 .exact⟨⟨_,rfl⟩,rfl⟩
 .exact⟨⟨_,rfl⟩,rfl⟩
 .have e:D.tup (ms.map D.int++[.int z])=mkD (ms++[z]):=by
   unfold mkD;rw[En];rfl
  rw[e];refine⟨dD _,ZL ?_⟩;rw[Jr];exact λh=>h.2.2 z (by rw[hz];simp) z (by simp) rfl
 .refine⟨tZ λx hx=>?_,NS (by simp)⟩
  obtain⟨i,_,rfl⟩:=Dc.mp hx;exact⟨.int i,rfl⟩
 .have e:D.tup (ms.map D.int++[.int 0])=mkD (ms++[0]):=by
   unfold mkD;rw[En];rfl
  rw[e];refine⟨dD _,ZL ?_⟩;rw[Jr];refine λh=>h.2.2 0 ?_ 0 (by simp) rfl
  have:=hk.hd;exact List.mem_of_head? this
 .exact⟨tZ λx hx=>by rw[Dq.mp hx];exact dD ms,ZK (x:=.tup (ms.map D.int)) (by simp) rfl⟩
theorem eK {p:Ai}{a b:Al}(hab : -1000000000<=a/\a<=b/\b<=1000000000/\0<=b /\ -b-1<a)(h:uA S p):Ok (S__law_no_number [.loc p,.int a,.int b] S) λd S1=>NoN a b d/\Kp p S S1:=by
 rw[vH];refine z0 (env:=[Ab (.loc p),Ab (.int a),Ab (.int b),none]) rfl ?_;rfl';refine qM (d:=.int 1000000000) rfl ?_;rfl';refine wH h li λw S1 k1 hw=>?_;rfl';refine xM (Cc rfl) ?_;rfl';refine qM (d:=.int 100000000000000000000000000000) rfl ?_;rfl';refine xM (Cc rfl) ?_;rfl';refine wH k1.pen li λw2 S2 k2 hw2=>?_;rfl';refine m9 (show w2<12 by lia) λd hd=>?_
 rfl';refine⟨?_,k1.trans k2⟩;have io:∀ i:Al,¬ (a<=i/\i<=b)->NoN a b (.int i):=λi h=>⟨⟨.int i,rfl⟩,Dd h⟩;simp only[Lu,Gw,Aw,Dl,Hg] at hd;rcases hd with rfl|rfl|rfl|rfl|rfl|rfl|rfl|rfl|rfl|rfl|rfl|rfl
 .exact io _ li
 .exact io _ li
 .exact io _ li
 .exact io _ li
 .exact⟨⟨_,rfl⟩,rfl⟩
 .exact⟨⟨_,rfl⟩,rfl⟩
 .exact⟨⟨_,rfl⟩,rfl⟩
 .exact⟨⟨_,rfl⟩,rfl⟩
 .exact⟨⟨_,rfl⟩,rfl⟩
 .exact⟨⟨_,rfl⟩,rfl⟩
 .exact⟨⟨_,rfl⟩,rfl⟩
 .exact io _ li
theorem F5 (S:Sto):S__law_same [.non,.non] S=.ok (.bl true) S:=by
 rw[vK];refine zE (z0 (env:=[Ab .non,Ab .non]) rfl ?_);rfl';refine qM (d:=.bl true) (S:=S) rfl ?_;rfl';refine qM (d:=.bl true) (S:=S) rfl ?_;rfl';exact⟨rfl,rfl⟩
theorem n6 (z:Ak (Pt × Pt))(S:Sto):S__law_same [twD z,twD z] S=.ok (.bl true) S:=by
 cases z with
 |none=>exact F5 S
 |some z =>
  refine XJ S (d:=.tup [.int z.1.1,.int z.1.2,.int z.2.1,.int z.2.2]) ⟨Cc rfl,λx hx=>?_⟩;simp only[Aw,Dl,Hg] at hx;rcases hx with rfl|rfl|rfl|rfl <;> trivial
theorem JB (h:mkB ms=true)(hl:1<=ms.length/\ms.length<=20):Mk 20 ms:=by
 have:=cR h hl
 rwa [List.take_length] at this
theorem PR (h:Mk M ms):∃ z:Al,_L.atI (ms.map D.int) (-1)=Ab (.int z)/\0<=z/\z<=1000:=by
 refine⟨ms.getLast h.ne,?_,h.ge _ (Sk _),h.le _ (Sk _)⟩;rw[UN (by simpa using h.ne),Zg]
def IvL (ns:Aa Al)(_:Aa Al)(env:qF)(_:Sto):Prop:=∃ e1 e2 e3 e4 e5 e6 e7 e8 e9,env=[Ab (.lst (ns.map D.int)),e1,e2,e3,e4,e5,e6,e7,e8,e9]
theorem V1 (c:Cl)(nd:(xG c).Nodup)(ns:Aa Al)(hl:ns.length<=63):∃ S,qR 10 (b_law c) [.lst (ns.map D.int)] [] = .ok (.bl true) S:=by
 have key:Ok (qR 10 (b_law c) [.lst (ns.map D.int)] []) λd _=>d=.bl true:=by
  refine z0 (env:=[Ab (.lst (ns.map D.int)),none,none,none,none,none,none,none,none,none]) rfl ?_;unfold b_law;array_get_dec;array_get_dec;refine uH ?_;rfl';refine tV c (ms:=[0,1,2]) (JB (kd) (by decide)) λS1 _=>?_
  rw[show tw (pr [0,1,2])=Ab ((0,1),(1,2)) from kd]
  rfl';refine qM (n6 (Ab ((0,1),(1,2))) S1) ?_;rfl';refine⟨λe=>(by cases e),λ_=>?_⟩
  rfl';refine qM (XM c (ms:=[0,1,3]) (JB (kd) (by decide)) (m:=7) li S1) ?_
  rw[show ub [0,1,3] 7=true from kd]
  rfl';refine qM (d:=.bl false) (S:=S1) rfl ?_;array_get_dec;array_get_dec;array_get_dec;array_get_dec;array_get_dec;refine HE (F3 ns hl 8 rfl λms=>?_);refine wX (IvL ns) ?_ ?_ ⟨_,_,_,_,_,_,_,_,_,rfl⟩
  .rintro y xs _ S ⟨e1,e2,e3,e4,e5,e6,e7,e8,e9,rfl⟩
   rfl';refine E2 λp S0 p0=>?_;rfl';refine B4 (M:=20) li p0 λms S1 k1 L=>?_;unfold mkD;have n0:0<(ms.map D.int).length:=by rw[Av];exact Kg.mpr L.ne
   have n1:(ms.map D.int).length<=20:=by rw[Av];exact L.len
   obtain⟨z,hz,hz0,hz1⟩:=PR L;rfl';refine qM (VW L S1) ?_;rfl';refine uH ?_;rfl';refine tV c L λS2 p2=>?_;rfl';refine qM (n6 _ S2) ?_;rfl';refine⟨λe=>(by cases e),λ_=>?_⟩
   rfl';refine tV c L λS3 p3=>?_;rfl';refine qM (n6 _ S3) ?_;rfl';have pp3:=tX (tX k1.pen p2) p3;have hm:=wS (show ((ms.map D.int).length:Al)<=20 by lia) (show ((ms.map D.int).length:Al)-1<=19 by lia) li li
   have hm0:=Int.mul_nonneg (show 0<=((ms.map D.int).length:Al) by lia) (show 0<=((ms.map D.int).length:Al)-1 by lia)
   generalize ((ms.map D.int).length:Al)*(((ms.map D.int).length:Al)-1)=mn at hm hm0;refine wH pp3 li λr1 S4 k4 h4=>?_;rfl';refine dA hz ?_;rfl';refine qM (d:=.int (if 1<2*z then 2*z else 1)) (S:=S4) rfl ?_
   rfl';refine dA hz ?_;rfl';refine qM (d:=.int 1000000) (S:=S4) rfl ?_;rfl';refine xM (Cc rfl) ?_;rfl';refine wH k4.pen li λr2 S5 k5 h5=>?_;rfl';refine xM (Cc rfl) ?_;rfl';refine nM (λds env S'=>(∀ d∈ds,∃ m:Al,d=.int m/\1<=m/\m<=1000000)/\uA S' p/\∃ e3 e4 e5 e6 e7 e9,env=[Ab (.lst (ns.map D.int)),Ab (.int y),Ab (.loc p),e3,e4,e5,e6,e7,Ab (.tup (ms.map D.int)),e9]) ?_ ?_ ⟨?_,k5.pen,_,_,_,_,_,_,rfl⟩
   .rintro d ds _ S' ⟨hd,pp,e3,e4,e5,e6,e7,e9,rfl⟩
    obtain⟨m,rfl,hm⟩:=hd d (.head _);rfl';refine qM (XM c L hm S') ?_;rfl';refine F4 L hm λS6 p6=>?_;rfl';refine qM (XJ S6 (d:=.bl _) trivial) ?_;rfl';exact yB ⟨λd h=>hd d (.tail _ h),tX pp p6,_,_,_,_,_,_,rfl⟩
   .rintro _ S' ⟨_,pp,e3,e4,e5,e6,e7,e9,rfl⟩
    rfl';refine zI (o4 (Au _) L pp) λbd S6 ⟨hbd,k6⟩=>?_;rfl';refine qM (d:=.int 1000000) (S:=S6) rfl ?_;rfl';refine zI (eK (a:=1) (b:=1000000) li k6.pen) λod S7 ⟨hod,k7⟩=>?_;rfl';refine o6 (by rw[Ex];simp[uR]) (gZ c nd) (caps:=[bd]) rfl ((kQ (a:=bd) rfl).trans (V9 c S7 hbd.1 hbd.2)) ?_
    rfl';refine qM (d:=.bl false) (S:=S7) (by kernel_rfl!) ?_
    rfl';refine nM (λds env S'=>S'=S7/\∃ e7,env=[Ab (.lst (ns.map D.int)),Ab (.int y),Ab (.loc p),e3,e4,e5,Ab bd,e7,Ab (.tup (ms.map D.int)),Ab od]) ?_ ?_ ⟨rfl,_,rfl⟩
    .rintro d ds _ S8 ⟨z8,e7,rfl⟩
     rfl';refine o6 (by rw[Ex];simp[uR]) (gZ c nd) (caps:=[bd,d]) rfl ((UQ (a:=bd) (b:=d) rfl rfl).trans (ZQ c S8 hbd.1 hbd.2)) ?_
     rfl';refine qM (d:=.bl false) (S:=S8) (by kernel_rfl!) ?_
     rfl';exact yB ⟨z8,_,rfl⟩
    .rintro _ S8 ⟨z8,e7,rfl⟩
     rfl';refine o6 (by rw[Ex];simp[uR]) (tJ c nd) (caps:=[.tup (ms.map D.int),od]) rfl ((UQ (a:=.tup (ms.map D.int)) (b:=od) rfl rfl).trans (ZR c L S8 hod.1 hod.2)) ?_
     rfl';refine qM (d:=.bl false) (S:=S8) (by kernel_rfl!) ?_
     rfl';exact yB ⟨_,_,_,_,_,_,_,_,_,rfl⟩
   .intro d hd
    simp only[Lu,Gw,Aw,Dl,Hg] at hd;rcases hd with rfl|rfl|rfl|rfl|rfl|rfl|rfl|rfl
    .exact⟨_,rfl,by lia,by lia⟩
    .exact⟨_,rfl,by lia,by lia⟩
    .exact⟨_,rfl,by lia,by lia⟩
    .exact⟨_,rfl,by lia,by lia⟩
    .refine⟨_,rfl,?_,?_⟩ <;> split <;> lia
    .exact⟨_,rfl,by lia,by lia⟩
    .exact⟨_,rfl,by lia,by lia⟩
    .exact⟨_,rfl,by lia,by lia⟩
  .rintro _ S ⟨e1,e2,e3,e4,e5,e6,e7,e8,e9,rfl⟩
   rfl';exact rfl
 obtain⟨d,S',e,rfl⟩:=key;exact⟨S',e⟩
end _K
namespace _K
open PySem PySem.Spec PyProof.Rows _L _D
variable {mg:Ap->Ak Ac}
theorem v9 {P:Bd}{w:Bz}{K:Aj}{base:Bq}{c:Cl}(T:Txt K mg c){k:Ai}{F:DF}(d:DfS F P w K mg base true k "_law_same" 2):DfS (qR 2 (b__law_same F)) P w K mg base true (k+1) "_law_same" 2:=by
 refine dq P w base k 18 T rfl ck rfl ?_
 intros
 repeat' first
  |with_reducible exact ck
  |((with_reducible show QE _ _ _);with_reducible first|apply aV|apply JL|apply X8|apply aBt|apply aO|(apply aB;first|apply JY|apply JX|apply JW|apply W5)|apply aC|apply XA|apply X7|apply X9|apply X5)
  |((with_reducible show _=_);first|exact T.nb ck|exact kH _|exact rfl|with_unfolding_all rfl)
  |((with_reducible show ZOp _ _ _);with_reducible first|apply SR|apply SY|apply SS)
  |((with_reducible show RoomC _ _ _);first|assumption|exact RoomC.mono (by assumption)|exact RoomC.mono (RoomC.any (by assumption))|exact RoomC.mark (by assumption) _|exact RoomC.mono (RoomC.mark (by assumption) _))
  |((with_reducible show St1 _ _ _ _);exact⟨rfl,rfl⟩)
  |((with_reducible show DfS _ _ _ _ _ _ _ _ _ _);assumption)
  |with_reducible first|apply X4|apply mE|apply b9|apply cW|apply X3|apply XF|(apply JN;first|apply mF|apply dF)|apply XG|apply mF|apply dF|apply aNm|apply XB|apply rH|apply cX|apply XD|apply XC|apply cZ|apply cY|apply XE|apply JM|apply UW
  |((with_reducible apply aSt);case hs=>exact rfl)
  |((with_reducible show ClA _ _ _ _);first|assumption|exact ClA.tr (by assumption))
  |((with_reducible show LmX _ _ _ _ _ _ _ _ _ _);assumption)
  |((with_reducible show DfL _ _ _ _ _ _ _ _ _ _ _ _ _);assumption)
  |((with_reducible show ZF _ _ _ _);first|apply aFn|apply aFn0)
  |exact λ_=>⟨rfl,rfl,rfl⟩
  |(intro h;cases h;done)
  |((with_reducible show ZPass _);first|assumption|exact aU)
  |exact⟨rfl,rfl⟩
  |exact⟨rfl,rfl,rfl⟩
  |apply mE
  |apply b9
  |(intros;rfl)
  |(intro _ h;cases h <;> rfl)
  |decide
  |intro _
theorem PC {P:Bd}{w:Bz}{K:Aj}{base:Bq}{c:Cl}(T:Txt K mg c)(nd:(xG c).Nodup)(hT:(NL.all λy=>(Du K y).isSome)=true):∃ F,dI P w K mg base true 10 "law" ["_law_script"] F/\∀ ns:Aa Al,ns.length<=63->∃ S,F [.lst (ns.map D.int)] [] = .ok (.bl true) S:=by
 refine hv (λ_=>?_) (dq (cm:=true) P w base 0 0 T rfl ck (gU) ?_);refine hv (λ_=>?_) (dq (cm:=true) P w base 1 1 T rfl ck (kF) ?_);refine hv (λ_=>?_) (dq (cm:=true) P w base 0 2 T rfl ck (vL) ?_);refine hv (λ_=>?_) (dq (cm:=true) P w base 2 3 T rfl ck (yK c) ?_);refine hv (λ_=>?_) (dq (cm:=true) P w base 2 4 T rfl ck (gT) ?_);refine hv (λ_=>?_) (dq (cm:=true) P w base 3 5 T rfl ck (bF) ?_);refine hv (λ_=>?_) (dq (cm:=true) P w base 4 6 T rfl ck (gV c) ?_);refine hv (λ_=>?_) (dq (cm:=true) P w base 0 7 T rfl ck (uP) ?_);refine hv (λ_=>?_) (dq (cm:=true) P w base 1 8 T rfl ck (u9) ?_);refine hv (λ_=>?_) (dq (cm:=true) P w base 5 9 T rfl ck (jN c) ?_);refine hv (λ_=>?_) (dq (cm:=true) P w base 1 10 T rfl ck (kE) ?_);refine hv (λ_=>?_) (dq (cm:=true) P w base 2 11 T rfl ck (yU c) ?_);refine hv (λ_=>?_) (dq (cm:=true) P w base 0 12 T rfl ck (vJ) ?_);refine hv (λ_=>?_) (dq (cm:=true) P w base 3 15 T rfl ck (jW c) ?_);refine hv (λ_=>?_) (dq (cm:=true) P w base 6 13 T rfl ck (yJ c) ?_);refine hv (λ_=>?_) (dq (cm:=true) P w base 3 14 T rfl ck (wZ c) ?_);refine hv (λ_=>?_) (dq (cm:=false) P w base 0 16 T rfl ck (yT c) ?_);refine hv (λ_=>?_) (dqL (cm:=true) (g:=b__law_refused c) (N:=2) P w base 8 8 0 17 T rfl ck ?_);have s0:DfS (mG 0) P w K mg base true 0 "_law_same" 2:=⟨KO (T.src 18 rfl)⟩;have d__law_same:DfS S__law_same P w K mg base true 4 "_law_same" 2:=vK▸v9 T (v9 T (v9 T (v9 T s0)));refine hv (λ_=>?_) (dq (cm:=true) P w base 0 19 T rfl ck (kB) ?_);refine hv (λ_=>?_) (dq (cm:=true) P w base 0 20 T rfl ck (gS) ?_);refine hv (λ_=>?_) (dq (cm:=true) P w base 0 21 T rfl ck (kD) ?_);refine hv (λ_=>?_) (dq (cm:=true) P w base 1 22 T rfl ck (vH) ?_);refine hv (λ_=>?_) (dq (cm:=true) P w base 0 23 T rfl ck (uO) ?_);refine hv (λ_=>?_) (dq (cm:=true) P w base 1 24 T rfl ck (jL) ?_);refine hv (λ_=>?_) (dq (cm:=true) P w base 1 25 T rfl ck (vX) ?_);refine hv (λ_=>?_) (dq (cm:=true) P w base 1 26 T rfl ck (jM) ?_);refine hv (λ_=>?_) (dq (cm:=true) P w base 0 27 T rfl ck (vI) ?_);refine⟨_,dqP 9 28 T rfl ck ?_,V1 c nd⟩
 all_goals
  intros
  repeat' first
   |with_reducible exact ck
   |((with_reducible show QE _ _ _);with_reducible first|apply aV|apply DH|apply JL|apply DN|apply X8|apply aBt|apply aGi|apply aCl|apply aO|apply aN|apply BS|(apply aB;first|apply JY|apply JX|apply JW|apply SW|apply UI|apply W5|apply SU)|(apply aT;first|apply FT|apply SV|apply HJ)|apply aC|apply XA|apply DJ|apply BR|apply EM|apply VO|apply EN|apply X7|apply VM|apply DM|apply EO|apply X9|apply X5|apply EL|apply BQ|apply DD|apply BO|apply DC|apply eM|apply oB|(apply dE;(case slot=>apply Pj);(case' hm=>first|apply UH))|(apply dE;(case slot=>apply PySem.F.slot_list_append);(case' hm=>first|apply UE))|(apply dE;(case slot=>apply Ss);(case' hm=>first|apply FQ))|(apply dE;(case slot=>apply Su);(case' hm=>first|apply FR))|apply D9)
   |((with_reducible show _=_);first|exact T.nb ck|with_reducible apply Nj|with_reducible apply Tc|with_reducible apply Pp|with_reducible apply Sa|with_reducible apply Td|with_reducible apply Te|exact kH _|exact rfl|with_unfolding_all rfl)
   |((with_reducible show ZOp _ _ _);with_reducible first|apply HH|apply HR|apply SX|apply HM|apply HI|apply HL|apply HP|apply AO|apply AN|apply AL|apply AK|apply SR|apply SY|apply UF|apply SS|apply HK|apply UG|apply FS)
   |((with_reducible show RoomC _ _ _);first|assumption|exact RoomC.mono (by assumption)|exact RoomC.mono (RoomC.any (by assumption))|exact RoomC.mark (by assumption) _|exact RoomC.mono (RoomC.mark (by assumption) _))
   |((with_reducible show St1 _ _ _ _);exact⟨rfl,rfl⟩)
   |((with_reducible show DfS _ _ _ _ _ _ _ _ _ _);assumption)
   |with_reducible first|apply X4|apply mE|apply b9|apply cW|apply X3|apply aK0|apply BY|apply BZ|apply BX|apply DV|apply SA|apply XF|apply VS|(apply JN;first|apply a8|apply mF|apply XI|apply dF)|apply XG|apply a8|apply mF|apply XI|apply dF|apply aNm|apply XB|apply DQ|apply rH|apply cX|apply DU|apply VP|apply XD|apply BV|apply BW|apply XC|apply DR|apply cZ|apply VT|apply cY|apply ER|apply XE|apply JM|apply F0|apply DX|apply aP2|apply aRs|apply aTr|apply HN|apply AM|apply HQ|apply UW|apply Nj|apply Tc|apply Pp|apply Sa|apply Td|apply Te
   |((with_reducible apply aCs);case hsw=>exact rfl)
   |((with_reducible apply aSt);case hs=>exact rfl)
   |with_reducible apply DW
   |exact T.cls
   |exact T.cl (by kernel_rfl)
   |exact T.rz (by kernel_rfl)
   |exact T.ct
   |exact T.gi (by kernel_rfl)
   |((with_reducible apply HX);(case D=>assumption))
   |((with_reducible show ClA _ _ _ _);first|assumption|exact ClA.tr (by assumption))
   |((with_reducible show LmX _ _ _ _ _ _ _ _ _ _);assumption)
   |((with_reducible show DfL _ _ _ _ _ _ _ _ _ _ _ _ _);assumption)
   |((with_reducible show LmK _ _);refine lmK hT (by assumption) ?_ rfl)
   |((with_reducible show ZF _ _ _ _);first|apply aFn|apply aFn0)
   |exact λ_=>⟨rfl,rfl,rfl⟩
   |(intro h;cases h;done)
   |((with_reducible show ZPass _);first|assumption|exact aU)
   |exact⟨rfl,rfl⟩
   |exact⟨rfl,rfl,rfl⟩
   |apply mE
   |apply b9
   |decide
   |(intros;rfl)
   |(intro _ h;cases h <;> rfl)
   |intro _
end _K
namespace _K
open PySem PySem.Spec PyProof.Rows _L _D
variable {K:Aj}
theorem bdf:BdF top tab:=by
 repeat (refine⟨?_,?_⟩;(intro _ _ _ _ _ _ us h;first|(obtain⟨_,rfl⟩:=us1 h;rfl)|(obtain⟨_,_,rfl⟩:=us2 h;rfl)|(obtain⟨_,_,_,rfl⟩:=us3 h;rfl)))
 exact trivial
theorem R5 {C0 C1 C2 C3 C4 C5 C6 C7 C8 C9 C10 C11:Af}(q0:Dn K Cg "FarError" = Ab (Ab (.ref C0)))(q1:Dn K Cg "NoPoint" = Ab (Ab (.ref C1)))(q2:Dn K Cg "NoLot" = Ab (Ab (.ref C2)))(q3:Dn K Cg "NoNumber" = Ab (Ab (.ref C3)))(q4:Dn K Cg "NoCircle" = Ab (Ab (.ref C4)))(q5:Dn K Cg "NoMarks" = Ab (Ab (.ref C5)))(q6:Dn K Cg "NoFars" = Ab (Ab (.ref C6)))(q7:Dn K Cg "NoText" = Ab (Ab (.ref C7)))(q8:Dn K Cg "NoLine" = Ab (Ab (.ref C8)))(q9:Dn K Cg "NoDeed" = Ab (Ab (.ref C9)))(q10:Dn K Cg "Alike" = Ab (Ab (.ref C10)))(q11:Dn K Cg "TooMany" = Ab (Ab (.ref C11))):aX K (clt ⟨C0,C1,C2,C3,C4,C5,C6,C7,C8,C9,C10,C11⟩):=⟨q0,q1,q2,q3,q4,q5,q6,q7,q8,q9,q10,q11,trivial⟩
theorem R6 {k0 k1 k2 k3 k4:Qt}(g0:Dn K Cg "LEAST_NUMBER" = Ab (Ab (.int (-1000) k0)))(g1:Dn K Cg "MOST_NUMBER" = Ab (Ab (.int (1000) k1)))(g2:Dn K Cg "MOST_POINTS" = Ab (Ab (.int (40) k2)))(g3:Dn K Cg "MOST_MARKS" = Ab (Ab (.int (20) k3)))(g4:Dn K Cg "MOST_MARK" = Ab (Ab (.int (1000) k4))):aY K cst:=⟨⟨_,g0⟩,⟨_,g1⟩,⟨_,g2⟩,⟨_,g3⟩,⟨_,g4⟩,trivial⟩
theorem NN {P:Bd}{w:Bz}{mg:Ap->Ak Ac}{c:Cl}{fa:Af}(T:Txt K mg c)(nd:(xG c).Nodup)(hT:(NL.all λy=>(Du K y).isSome)=true)(hfa:mg "law" = Ab (.ref fa)) :
  ∃ fd:Fw,(∀ (s:Ag) (v:Ac),Oh s fd ⟨[v],[]⟩ [("_law_script",v)])/\∀ base:Bq,K.In base->base.Ns Cg mg->FnOk P w K mg base (CXd P w) 10 fa fd ["_law_script"] (dG K):=
 PD (T.src 28 rfl) hfa (λkV doc pm an cdv ct s v=>.of_eq rfl) λbase=>PC T nd hT
end _K
theorem PySem.W.Fast.tw11873651223616068037 : True := trivial
theorem PySem.W.Fast.tw16146664705710826329 : True := trivial
theorem PySem.W.Fast.tw6356080766658581756 : True := trivial
theorem PySem.W.Fast.tw11380294891146268655 : True := trivial
theorem PySem.W.Fast.tw10030004445900657013 : True := trivial
theorem PySem.W.Fast.tw6145902045645607953 : True := trivial
theorem PySem.W.Fast.tw1050087986125481662 : True := trivial
theorem PySem.W.Fast.tw9877918245361064686 : True := trivial
theorem PySem.W.Fast.tw3525489412032785112 : True := trivial
theorem PySem.W.Fast.tw7417001167988322542 : True := trivial
theorem PySem.W.Fast.tw4467901108802877994 : True := trivial
theorem PySem.W.Fast.tw4917985723797512533 : True := trivial
theorem PySem.W.Fast.tw14946533655866167928 : True := trivial
theorem PySem.W.Fast.tw8470898848742086599 : True := trivial
theorem PySem.W.Fast.tw10568743603202857447 : True := trivial
theorem PySem.W.Fast.tw1106180251115998588 : True := trivial
theorem PySem.W.Fast.tw807680084738246515 : True := trivial
theorem PySem.W.Fast.tw6381925163147633040 : True := trivial
theorem PySem.W.Fast.tw15616756282543320178 : True := trivial
theorem PySem.W.Fast.tw17148125768509187656 : True := trivial
theorem PySem.W.Fast.tw11397509541785199528 : True := trivial
theorem PySem.W.Fast.tw5493632358605582982 : True := trivial
theorem PySem.W.Fast.tw6877413346177907263 : True := trivial
theorem PySem.W.Fast.tw13420439684838562000 : True := trivial
theorem PySem.W.Fast.tw12971920947538687768 : True := trivial
theorem PySem.W.Fast.tw17101385920389123814 : True := trivial
theorem PySem.W.Fast.tw12960871630480214374 : True := trivial
theorem PySem.W.Fast.tw3920853569245120472 : True := trivial
theorem PySem.W.Fast.tw10747921158550049418 : True := trivial
theorem PySem.W.Fast.tw3165172297042936246 : True := trivial
theorem PySem.W.Fast.tw16138276334431848443 : True := trivial
theorem PySem.W.Fast.tw5940460454345720904 : True := trivial
theorem PySem.W.Fast.tw13594588623606614511 : True := trivial
theorem PySem.W.Fast.tw11482575859623309056 : True := trivial
theorem PySem.W.Fast.tw14327486948371585524 : True := trivial
theorem PySem.W.Fast.tw7375034206830397973 : True := trivial
theorem PySem.W.Fast.tw8863216940291002380 : True := trivial
theorem PySem.W.Fast.tw6691081107994213049 : True := trivial
theorem PySem.W.Fast.tw5225066832474705918 : True := trivial
theorem PySem.W.Fast.tw17770603667857969178 : True := trivial
theorem PySem.W.Fast.tw5218213855372526959 : True := trivial
theorem PySem.W.Fast.tw4287099319477372902 : True := trivial
theorem PySem.W.Fast.tw18040394842766163889 : True := trivial
theorem PySem.W.Fast.tw13185685985267271577 : True := trivial
theorem PySem.W.Fast.tw10398615360493892673 : True := trivial
theorem PySem.W.Fast.tw5894809080126967175 : True := trivial
theorem PySem.W.Fast.tw9241675011488269538 : True := trivial
theorem PySem.W.Fast.tw12655778445742604798 : True := trivial
theorem PySem.W.Fast.tw10780286285281727116 : True := trivial
theorem PySem.W.Fast.tw10870948786224820120 : True := trivial
theorem PySem.W.Fast.tw13938112411048177833 : True := trivial
theorem PySem.W.Fast.tw11742627878426739916 : True := trivial
theorem PySem.W.Fast.tw10667571348046416193 : True := trivial
theorem PySem.W.Fast.tw3585907706776272255 : True := trivial
theorem PySem.W.Fast.tw15388414781768133757 : True := trivial
theorem PySem.W.Fast.tw10723801300278496923 : True := trivial
theorem PySem.W.Fast.tw4315845583522493248 : True := trivial
theorem PySem.W.Fast.tw9939493765076727162 : True := trivial
theorem PySem.W.Fast.tw5655650676735034182 : True := trivial
theorem PySem.W.Fast.tw9170651082758762410 : True := trivial
theorem PySem.W.Fast.tw4112351085511041538 : True := trivial
theorem PySem.W.Fast.tw1360016646009532471 : True := trivial
theorem PySem.W.Fast.tw1056732749088749490 : True := trivial
theorem PySem.W.Fast.tw13840942645581263439 : True := trivial
theorem PySem.W.Fast.tw4286992668425793545 : True := trivial
theorem PySem.W.Fast.tw8988831929421355521 : True := trivial
theorem PySem.W.Fast.tw15364678514753641516 : True := trivial
theorem PySem.W.Fast.tw6412554666106886309 : True := trivial
theorem PySem.W.Fast.tw17035658117693942622 : True := trivial
theorem PySem.W.Fast.tw6695614226402480484 : True := trivial
theorem PySem.W.Fast.tw16583767079784071189 : True := trivial
theorem PySem.W.Fast.tw2656762743541452903 : True := trivial
theorem PySem.W.Fast.tw12795410837352041356 : True := trivial
theorem PySem.W.Fast.tw7616529332602090514 : True := trivial
theorem PySem.W.Fast.tw7036383626721520517 : True := trivial
theorem PySem.W.Fast.tw6104136508284222797 : True := trivial
theorem PySem.W.Fast.tw10618450032424009216 : True := trivial
theorem PySem.W.Fast.tw2019483076785432555 : True := trivial
theorem PySem.W.Fast.tw2048192402463271897 : True := trivial
theorem PySem.W.Fast.tw8395024128913967851 : True := trivial
theorem PySem.W.Fast.tw9694816695989882810 : True := trivial
theorem PySem.W.Fast.tw1079371786588827729 : True := trivial
theorem PySem.W.Fast.tw10635677666979506851 : True := trivial
theorem PySem.W.Fast.tw3709555134774372491 : True := trivial
theorem PySem.W.Fast.tw2585374951886573493 : True := trivial
theorem PySem.W.Fast.tw5274967450914868762 : True := trivial
theorem PySem.W.Fast.tw17541845577206709232 : True := trivial
theorem PySem.W.Fast.tw3480330213817711896 : True := trivial
theorem PySem.W.Fast.tw15303074695827610865 : True := trivial
open PySem PySem.W PyProof.Rows
set_option maxRecDepth 100000 in
set_option maxHeartbeats 0 in
theorem PySem.Challenge.cw_fewdistances_k71_gaps_twice_and_by_rests_holds : PySem.Challenge.rw_fewdistances_k71_gaps_twice_and_by_rests.Holds := by
 w_on;o_law;k_head;(case hw=>w_witness2)
 k_fill
 refine _D.HG (l:=OK) (k:=10) (x:="_law_script") rfl rfl ⟨rfl,by decide,by decide,rfl⟩ (λ_=>by kernel_rfl) (λw h Y=>PySem.W.km_in_of Y) ?F
 case F =>
  intro w mg fa h KX G hmg
  refine' _K.NN (_D.HD _K.bdf ?hp rfl KX G ?s ?z (_K.R5 ?q0 ?q1 ?q2 ?q3 ?q4 ?q5 ?q6 ?q7 ?q8 ?q9 ?q10 ?q11) (_K.R6 ?gi0 ?gi1 ?gi2 ?gi3 ?gi4) ?e1 ?e2 ?e3 ?e4 ?e5 ?e6) ?nd ?hT hmg
  (case s=>(repeat (refine' ⟨_D.SrcF.mk ?a ?l ?c ?k,?_⟩;(case a=>k_is);(case l=>k_is);(case c=>k_is);(case k=>k_is)));exact trivial)
  (case z=>rfl)
  (case q0=>k_is)
  (case q1=>k_is)
  (case q2=>k_is)
  (case q3=>k_is)
  (case q4=>k_is)
  (case q5=>k_is)
  (case q6=>k_is)
  (case q7=>k_is)
  (case q8=>k_is)
  (case q9=>k_is)
  (case q10=>k_is)
  (case q11=>k_is)
  (case gi0=>k_is)
  (case gi1=>k_is)
  (case gi2=>k_is)
  (case gi3=>k_is)
  (case gi4=>k_is)
  (case hp=>intro y hy;revert hy;simp;grind)
  (case e1=>rfl)
  (case e2=>rfl)
  (case e3=>rfl)
  (case e4=>rfl)
  (case e5=>rfl)
  (case e6=>rfl)
  (case nd=>decide)
  (case hT=>rfl)
