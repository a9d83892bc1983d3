import PyProof.Rows.All
import Wide.All
import OpenK.AllK
import Wide.FinOn
import Lean
import PyProof.EqAt
import PyProof.EqKinds
import PyProof.TupleCall
import KE.KLam
import KE.KTryMore
import KE.KIsAll
import PyProof.NeKinds
import PyProof.Rows.CountFlat
import PyProof.Rows.FStr
import PyProof.ZipIter
import PyProof.EnumMake
import PyProof.EnumStmt
import KE.KDictLaws
import PyProof.DictWalks
import PyProof.Rows.SetFrom
import PyProof.SumWalkG
import PyProof.Rows.SumGenD
import PyProof.SeqI2
import KE.KItemsList
import PyProof.SetKind
import PyProof.TupleKey
import KE.KSortTup
import PyProof.ReprRoads
import PyProof.ReprBulk
import PyProof.TupleOfSeq
import PyProof.WalkInts
import PyProof.SeqI3
import PyProof.Rows.RuleDivmod
import KE.KPairComp
import KE.KMinKey
import PyProof.Rows.CallKwBuiltin
import PySem.Challenge.RW_fewdistances_k92_what_lots_have_beyond
set_option Elab.async false
set_option linter.all false
set_option maxRecDepth 100000
set_option maxHeartbeats 0
set_option tactic.hygienic false
set_option bootstrap.genMatcherCode false
set_option genSizeOf false
set_option compiler.extract_closed false
open Array renaming getElem?_toList->Bk,length_toList->Bl,toList_append->Dr,getElem?_eq_some_iff->Dy,getElem?_eq_getElem->Eb,toList_push->Er,getD_eq_getD_getElem?->Fj,getD->Gv,size_extract->Jj,toList_extract->Jy,toList_reverse->Lw,mem_toList_iff->Pe,perm_iff_toList_perm->Ru,getElem?_eq_none->Vj,size_map->Wn,forIn_toList->Yn,toList_inj->Aa4,toList->Ab4
open Bool renaming and_eq_true->Ax,false_eq_true->Bw,and_eq_true_iff->Fo,false_ne_true->Fp,false_and->Hj,noConfusion->Ja,not_true->Jv,and_false->Ln,or_eq_true->Ml,not_eq_true'->Nr,not_false->Qy,false_or->AaU
open Classical renaming byContradiction->Fx,choose_spec->Ou,choose->Tw
open False renaming elim->An
open ForInStep renaming yield->Pq
open Int renaming toNat_natCast->Fa,le_trans->Ff,le_of_lt->Hv,emod_lt_of_pos->Ji,mul_eq_zero->Jq,emod_nonneg->Kv,le_refl->Lg,mul_nonneg->Lp,mul_le_mul->Nn,fdiv_eq_ediv_of_nonneg->Rl,fmod_eq_emod_of_nonneg->Rm,eq_ofNat_of_zero_le->Um,neg_mul_neg->Vo,natAbs_mul_self'->WF,toNat_of_nonneg->Xx,ofNat_sub->Xz,ofNat_le->Zc,neg_mul->Aa7,ediv_nonneg->AaG,not_lt->AaK
open List renaming getElem?_eq_getElem->Ap,length_map->Aq,getElem?_eq_some_iff->Aw,mem_cons->Az,size_toArray->AT,prefix_refl->Bh,getElem?_append_left->Bi,mem_cons_of_mem->Bp,mem_of_getElem?->Bq,mem_append->By,length_cons->Ca,all_eq_true->Cb,mem_append_right->Cd,getElem?_set_ne->Ce,length_append->Cf,mem_map->Ci,mem_cons_self->Cn,mem_singleton->Co,append_assoc->Cs,range->Cu,getElem?_append_right->Cw,mem_iff_getElem->Cz,getElem?_set_self->Dd,replicate->Dg,mem_append_left->Dh,getElem?_map->Dn,not_mem_nil->Dq,mem_range->Du,pairwise_append->Ef,map_cons->Ek,pairwise_map->Ep,pairwise_cons->Eu,map_append->Ey,length_take->Ez,length_nil->Fh,prefix_append->Fq,mem_filter->Ft,append_nil->Fv,contains_iff_mem->Ge,map_map->Gk,filterMap_cons->Gp,replicate_succ->Gr,mem_filterMap->Gz,nodup_append->Ho,length_drop->Hx,drop_eq_getElem_cons->Hy,perm_append_comm->Ia,extract_eq_take_drop->Ib,any_eq_true->Ic,flatten_cons->Im,nil_append->Ip,length_pos_iff->IN,take_of_length_le->Jg,cons_append->Jh,nodup_cons->Jp,pairwise_iff_getElem->Jt,length_range->Ju,lookup_cons->Kf,map_congr_left->Ki,length_eq_zero_iff->Kk,foldl_cons->Ks,find?_cons->Kt,any_cons->Ku,length->Kz,mem_iff_getElem?->La,getD->Lb,all_map->Ls,mem_of_mem_drop->Lv,reverse_append->Md,mem_map_of_mem->Mf,of_mem_zip->Mj,getElem?_take_of_lt->Mr,length_erase_of_mem->Mu,mergeSort_nil->Na,filter_append->Nb,getElem?_replicate->Nc,nodup_nil->Nl,flatMap_cons->Nw,drop_eq_nil_of_le->Nz,range_succ_eq_map->Oa,length_pos_of_mem->Ob,drop_of_length_le->Oc,getElem_inj->Og,getElem?_eq_none->Op,lookup->Oq,countP_mono_left->Ox,take_append_drop->Pa,map_id->Pb,mem_of_mem_take->Pj,eq_nil_of_length_eq_zero->Pv,append_toArray->Qi,Nodup->Qm,countP_eq_length_filter->Qp,forIn_nil->Qu,zip_cons_cons->Re,getD_eq_getElem?_getD->Rv,getElem?_zip_eq_some->Sj,all_cons->Sk,getElem_take->So,getElem_drop->Sr,getElem?_eq_none_iff->Tc,mem_of_find?_eq_some->Td,length_filterMap_le->Tl,prefix_iff_getElem?->Tn,getElem_mem->Tu,zipIdx_cons->Tx,filter_cons->Tz,ext_getElem->TD,map_fst_zip->TW,getElem?_cons_succ->Ug,pairwise_singleton->Uk,length_set->Ux,forIn_cons->Vb,find?_cons_of_neg->Vd,length_zip->Vm,filter_eq_nil_iff->Vn,length_singleton->Vs,singleton_append->Vz,mem_of_mem_erase->Wf,mem_erase_of_ne->Ww,length_eraseIdx->Wx,reverse_reverse->Wz,range_eq_range'->WP,map_drop->Xy,lookup_append->Yj,getElem?_drop->Yl,find?_eq_none->Ym,map_nil->Yq,ext_getElem?->Zx,foldl_append->Zz,nodup_range->Aa1,countP_cons->Aa3,range'_succ->Aa5,getElem_map->Aa6,countP_map->AaA,zipIdx_nil->AaB,find?_some->AaE,range_succ->AaF,foldl->AaH,take_zero->AaN,tail_drop->AaO,map_take->Ab1
open List.Pairwise renaming nil->Np,imp_of_mem->Ti
open List.Perm renaming append_left->HT,append_right->Jf,refl->Kb,trans->Px,swap->AaM
open Nat renaming le_refl->Av,lt_of_lt_of_le->Bd,ne_of_lt->Cp,le_trans->Dc,le_of_ble_eq_true->Dv,lt_irrefl->Ej,le_of_lt->Eo,ne_of_gt->Gj,zero_add->Hi,zero_le->Hk,le_add_right->Hz,lt_of_le_of_ne->Ig,lt_trans->Iq,add_le_add_left->Iy,lt_succ_self->Jb,add_sub_cancel_left->Km,eq_zero_of_not_pos->Kw,min_eq_left->Kx,le_of_lt_succ->Ld,add_lt_of_lt_sub'->Lh,one_pos->Li,sub_lt->Me,lt_of_le_of_lt->Mx,pos_of_ne_zero->Mz,mul_le_mul->Nm,not_lt->NE,le_succ->Oo,add_le_add_right->Pi,succ_pos->Qc,mod_lt->Ql,add_right_comm->Rj,mul_lt_mul_of_lt_of_le->Rw,lt_trichotomy->Su,lt_succ_of_lt->Sx,lt_of_succ_lt->Sy,sub_pos_of_lt->Sz,le_of_not_lt->Tq,min_eq_right->Ua,add_comm->Ub,lt_or_ge->Uj,le_antisymm->Vk,add_le_of_le_sub'->Wa,le_of_sub_eq_zero->Wb,mul_add->Wc,ble_eq_true_of_le->Wd,eq_of_beq_eq_true->We,add_le_add->Wr,lt_sub_of_add_lt->Wy,add_sub_cancel'->Xt,succ_mul->Yr,min_self->Yv,le_of_eq->Yz,sub_self->Za,add_zero->Zb
open Ne renaming symm->Gb
open Option renaming some->Ab,map_eq_some_iff->De,bind_eq_some_iff->Ex,isSome_iff_exists->Jz,getD_some->Os,bind_some->Pc,map_some->Pu,isSome_map->Se,isSome_some->Yh,getD_none->wE,none->Ab9
open Option.some renaming inj->Cy
open Or renaming inr->wS,inl->AaP
open Prod renaming ext->Lq,fst->Ab7,snd->Ab8
open PyProof renaming noPylong_small->Uv
open PyProof.Rows renaming wpS_bind->Bb,wpS_pure->Bn,Keyed->Bs,step_dedup->Bz,slot_tuple_getitem->Dp,seqObj->Es,wpS_forRange->Fm,SortSt->Gg,envOfC->Go,callWith_type1->Hl,wpS_mono->Hs,wpS_modify->Jn,IntsAre->Ke,SortKind->Mn,get?_update_seq->Mp,wpS_get->Ng,AllBare->Of,callWith_builtin1->Pd,entry_tuple_getitem->Qg,IsTup->Qr,slicePart_none->Qt,assignInOrder_cons->Rc,args_tuple_getitem->Rf,wpS_lift->Ry,subscriptTail->Sd,subscriptTail_builtinR->Uw,isBoolOf->Ve,gallopOf->Vl,lt_int->Xg,tupleItemsOf_->Xi,Subscript_->Xk,assignInOrder_nil->Ze
open PyProof.Rows.F renaming plain_set_update_loop->Je,entry_set_update_loop->Mm
open PyProof.Rows.IntsAre renaming int_at->Rb
open PyProof.Rows.IsTup renaming new->Zf
open PyProof.Rows.SortSt renaming mk'->Di
open PySem renaming Value->Ac,wpAny_bind->Ad,Addr->Af,Shared->Ag,wpAny_pure->Al,wpAny->Ao,Str->Ar,model->Au,Program->Bf,intKind->Bj,starEach->Bm,Heap->Bo,Around->Br,Expr->Bt,tupleKeyHash->Bu,World->Bx,Obj->Cq,mainGlobals->Ct,compareOp->Df,wpAny_newObj_type->Dm,wpAny_field->Dx,wpAny_callSpecial?_slot->DL,wpAny_holding->Ed,Comprehension->Ee,wpAny_call_entry->Eg,binaryOp->Ei,Scope->El,Pos->Ev,Stmt->EQ,sizeLine_eq->Fb,wpAny_setField_rec->Fd,cLine->Fk,mem_of_lookup->Fl,FuncData->Fu,SetTable->Fy,foldedSetIterable->Gc,wpAny_setState_of->Gf,backTo->Gh,bootBuiltins->Gi,wpAny_mono->Gm,rawInt->Gn,wpAny_pyIter_list->Gs,wpAny_pyIter_tuple->Ha,wpAny_Call_Name_kw->Hb,assignEach->Hd,wpAny_rule->He,wpAny_seqItems->Hm,cellsFrom->Hw,NameKind->Ie,codeAny->Ih,Builtin->Ik,Env->Il,codeAny_builtin->Io,wpAny_attempt->Ix,IsPair->Jm,wpAny_passesOwn->Jo,sysModules->Kc,wpAny_askSetting->Kg,codeAny_mono->Kj,Sem->Ko,letOwnedTupleGo->Kq,Model->Ky,getItem->Lm,wpAny_typeOf->Lr,codeAny_call_builtin->Lu,swappedStores->Ly,swapsWithSole->Lz,behindInMarks->Ma,TriplesOk->Mb,wpAny_execs_nil->Mi,sliceBounds->Mk,pyNext->Ni,wpAny_setField->Nk,swapsWith->Nq,ofAClassStatement->Nu,wpAny_storeSet_of->Nv,call_meets->Ny,wpAny_standAt->Oh,pyIter->Ol,BindsTo->Om,wpAny_forIn_list->On,wpAny_isInstance->Ow,wpAny_updateSeq_pair->Ph,PassesOwn->Pm,Arguments->Po,codeAmong->Pp,codeAny_of_tree->Ps,pickOrder->Pw,builtinsNs->Qe,wpAny_call->Qh,IsTupleKey->Qn,recursionLimit->Qs,firstArgMember->Qw,IsZip->Qx,tupleKind_room_in1->Rg,wpAny_newFunctionEnv_cells->Ro,IsPart->Rp,wpAny_of_eq->Rr,hashByValue->Rt,bindArgs->Rx,wpAny_sequenceKey->Sc,callerA->Sf,standAt->Sg,noteFrame->Sh,attributeBase->Sl,wpAny_onRaise->Sm,setSearchFrom->Ss,plainId_quiet->Sv,Tok->Te,wpAny_comprehension_free->Tg,noFill_tuple_add->Tp,checkBuiltinCall->Tr,closureFor->Tt,valueAt->Uy,wpAny_specialOf->Uz,wpAny_ite_split->Vi,tupleKind->Vq,codeAny_call_function->Vr,wpAny_letGo->Vt,IsEnum->Vu,weight_type_call_type->Vw,builtinLookup_eq_fast->Vx,wpAny_newTuple->Wk,isSubtype_stop->Wl,newFunctionEnv->Wm,wpAny_runValue->Wp,isSubtype_type->Wq,assignInOrder->Xb,CmpOp->Xc,bindL->Xe,bindC->Xf,seq_tuple_add->Xh,evalPart_none->Xj,atKey->Xm,intKind_is->Xq,wpAny_setEntries_of->Xs,wpAny_newList->Xu,defaultsOf->Xw,bindName->XV,Result->Ya,setState->Yc,concat_meets->Yp,wpAny_assign_Name->Zd,wpAny_truthy_bool->Zg,seqIndex?->Zk,slot_list_getitem->Zl,list_append->Zm,lastMarks->Zn,ClassData->Zo,setFlight->Zp,pushCells->Zr,wpAny_pyIter_enum->Zs,searchCouldBeSeen->Zv,wpAny_pyIter_slot->Zw,wpAny_collect_seq->Zy,wpAny_eqBool_int->ZB,wpAny_execs_cons->f8,unaryOp->sB,seqIndex_of->v6,wpAny_pyIter_zip->x0,argsOk->Aa0,setAdd->Aa2,GenState->Aa8,compTurn->AaC,call->AaI,Within->Ab3
open PySem.Around renaming under_plainId->Jx,frames_deeper->Pg,under_plain->Yo
open PySem.AutoSeq1 renaming wpAny_loadPart'->Gy
open PySem.Builtin.Frozenset renaming updateFrom->Qo,sizeOf->Tj,newClass->AaR
open PySem.Builtin.Getset_descriptor renaming descrCheckInstance->Us,descrNameAndClass->Va,descrGetter->Xn,descrGet->Yu
open PySem.Builtin.List renaming listTooLong->Mt,listLengthHint->Qz,listExtendWith->Ra,listSameRef->Tk
open PySem.Builtin.ObjectAttr renaming bindTo->Si,dataDescriptor?->Yt,getOf->Ab2,find->Ab5
open PySem.Builtin.Slice renaming sliceAdjust->Fw,slicePlaces->Gq,sliceApplied->Jk,sliceFields->Sb
open PySem.Builtin.SmallTypes renaming nextOf->Ea,ownedTupleIsFree->Et,ownedTupleHandOut->Gx
open PySem.Builtin.Tuple renaming tupleExact->Fg,tupleItemsOf->Lx,tupleCompareSizes->v4
open PySem.Calls renaming spliced_cons->Mw,Name_function_global->Rk,spliced_nil->Sa,call_function_entry->Ta,callWith_builtin->Vc,evalArgs_plain->Wv
open PySem.Challenge renaming pw_fewdistances_k92_what_lots_have_beyond->Py,rw_fewdistances_k92_what_lots_have_beyond->Pz
open PySem.Code renaming quiet_builtin->Ri,compLoop->AaY
open PySem.F renaming called_set->Do,slot_tuple_iterator_next->Jl,slot_enumerate_next->Lc,args_tuple_add_2->Ms,entry_tuple_add->Nd,plainAttrs_dict->Nh,slot_tuple_add->Nx,slot_zip_next->Pr,args_tuple_iterator_next_1->Qj,slot_dict_setdefault->Qk,type_dict_setdefault->Qq,entry_tuple_iterator_next->Qv,excBase_ValueError->Rq,type_list_append->To,attr_ValueError->Uc,slot_list_count->Ud,slot_list_index->Ue,args_enumerate_next_1->Uf,entry_type_call->Uh,plain_list_iadd->Ui,slot_dict_items->Ul,plainAttrs_list->Uo,type_list_count->Uq,type_list_index->Ur,entry_enumerate_next->Vf,typeCall_set_1->Vg,entry_set_init->Vh,plain_set_new->Vv,slot_set_iter->Vy,type_list_pop->Wg,args_list_append_2->Wu,entry_list_append->Xl,slot_list_append->Yg,args_zip_next_1->Zq,entry_zip_next->xL
open PySem.Heap renaming get?_push_of_some->Ah,lt_size->Ba,get?_push_size->Bc,get?_update_other->Dj,size_push->Dz,SameBut->Ew,get?_update_self->Gd,get?_none_of_le->Jw,FlyingW->Qb,MadeExcOf->Wj,IsTuple->Yw,IsList->wT
open PySem.Heap.IsSliceOf renaming new->Yf
open PySem.Heap.SameBut renaming update->Hq,refl->Sn
open PySem.IsL renaming update->wP
open PySem.MeetsSeq renaming list_index->AaX,EqGives->Ab6
open PySem.NameKind renaming free->Gu,cell->Ot
open PySem.Obj renaming mapSeq->Fc,mapFields->Xr,data_mapFields->Yk,putSet->AaJ
open PySem.P renaming add_list->Tv
open PySem.SeqAt.EqAt renaming bool_bool->AaQ,same->AaW
open PySem.SetTable renaming insertAt->Cc,below->Cj,sizeAbove->Fe,grown->Hn,runEnd->Ht,insertAt_perm->Jc,fill->Mc,Probe->Nt,toList_insertAt->Th,tooFull->T0,laid->Xo,fits->Xp,has->Yx,layClean->Zu,slot->AaZ
open PySem.SetTable.below renaming go->Zt
open PySem.SetTable.layClean renaming free->Jd
open PySem.SetTable.probe renaming go->Lf
open PySem.Shared renaming heap->Ov,TypeIs->Sw
open PySem.Str renaming ofString->Hu,empty->AaT
open PySem.Value renaming ref->Cg,none->Dk,bool->Ga,type->Hc,int->Pk,str->Vp,isStrOf->AaS,builtin->AaV
open PySem.W renaming Frag->Aj,tabIn->Dt,nsIn->Dw,kia_one->En,keepIn->Fi,fnOf->Gw,kitx_list->Js,exmOne->Ka,envX->Kn,cellsFrom_some->Kr,kitOne->Lj,codeIn->Ll,tabObj->Lo,kla_obj->Mq,kitx_tuple->Mv,findIn->Nj,kitx_dict->No,hideAll->Pl,callWith_K->Rh,methodObj->Rz,nsMap_none_of_in->Tf,instObj->Uu,CodeHd->Wh,lookIn->Wi,kla_fn->Ws,kitAny->Wt,hideAll_get->Xa,mroIn->Xd,mg_of->Xv,of_hideAll->Yd,codeRec_of->Ye,isNs_of_in->Yi,looks_findIn->Ys,specialIn->Zh,kitx_none->Zi,kitx_bool->Zj,plainGet->sK,kitx_int->t0,kitx_str->u8,takesIn->Aa9,OpenLaw->AaD,nsOkIn->AaL,WalkO->Ab0
open PySem.pickOrder renaming go->Yy
open Sum renaming inl->Iu,inr->Ut
open Sum.inl renaming inj->Od
open True renaming intro->Hg
open _root_ renaming List->Aa,Nat->Ai,Int->Ak,Option->Am,Bool->As,Array->Ay,if_pos->Be,if_neg->Bg,of_decide_eq_true->Bv,decide_eq_true_eq->Ch,decide_eq_true->Dl,decide_eq_false->Ds,if_false->Ec,if_true->Eh,String->Em,False->Fn,beq_self_eq_true->Fz,or_false->Hr,decide_eq_false_iff_not->Ir,beq_eq_false_iff_ne->Iw,Decidable->Jr,decide_true->Kh,decide_false->Kl,of_decide_eq_false->My,True->Oe,StateT->Oy,Unit->Qf,beq_iff_eq->Ts,not_or->Yb,DecidableEq->dL
noncomputable section
theorem om {p:Prop}(h:p:=by omega):p:=h
theorem li {p:Prop}(h:p:=by lia):p:=h
theorem kd {p:Prop}[Jr p](h:p:=by decide +kernel):p:=h
section
namespace _L
open PySem PySem.Spec PyProof.Rows
abbrev Key:=Sum Ak Ar
noncomputable def gA:Key->Ac->As
 |.inl k,v=>Value.isInt k v
 |.inr x,v=>AaS x v
noncomputable def OQ (w:Bx):Key->Ak
 |.inl k=>hashInt k
 |.inr x=>hashStr w x
theorem zU:∀ {k:Key} {v:Ac},gA k v=true->(∃ i t,k=Iu i/\v=Pk i t)\/(∃ x t,k=Ut x/\v=Vp x t)
 |.inl i,v,h=>by
  obtain⟨t,e⟩:=Value.isInt_shape (k:=i) (v:=v) h;exact .inl ⟨i,t,rfl,e⟩
 |.inr x,v,h=>by
  obtain⟨t,e⟩:=Value.isStrOf_shape (x:=x) (v:=v) h;exact .inr ⟨x,t,rfl,e⟩
theorem XB (i:Ak)(t:Te):gA (.inl i) (.int i t)=true:=by simp[gA,Value.isInt]
theorem XC (x:Ar)(t:Te):gA (.inr x) (.str x t)=true:=by simp[gA,AaS]
theorem LN (a b:Ak):decide ((Iu a:Key)=Iu b)=(a == b):=by
 by_cases e:a=b
 .subst e;simp
 .have h:¬ (Iu a:Key)=Iu b:=λq=>e (Od q)
  rw[Ds h];exact(Iw.mpr e).symm
theorem LQ (a b:Ar):decide ((Ut a:Key)=Ut b)=decide (a=b):=by
 by_cases e:a=b
 .subst e;simp
 .have h:¬ (Ut a:Key)=Ut b:=λq=>e (Sum.inr.inj q)
  rw[Ds h,Ds e]
theorem LO (a:Ak)(b:Ar):decide ((Iu a:Key)=Ut b)=false:=Ds (λq=>nomatch q)
theorem LP (a:Ar)(b:Ak):decide ((Ut a:Key)=Iu b)=false:=Ds (λq=>nomatch q)
noncomputable def zO (prog:Bf)(w:Bx):PySem.KeyKind prog w Key where
 is:=gA
 hash:=OQ w
 inj:=λv a b U Y=>by
  rcases zU U with⟨i,t,rfl,rfl⟩|⟨x,t,rfl,rfl⟩
  .rcases zU Y with⟨j,u,rfl,e⟩|⟨y,u,rfl,e⟩
   .injection e with Q _;rw[Q]
   .exact nomatch e
  .rcases zU Y with⟨j,u,rfl,e⟩|⟨y,u,rfl,e⟩
   .exact nomatch e
   .injection e with Q _;rw[Q]
 byValue:=λk v h=>by
  rcases zU h with⟨i,t,rfl,rfl⟩|⟨x,t,rfl,rfl⟩ <;> rfl
 pyHash:=λhv h=>by
  rcases zU hv with⟨i,t,rfl,rfl⟩|⟨x,t,rfl,rfl⟩
  .exact wpAny_pyHash_int h
  .exact wpAny_pyHash_str h
 eqBool:=λJ hv h=>by
  rcases zU J with⟨i,t,rfl,rfl⟩|⟨x,t,rfl,rfl⟩
  .rcases zU hv with⟨j,u,rfl,rfl⟩|⟨y,u,rfl,rfl⟩
   .rw[LN] at h;exact ZB h
   .rw[LO] at h;exact SeqAt.EqAt.int_str i t y u _ _ _ _ h
  .rcases zU hv with⟨j,u,rfl,rfl⟩|⟨y,u,rfl,rfl⟩
   .rw[LP] at h;exact SeqAt.EqAt.str_int x t j u _ _ _ _ h
   .rw[LQ] at h;exact wpAny_eqBool_str h
 «strs»:=λk x t v h=>by
  rcases zU h with⟨i,u,rfl,e⟩|⟨y,u,rfl,e⟩
  .exact nomatch e
  .injection e with Q _
   subst Q;cases v <;> rfl
theorem cM (prog:Bf)(w:Bx)(i:Ak)(t:Te):(zO prog w).is (.inl i) (.int i t)=true:=XB i t
theorem cN (prog:Bf)(w:Bx)(x:Ar)(t:Te):(zO prog w).is (.inr x) (.str x t)=true:=XC x t
end _L
namespace _L
open PySem PySem.Spec PyProof.Rows
inductive V where
 |non|bl (b:As)|int (i:Ak)|str (x:Ar)|byt (b:Ay UInt8)|flt (b:UInt64)|ref (a:Af)|ty (n:Em)
 deriving dL
def qK:V->Ac->Prop
 |.non,u=>u=Dk
 |.bl b,u=>u=Ga b
 |.int i,u=>∃ t,u=Pk i t
 |.str x,u=>∃ t,u=Vp x t
 |.byt b,u=>∃ t,u=Value.bytes b t
 |.flt b,u=>∃ t,u=Value.float b t
 |.ref a,u=>u=Cg a
 |.ty n,u=>u=Hc n
abbrev qJ:Aa V->Aa Ac->Prop:=Paired qK
theorem qJ.length {xs:Aa V}{us:Aa Ac}(r:qJ xs us):xs.length=us.length:=Paired.length r
theorem qJ.get:∀ {xs:Aa V} {us:Aa Ac} {i:Ai} {x:V},qJ xs us->xs[i]? = Ab x->∃ u,us[i]? = Ab u/\qK x u
 |_,_,_,_,.nil,e=>by simp at e
 |_,_,0,_,.cons r _,e=>by simp at e;subst e;exact⟨_,rfl,r⟩
 |_,_,i+1,x,.cons _ t,e=>by
  obtain⟨u,Y,Q⟩:=qJ.get (i:=i) (x:=x) t (by simpa using e)
  exact⟨u,by simpa using Y,Q⟩
theorem qJ.set {x:V}{u:Ac}(r:qK x u):∀ {xs:Aa V} {us:Aa Ac} (i:Ai),qJ xs us->qJ (xs.set i x) (us.set i u)
 |_,_,_,.nil=>.nil
 |_,_,0,.cons _ t=>.cons r t
 |_,_,i+1,.cons q t=>.cons q (qJ.set r i t)
theorem qJ.append {xs Q:Aa V}{us Y:Aa Ac}(h:qJ xs us)(s:qJ Q Y):qJ (xs++Q) (us++Y):=by
 induction h with
 |nil=>exact s
 |cons r t J=>exact .cons r J
theorem qJ.take:∀ {xs:Aa V} {us:Aa Ac} (n:Ai),qJ xs us->qJ (xs.take n) (us.take n)
 |_,_,0,_=>.nil
 |_,_,_+1,.nil=>.nil
 |_,_,n+1,.cons r t=>.cons r (qJ.take n t)
theorem qJ.drop:∀ {xs:Aa V} {us:Aa Ac} (n:Ai),qJ xs us->qJ (xs.drop n) (us.drop n)
 |_,_,0,r=>r
 |_,_,_+1,.nil=>.nil
 |_,_,n+1,.cons _ t=>qJ.drop n t
def vC:Am V->Am Ac->Prop
 |some v,Ab u=>qK v u
 |none,none=>Oe
 |_,_=>Fn
def KV {κ : Type}:Aa (κ × V)->Aa (κ × Ac)->Prop:=Paired λ(p:κ × V) (q:κ × Ac)=>p.1=q.1/\qK p.2 q.2
noncomputable def kV:Key->V
 |.inl i=>.int i
 |.inr x=>.str x
inductive HO where
  |lst (xs:Aa V)
  |tup (xs:Aa V)
  |dK (kvs:Aa (Key × V))|dT (kvs:Aa (Aa Key × V))
  |set (S:Ak->As) (n:Ai)
  |ins (C dx:Af) (fs:Aa (Ar × V))
  |own (x:Af)
  |xd (fs:Aa (Ar × V))
  |met (f x:Af)
  |rng (lo hi:Ak)
  |frz (o:Cq) (u:HO)
  |tbl (ps:Ay Ac)
  |ext (φ : Bo->Prop)
abbrev Hp:=Af->Am HO
noncomputable def upd (H:Hp)(a:Af)(o:HO):Hp:=λb=>if b=a then Ab o else H b
theorem qQ {H:Hp}{a:Af}{o:HO}:upd H a o a=Ab o:=by unfold upd;rw[Be rfl]
theorem qG {H:Hp}{a b:Af}{o:HO}(h:b≠a):upd H a o b=H b:=by unfold upd;rw[Bg h]
theorem CL {H:Hp}{a b:Af}{o u:HO}(h:H a=Ab o)(h':H b=Ab u)(d:o≠u):a≠b:=by
 intro e;subst e;rw[h] at h';exact d (Cy h')
theorem qT {H:Hp}{a b:Af}{o:HO}(h:H a=Ab o)(h':H b=none):a≠b:=by
 intro e;subst e;rw[h] at h';cases h'
section
variable (P:Bf)(w:Bx)
def zC (H:Hp)(h:Bo)(a:Af):HO->Prop
 |.lst J=>J.length<=sizeLine/\∃ (Y:Aa Ac) (n:Ai),qJ J Y/\h.get? a=Ab { cls:=.type "list",data:=.seq Y.toArray n }
 |.tup J=>J.length<=sizeLine/\∃ Y:Aa Ac,qJ J Y/\Qr h a Y.toArray
 |.dK Q=>Q.length<=sizeLine/\(a == Kc)=false/\∃ N,KV Q N/\h.DictOf (zO P w) a N
 |.dT Q=>Q.length<=sizeLine/\(a == Kc)=false/\∃ J:Aa (Aa Key × Af × Ac),
   Paired (λ(p:Aa Key × V) (q:Aa Key × Af × Ac)=>p.1=q.1/\H q.2.1=Ab (.tup (p.1.map kV))/\qK p.2 q.2.2) Q J /\
   ∃ o O T,h.get? a=Ab o/\o.ExactDict/\o.data=.dict O T/\O.toList=J.map (entryOfKey (Vq (zO P w)))/\(J.map (·.1)).Nodup
 |.set S n=>h.SetOf (Bj P w) a S n
 |.ins C G fs=>H G=Ab (.own a)/\fs.length<=1000/\G≠a/\h.get? a=Ab (Uu C G) /\
   ∃ U,h.Ns1 G U/\(∀ f,vC (fs.lookup f) (U f))/\Ab3 U (fs.map (·.1))
 |.own _=>∃ o,h.get? a=Ab o
 |.xd fs=>∃ U,h.Ns1 a U/\∀ f,vC (fs.lookup f) (U f)
 |.rng lo E=>∃ t u v,h.get? a=Ab { cls:=.type "range",data:=.fields #[.int lo t,.int E u,.int 1 v] }
 |.frz o u=>h.get? a=Ab o/\zC H h a u
 |.tbl I=>h.get? a=Ab { cls:=.none,data:=.fields I }
 |.met f x=>h.get? a=Ab (Rz (.ref f) (.ref x))
 |.ext φ => φ h/\(∃ o,h.get? a=Ab o)/\∀ L B:Bo,φ L->(∀ o,L.get? a=Ab o->B.get? a=Ab o)->φ B
def HOk (H:Hp)(h:Bo):Prop:=∀ a o,H a=Ab o->zC P w H h a o
end
section
variable {P:Bf}{w:Bx}{H H':Hp}{h h':Bo}{a:Af}{o:HO}
theorem zC.lt (x:zC P w H h a o):a<h.objs.size:=by
 cases o with
 |lst Y=>obtain⟨_,_,_,_,e⟩:=x;exact Ba e
 |tup Y=>obtain⟨_,_,_,p⟩:=x;exact p.lt
 |dK Q=>obtain⟨_,_,_,_,o,_,_,e,_⟩:=x;exact Ba e
 |dT Q=>obtain⟨_,_,_,_,o,_,_,e,_⟩:=x;exact Ba e
 |set S n=>obtain⟨o,_,_,_,e,_⟩:=x;exact Ba e
 |ins C G fs=>obtain⟨_,_,_,e,_⟩:=x;exact Ba e
 |own y=>obtain⟨_,e⟩:=x;exact Ba e
 |xd fs=>obtain⟨_,⟨_,_,_,e,_⟩,_⟩:=x;exact Ba e
 |rng lo J=>obtain⟨_,_,_,e⟩:=x;exact Ba e
 |frz N u=>obtain⟨e,_⟩:=x;exact Ba e
 |tbl U=>exact Ba (show h.get? a=Ab _ from x)
 |met f y=>exact Ba (show h.get? a=Ab _ from x)
 |ext φ => obtain⟨_,⟨_,e⟩,_⟩:=x;exact Ba e
theorem Paired.mapP {α β:Type}{F G:α->β->Prop}{Y:Aa α}{Q:Aa β}(h:Paired F Y Q)(f:∀ a b,F a b->G a b):Paired G Y Q:=by
 induction h with
 |nil=>exact .nil
 |cons r t J=>exact .cons (f _ _ r) J
theorem zC.stay (x:zC P w H h a o)(k:∀ b u,(b=a\/H b=Ab (.own a))->h.get? b=Ab u->h'.get? b=Ab u)
  (M:∀ b,H b=Ab (.own a)->H' b=Ab (.own a)) (T:∀ b xs,H b=Ab (.tup xs)->H' b=Ab (.tup xs)):zC P w H' h' a o:=by
 induction o with
 |lst xs=>obtain⟨z,U,n,r,e⟩:=x;exact⟨z,U,n,r,k _ _ (.inl rfl) e⟩
 |tup xs=>obtain⟨z,U,r,Q,e,c⟩:=x;exact⟨z,U,r,Q,k _ _ (.inl rfl) e,c⟩
 |dK N=>obtain⟨z,y,E,r,Q,Y,J,e,c⟩:=x;exact⟨z,y,E,r,Q,Y,J,k _ _ (.inl rfl) e,c⟩
 |dT N =>
  obtain⟨z,y,xs,r,Q,Y,J,e,c⟩:=x;exact⟨z,y,xs,Paired.mapP r λp q z=>⟨z.1,T _ _ z.2.1,z.2.2⟩,Q,Y,J,k _ _ (.inl rfl) e,c⟩
 |set S n=>obtain⟨Q,Y,J,t,e,c⟩:=x;exact⟨Q,Y,J,t,k _ _ (.inl rfl) e,c⟩
 |ins C g fs =>
  obtain⟨d,z,I,e,O,⟨G,Y,J,A,c⟩,r⟩:=x;exact⟨M _ d,z,I,k _ _ (.inl rfl) e,O,⟨G,Y,J,k _ _ (.inr d) A,c⟩,r⟩
 |own y=>obtain⟨Q,e⟩:=x;exact⟨Q,k _ _ (.inl rfl) e⟩
 |xd fs=>obtain⟨O,⟨G,Y,J,e,c⟩,r⟩:=x;exact⟨O,⟨G,Y,J,k _ _ (.inl rfl) e,c⟩,r⟩
 |rng lo j=>obtain⟨t,u,v,e⟩:=x;exact⟨t,u,v,k _ _ (.inl rfl) e⟩
 |frz Q u L=>obtain⟨e,q⟩:=x;exact⟨k _ _ (.inl rfl) e,L q⟩
 |tbl B =>
  have e:h.get? a=Ab { cls:=.none,data:=.fields B }:=x;show h'.get? a=Ab { cls:=.none,data:=.fields B };exact k a _ (.inl rfl) e
 |met f y =>
  have e:h.get? a=Ab (Rz (.ref f) (.ref y)):=x;show h'.get? a=Ab (Rz (.ref f) (.ref y));exact k a _ (.inl rfl) e
 |ext φ => obtain⟨p,⟨o,e⟩,st⟩:=x;exact⟨st _ _ p λo q=>k _ _ (.inl rfl) q,⟨o,k _ _ (.inl rfl) e⟩,st⟩
theorem HOk.lt (x:HOk P w H h)(e:H a=Ab o):a<h.objs.size:=(x a o e).lt
theorem HOk.fresh (x:HOk P w H h)(e:h.objs.size<=a):H a=none:=by
 cases q:H a with
 |none=>rfl
 |some u=>exact absurd (Bd (x.lt q) e) (Ej _)
theorem HOk.kept (x:HOk P w H h)(k:∀ b u,h.get? b=Ab u->h'.get? b=Ab u):HOk P w H h':=λa o e =>
 (x a o e).stay (λb u _ q=>k b u q) (λ_ q=>q) λ_ _ q=>q
theorem HOk.laid (x:HOk P w H h)(k:∀ b u,h.get? b=Ab u->h'.get? b=Ab u)(hp:h.objs.size<=a)(new:zC P w (upd H a o) h' a o):HOk P w (upd H a o) h':=λb u e=>by
 have Y:=x.fresh hp;by_cases Q:b=a
 .subst Q;rw[qQ] at e;cases e;exact new
 .rw[qG Q] at e
  exact(x b u e).stay (λc v _ q=>k c v q) (λc q=>by rw[qG (qT q Y)];exact q) λc J q=>by rw[qG (qT q Y)];exact q
end
def Rd (H:Hp)(a:Af)(u:HO):Prop:=H a=Ab u\/∃ o,H a=Ab (.frz o u)
theorem Rd.of {H:Hp}{a:Af}{u:HO}(h:H a=Ab u):Rd H a u:=.inl h
theorem Rd.ok {P:Bf}{w:Bx}{H:Hp}{h:Bo}{a:Af}{u:HO}(r:Rd H a u)(x:HOk P w H h):zC P w H h a u:=by
 rcases r with r|⟨o,r⟩
 .exact x a u r
 .obtain⟨_,q⟩:=x a _ r
  exact q
def Mut:Am HO->Prop
 |some (.lst _)=>Oe
 |some (.dK _)=>Oe
 |some (.dT _)=>Oe
 |some (.set _ _)=>Oe
 |some (.ins _ _ _)=>Oe
 |some (.ext _)=>Oe
 |_=>Fn
section
variable {P:Bf}{w:Bx}{H:Hp}{h h':Bo}{x e:Af}{o':HO}
theorem HOk.write (ok:HOk P w H h)(N:Mut (H x))(C:e=x\/H e=Ab (.own x))(k:∀ b u,b≠e->h.get? b=Ab u->h'.get? b=Ab u)(O:∃ u,h'.get? e=Ab u)
  (new:zC P w (upd H x o') h' x o'):HOk P w (upd H x o') h':=λb u q=>by
 have Y:∀ c y,H c=Ab (.own y)->c≠x:=λc y r z=>by subst z;rw[r] at N;exact N
 have J:∀ c G,H c=Ab (.tup G)->c≠x:=λc G r z=>by subst z;rw[r] at N;exact N
 by_cases U:b=x
 .subst U;rw[qQ] at q;cases q;exact new
 .rw[qG U] at q
  by_cases Q:b=e
  .have B:H b=Ab (.own x):=by
    rcases C with z|z
    .exact absurd (Q.trans z) U
    .rw[Q];exact z
   rw[q] at B;cases B;obtain⟨v,hv⟩:=O;exact⟨v,by rw[Q];exact hv⟩
  .refine(ok b u q).stay (λc v hc r=>k c v ?_ r) (λc r=>by rw[qG (Y c b r)];exact r) λc G r=>by rw[qG (J c G r)];exact r
   rcases hc with rfl|hc
   .exact Q
   .rintro rfl
    rcases C with z|z
    .exact Y c b hc z
    .rw[hc] at z;cases z;exact U rfl
end
structure Un (fs ex:Aa Af)(H H':Hp)(h h':Bo):Prop where
 keep:∀ b o,h.get? b=Ab o->H b=none->b ∉ fs->b ∉ ex->h'.get? b=Ab o
 slot:∀ b o,h.get? b=Ab o->H b=none->b∈fs->b ∉ ex->∃ sl,h'.get? b=Ab { o with slots:=sl }
 free:∀ b o,h.get? b=Ab o->H b=none->b ∉ ex->H' b=none
 there:∀ b o,h.get? b=Ab o->b ∉ ex->∃ o',h'.get? b=Ab o'
 tups:∀ b xs,H b=Ab (.tup xs)->H' b=Ab (.tup xs)
 frzs:∀ b o u,H b=Ab (.frz o u)->H' b=Ab (.frz o u)
 tbls:∀ b ps,H b=Ab (.tbl ps)->∃ more,H' b=Ab (.tbl (ps++more))
section
variable {fs fs' ex ex':Aa Af}{H H1 H2:Hp}{h h1 h2 h':Bo}{a x e:Af}{o:HO}
theorem Un.any (u:Un fs ex H H1 h h1){b:Af}{Q:Cq}(q:h.get? b=Ab Q)(n:H b=none)(J:b ∉ ex):∃ U,h1.get? b=Ab { Q with slots:=U }:=by
 by_cases Y:b∈fs
 .exact u.slot b Q q n Y J
 .exact⟨Q.slots,u.keep b Q q n Y J⟩
theorem Un.kept (k:∀ b u,h.get? b=Ab u->h'.get? b=Ab u):Un fs ex H H h h':=
 ⟨λb Q q _ _ _=>k b Q q,λb Q q _ _ _=>⟨Q.slots,k b Q q⟩,λ_ _ _ n _=>n,λb Q q _=>⟨Q,k b Q q⟩,λ_ _ q=>q,λ_ _ _ q=>q,λ_ Y q=>⟨#[],by rw[q];simp⟩⟩
theorem Un.refl:Un fs ex H H h h:=Un.kept λ_ _ q=>q
theorem Un.laid (k:∀ b u,h.get? b=Ab u->h'.get? b=Ab u)(hp:h.objs.size<=a)(Q:H a=none):Un fs ex H (upd H a o) h h' where
 keep:=λb u q _ _ _=>k b u q
 slot:=λb u q _ _ _=>⟨u.slots,k b u q⟩
 free:=λb u q n _=>by rw[qG (Cp (Bd (Ba q) hp))];exact n
 there:=λb u q _=>⟨u,k b u q⟩
 tups:=λb Y q=>by rw[qG (qT q Q)];exact q
 frzs:=λb u Y q=>by rw[qG (qT q Q)];exact q
 tbls:=λb J q=>⟨#[],by rw[qG (qT q Q),q];simp⟩
theorem Un.write (Y:Mut (H x))(B:e=x\/H e=Ab (.own x))(k:∀ b u,b≠e->h.get? b=Ab u->h'.get? b=Ab u)(J:∃ u,h'.get? e=Ab u):Un fs ex H (upd H x o) h h':=by
 have N:∀ b,H b=none->b≠x:=λb n z=>by subst z;rw[n] at Y;exact Y
 have G:∀ b,H b=none->b≠e:=λb n z=>by
  subst z;rcases B with r|r
  .exact N b n r
  .rw[n] at r;cases r
 have U:∀ b u,H b=Ab u->¬ Mut (Ab u)->b≠x:=λb u q C z=>by subst z;rw[q] at Y;exact C Y
 refine⟨λb u q n _ _=>k b u (G b n) q,λb u q n _ _=>⟨u.slots,k b u (G b n) q⟩,λb u q n _=>by rw[qG (N b n)];exact n,λb u q _=>?_,
  λb O q=>by rw[qG (U b _ q λz=>z)];exact q,λb u O q=>by rw[qG (U b _ q λz=>z)];exact q,λb L q=>⟨#[],by rw[qG (U b _ q λz=>z),q];simp⟩⟩
 by_cases Q:b=e
 .subst Q;exact J
 .exact⟨u,k b u Q q⟩
end
noncomputable def trk (h:Bo)(H:Hp):Aa Af:=(Cu h.objs.size).filter λa=>(H a).isSome
noncomputable def kW (h:Bo)(H:Hp):Bo:=Pl h (trk h H)
theorem X5 (h:Bo)(H:Hp):(kW h H).objs.size=h.objs.size:=PySem.W.hideAll_size _ _
theorem VM {h:Bo}{H:Hp}{b:Af}{o:Cq}(e:h.get? b=Ab o)(n:H b=none):(kW h H).get? b=Ab o:=
 Xa _ e λQ=>by
  have q:(H b).isSome=true:=(Ft.mp Q).2;rw[n] at q;simp at q
theorem F2 {h:Bo}{H:Hp}{b:Af}{o:Cq}(e:(kW h H).get? b=Ab o):h.get? b=Ab o/\H b=none:=by
 have Q:h.get? b=Ab o:=Yd (trk h H) e;refine⟨Q,?_⟩;cases q:H b with
 |none=>rfl
 |some x =>
  have Y:b∈trk h H:=Ft.mpr ⟨Du.mpr (Ba Q),by simp[q]⟩
  have z:(kW h H).get? b=none:=PySem.W.hideAll_none (trk h H) Y;rw[z] at e;cases e
end _L
namespace _L
open PySem PySem.Spec PyProof.Rows
variable {E:Ac->Ag->Prop}{t':Ai}{g':Ay Aa8}{d':Drawn}{M:Ky}{Q:Qf->Ag->Prop}
noncomputable def w9:Aa Ar:=["law","_law_right","by_hull","pair_bound","hub","greatest_often"]
def MU (mg:Ar->Am Ac)(h:Bo):Prop:=∃ Y o,mg "__builtins__" = Ab (.ref Y)/\Y≠Qe/\h.get? Y=Ab o/\o.cls=.type "module" /\ o.dict=Ab Qe/\o.data=.plain
structure Mod (K:Aj)(mg:Ar->Am Ac)(base:Bo):Prop where
 kin:K.In base
 glob:base.Ns Ct mg
 blt:∃ mb,base.Ns Qe mb/\∀ x:Ar,x ≠ "__name__" -> mb x=Gi x
 nolimit:base.NoLimit
 bm:MU mg base
 code:∀ x∈w9,∀ c T,Dt K x=Ab (c,T)->Wh base c T
 inj:∀ x∈w9,∀ y∈w9,∀ c d T,Dt K x=Ab (c,T)->Dt K y=Ab (d,T)->x=y
structure Cx where
 prog:Bf
 w:Bx
 K:Aj
 mg:Ar->Am Ac
 base:Bo
 A:Br
 N:Aa Ar
 s₀:Ag
 H₀:Hp
 env:Il
 outer:Aa Il
 stack:Aa Il
 ex:Aa Af
 fn:Ar->As
 calm:As
 pn:Aa (Af × Cq)
 xe:Ac->Ag->Prop
noncomputable def frs (l:Aa Il):Aa Af:=l.filterMap (·.frame)
abbrev Cx.fs (X:Cx):Aa Af:=frs X.outer
def Vis (Y:El)(x:Ar):Prop:=Y.names.lookup x=Ab .local \/ Y.names.lookup x=Ab .cell\/Y.names.lookup x=Ab .free
def Loc (Y:El)(x:Ar):Prop:=Y.names.lookup x=Ab .local \/ Y.names.lookup x=Ab .cell
def MX (env:Il)(h:Bo)(m:Ar->Am Ac)(x:Ar)(u:Ac):Prop:=
 (env.kindOf x=Ab .local /\ m x=Ab u)\/((env.kindOf x=Ab .cell\/env.kindOf x=Ab .free)/\∃ c,env.cells.lookup x=Ab c/\h.IsCell c (Ab u))
structure Cx.Ok (X:Cx):Prop where
 mod:Mod X.K X.mg X.base
 kind:X.env.scope.kind=.function
 glob:X.env.globals=Ct
 blt:X.env.builtins=Qe
 above:X.s₀.heap.objs.size<=X.env.locals
 inj:∀ x y c,X.env.cells.lookup x=Ab c->X.env.cells.lookup y=Ab c->x=y
 has:∀ x,(X.env.kindOf x=Ab .cell\/X.env.kindOf x=Ab .free)->∃ c,X.env.cells.lookup x=Ab c
 cab:∀ x c,X.fn x=true->X.env.cells.lookup x=Ab c->X.s₀.heap.objs.size<=c
 hd:X.calm=true->X.A.handled=none
 frames:X.A.frames=Ab X.stack
 stk:X.stack=X.outer\/(X.stack=X.env::X.outer/\X.env.frame=Ab X.env.locals)
 exf:∀ b∈X.ex,b≠X.env.locals/\∀ x c,X.env.cells.lookup x=Ab c->c≠b
 bs:∀ b o,X.base.get? b=Ab o->X.s₀.heap.get? b=Ab o/\X.H₀ b=none
 bsz:X.base.objs.size<=X.s₀.heap.objs.size
 noex:∀ b o,X.base.get? b=Ab o->b ∉ X.ex
 exfs:∀ b∈X.ex,b ∉ X.fs
 funs:X.s₀.heap.FunFrames X.base X.outer
 frf:∀ b∈X.fs,X.H₀ b=none
structure Inv (X:Cx)(pins:Aa (Af × Cq))(σ : Aa (Am V))(H:Hp)(s:Ag):Prop where
 ok:X.Ok
 os:s.os=X.s₀.os
 bare:Of s.gens
 base:Un X.fs X.ex X.H₀ H X.s₀.heap s.heap
 loc:∃ m,s.heap.Ns X.env.locals m/\∀ (i:Ai) (x:Ar) (v:V),X.N[i]? = Ab x->σ[i]? = Ab (Ab v)->Vis X.env.scope x->∃ u,qK v u/\MX X.env s.heap m x u
 cell:∀ x c,X.env.cells.lookup x=Ab c->∃ v,s.heap.IsCell c v
 free:H X.env.locals=none
 freeC:∀ x c,X.env.cells.lookup x=Ab c->H c=none
 pin:∀ p∈X.pn++pins,s.heap.get? p.1=Ab p.2/\H p.1=none/\p.1≠X.env.locals/\p.1 ∉ X.fs/\∀ v,p.2.data≠.cell v
 hok:HOk X.prog X.w H s.heap
 len:σ.length=X.N.length
section
variable {X:Cx}{pins:Aa (Af × Cq)}{σ : Aa (Am V)}{H H':Hp}{s:Ag}{h':Bo}
theorem Cx.Ok.nofr (ok:X.Ok){b:Af}{o:Cq}(e:X.base.get? b=Ab o):b ∉ X.fs:=λY=>by
 have:=(ok.funs.mem Y).1;rw[e] at this;cases this
theorem Inv.bs (I:Inv X pins σ H s):∀ b o,X.base.get? b=Ab o->s.heap.get? b=Ab o/\H b=none:=λb o e =>
 ⟨I.base.keep b o (I.ok.bs b o e).1 (I.ok.bs b o e).2 (I.ok.nofr e) (I.ok.noex b o e),I.base.free b o (I.ok.bs b o e).1 (I.ok.bs b o e).2 (I.ok.noex b o e)⟩
theorem Inv.bk (I:Inv X pins σ H s):∀ b o,X.base.get? b=Ab o->s.heap.get? b=Ab o:=λb o e=>(I.bs b o e).1
theorem Inv.mod (I:Inv X pins σ H s):Mod X.K X.mg X.base:=I.ok.mod
theorem Inv.kIn (I:Inv X pins σ H s):X.K.In s.heap:=I.ok.mod.kin.keeps I.bk
theorem Inv.nolimit (I:Inv X pins σ H s):s.heap.NoLimit:=I.ok.mod.nolimit.keeps I.bk
theorem Inv.lt (I:Inv X pins σ H s):X.env.locals<s.heap.objs.size:=let ⟨_,Y,_⟩:=I.loc;Y.lt
theorem Inv.sz (I:Inv X pins σ H s):X.s₀.heap.objs.size<=s.heap.objs.size:=Dc I.ok.above (Eo I.lt)
theorem Inv.nofs (I:Inv X pins σ H s){a:Af}(h:s.heap.objs.size<=a):a ∉ X.fs:=λY=>by
 obtain⟨_,o,J,_⟩:=I.ok.funs.mem Y;exact absurd (Bd (Ba J) (Dc I.sz h)) (Ej _)
theorem Inv.cne (I:Inv X pins σ H s):∀ x c,X.env.cells.lookup x=Ab c->c≠X.env.locals:=λx c e z=>by
 obtain⟨v,o,G,U⟩:=I.cell x c e;obtain⟨m,⟨C,N,O,J,Y,_⟩,_⟩:=I.loc;rw[z,J] at G;cases G;rw[Y] at U;cases U
theorem Inv.funs (I:Inv X pins σ H s):s.heap.FunFrames X.base X.outer:=by
 have all:∀ (l:Aa Il),(∀ b∈frs l,b∈X.fs)->X.s₀.heap.FunFrames X.base l->s.heap.FunFrames X.base l:=by
  intro l
  induction l with
  |nil=>intro _ _;trivial
  |cons B r G =>
   intro hs T;obtain⟨O,⟨L,o,J,C,A,N⟩,w⟩:=T;have U:L∈X.fs:=hs L (by unfold frs;rw[Gp,J];exact Cn)
   obtain⟨j,e⟩:=I.base.slot L o A (I.ok.frf L U) U λz=>I.ok.exfs L z U;exact⟨O,⟨L,_,J,C,e,N⟩,G (λb Y=>hs b (by unfold frs;rw[Gp,J];exact Bp _ Y)) w⟩
 exact all X.outer (λ_ Y=>Y) I.ok.funs
theorem Inv.stack (I:Inv X pins σ H s):s.heap.FunFrames X.base X.stack:=by
 rcases I.ok.stk with e|⟨e,Y⟩
 .rw[e];exact I.funs
 .rw[e]
  obtain⟨m,J,_⟩:=I.loc;refine .cons (by rw[I.ok.kind];decide) Y J ?_ I.funs
  exact Jw (Dc I.ok.bsz I.ok.above)
theorem Inv.stkSub (I:Inv X pins σ H s):∀ b∈frs X.stack,b∈X.env.locals::X.fs:=λb Y=>by
 rcases I.ok.stk with e|⟨e,J⟩
 .rw[e] at Y;exact Bp _ Y
 .rw[e] at Y
  unfold frs at Y;rw[Gp,J] at Y;exact Y
theorem Inv.stkFree (I:Inv X pins σ H s):∀ b∈frs X.stack,H b=none:=λb hb=>by
 rcases Az.mp (I.stkSub b hb) with e|hb
 .rw[e];exact I.free
 .obtain⟨_,o,Y,_⟩:=I.ok.funs.mem hb
  exact I.base.free b o Y (I.ok.frf b hb) λz=>I.ok.exfs b z hb
theorem Inv.step {g':Ay Aa8}{t':Ai}{d':Drawn}{ch:Aa Af}(I:Inv X pins σ H s)
  (G:∀ b∈ch,(b∈X.ex\/X.s₀.heap.objs.size<=b)/\b≠X.env.locals/\(∀ x c,X.env.cells.lookup x=Ab c->c≠b)/\∀ p∈X.pn++pins,p.1≠b)
  (keep:∀ b o,b≠X.env.locals->b ∉ X.fs->b ∉ ch->s.heap.get? b=Ab o->H b=none->h'.get? b=Ab o)
  (slot:∀ b o,b≠X.env.locals->b∈X.fs->b ∉ ch->s.heap.get? b=Ab o->H b=none->∃ h,h'.get? b=Ab { o with slots:=h }) (free:∀ b o,b ∉ ch->s.heap.get? b=Ab o->H b=none->H' b=none)
  (there:∀ b o,b ∉ ch->s.heap.get? b=Ab o->∃ o',h'.get? b=Ab o')
  (L:∀ b xs,H b=Ab (.tup xs)->H' b=Ab (.tup xs)) (w:∀ b o u,H b=Ab (.frz o u)->H' b=Ab (.frz o u)) (T:∀ b ps,H b=Ab (.tbl ps)->∃ A,H' b=Ab (.tbl (ps++A)))
  (ns:∀ m,s.heap.Ns X.env.locals m->h'.Ns X.env.locals m) (za:HOk X.prog X.w H' h') (hg:Of g') :
  Inv X pins σ H' { s with heap:=h',gens:=g',drawn:=d',toks:=t' }:=by
 have y:∀ b o,X.s₀.heap.get? b=Ab o->b≠X.env.locals:=λb o e=>Cp (Bd (Ba e) I.ok.above);have O:∀ b o,X.s₀.heap.get? b=Ab o->b ∉ X.ex->b ∉ ch:=λb o e Y C=>by
  rcases (G b C).1 with z|z
  .exact Y z
  .exact absurd (Bd (Ba e) z) (Ej _)
 have J:∀ x c,X.env.cells.lookup x=Ab c->∀ v,s.heap.IsCell c v->h'.IsCell c v:=λx c e v ⟨o,B,f⟩=>by
  have U:c ∉ ch:=λz=>(G c z).2.2.1 x c e rfl;by_cases hc:c∈X.fs
  .obtain⟨h,q⟩:=slot c o (I.cne x c e) hc U B (I.freeC x c e)
   exact⟨_,q,f⟩
  .exact⟨o,keep c o (I.cne x c e) hc U B (I.freeC x c e),f⟩
 refine⟨I.ok,I.os,hg,⟨λb o e n C Y=>?_,λb o e n C Y=>?_,λb o e n Y=>?_,λb o e Y=>?_,λb xs e=>L b xs (I.base.tups b xs e),λb o xs e=>w b o xs (I.base.frzs b o xs e),λb ps e=>?_⟩,?_,λx c e=>?_,?_,λx c e=>?_,λp hp=>?_,za,I.len⟩
 .exact keep b o (y b o e) C (O b o e Y) (I.base.keep b o e n C Y) (I.base.free b o e n Y)
 .obtain⟨h,N⟩:=I.base.slot b o e n C Y
  obtain⟨g,j⟩:=slot b _ (y b o e) C (O b o e Y) N (I.base.free b o e n Y);exact⟨g,j⟩
 .obtain⟨o',N⟩:=I.base.there b o e Y
  exact free b o' (O b o e Y) N (I.base.free b o e n Y)
 .obtain⟨o',N⟩:=I.base.there b o e Y
  exact there b o' (O b o e Y) N
 .obtain⟨m1,N⟩:=I.base.tbls b ps e
  obtain⟨m2,j⟩:=T b _ N;exact⟨m1++m2,by rw[j,Array.append_assoc]⟩
 .obtain⟨m,hn,hl⟩:=I.loc
  refine⟨m,ns m hn,λi x v N j e3=>?_⟩;obtain⟨u,r,l⟩:=hl i x v N j e3;refine⟨u,r,?_⟩;rcases l with l|⟨k,c,e,z⟩
  .exact .inl l
  .exact .inr ⟨k,c,e,J x c e _ z⟩
 .obtain⟨v,z⟩:=I.cell x c e
  exact⟨v,J x c e v z⟩
 .obtain⟨m,⟨o,_,_,B,_⟩,_⟩:=I.loc
  exact free _ o (λz=>(G _ z).2.1 rfl) B I.free
 .obtain⟨v,o,B,f⟩:=I.cell x c e
  exact free c o (λz=>(G c z).2.2.1 x c e rfl) B (I.freeC x c e)
 .obtain⟨e,n,ne,nf,d⟩:=I.pin p hp
  have U:p.1 ∉ ch:=λz=>(G p.1 z).2.2.2 p hp rfl;exact⟨keep p.1 p.2 ne nf U e n,free p.1 p.2 U e n,ne,nf,d⟩
theorem Inv.un {t':Ai}(I:Inv X pins σ H s)(u:Un X.fs [] H H' s.heap h')(G:HOk X.prog X.w H' h'):Inv X pins σ H' { s with heap:=h',toks:=t' }:=by
 obtain⟨m,⟨o,T,j,O,r⟩,_⟩:=id I.loc;obtain⟨y,B⟩:=u.any O I.free (by simp)
 exact I.step (g':=s.gens) (d':=s.drawn) (ch:=[]) (λ_ z=>nomatch z) (λb o _ J _ e n=>u.keep b o e n J (by simp)) (λb o _ J _ e n=>u.slot b o e n J (by simp)) (λb o _ e n=>u.free b o e n (by simp)) (λb o _ e=>u.there b o e (by simp)) u.tups u.frzs u.tbls (λw C=>by
  obtain⟨A,U,N,Y,L⟩:=C;rw[O] at Y;cases Y;exact⟨_,U,N,B,L⟩) G I.bare
theorem Inv.call {t':Ai}{d':Drawn}{ch:Aa Af}(I:Inv X pins σ H s)(u:Un (frs X.stack) ch H H' s.heap h')(C:HOk X.prog X.w H' h')(T:Of g')
  (U:∀ b∈ch,(b∈X.ex\/X.s₀.heap.objs.size<=b)/\b≠X.env.locals/\(∀ x c,X.env.cells.lookup x=Ab c->c≠b)/\∀ p∈X.pn++pins,p.1≠b) :
  Inv X pins σ H' { s with heap:=h',gens:=g',drawn:=d',toks:=t' }:=by
 obtain⟨m,⟨o,j,g,B,r⟩,_⟩:=id I.loc;obtain⟨d,O⟩:=u.any B I.free λz=>(U _ z).2.1 rfl;exact I.step (ch:=ch) U (λb o O L Y e n=>u.keep b o e n (λz=>(Az.mp (I.stkSub b z)).elim O L) Y) (λb o _ _ Y e n=>u.any e n Y) (λb o Y e n=>u.free b o e n Y) (λb o Y e=>u.there b o e Y) u.tups u.frzs u.tbls (λq w=>by
  obtain⟨y,G,N,J,A⟩:=w;rw[B] at J;cases J;exact⟨_,G,N,O,A⟩) C T
theorem Inv.turned {t':Ai}{it:Af}(I:Inv X pins σ H s)(k:∀ b o,b≠it->s.heap.get? b=Ab o->h'.get? b=Ab o)(B:H it=none)(U:it≠X.env.locals)
  (h1:it∈X.ex\/X.s₀.heap.objs.size<=it) (h2:∀ x c,X.env.cells.lookup x=Ab c->c≠it) (h3:∀ p∈X.pn++pins,p.1≠it):Inv X pins σ H { s with heap:=h',toks:=t' }:=by
 have J:∀ b u,H b=Ab u->b≠it:=λb u e z=>by rw[z,B] at e;cases e
 refine I.step (g':=s.gens) (d':=s.drawn) (ch:=[it]) (λb G=>?_) (λb o _ _ Y e _=>k b o (λz=>Y (by simp[z])) e) (λb o _ _ Y e _=>⟨o.slots,k b o (λz=>Y (by simp[z])) e⟩) (λ_ _ _ _ n=>n)
  (λb o Y e=>⟨o,k b o (λz=>Y (by simp[z])) e⟩) (λ_ _ e=>e) (λ_ _ _ e=>e) (λb T e=>⟨#[],by rw[e];simp⟩) (λm O=>?_) (λb u e=>?_) I.bare
 .have e:b=it:=by simpa using G
  subst e;exact⟨h1,U,h2,h3⟩
 .obtain⟨o,N,C,L,r⟩:=O
  exact⟨o,N,C,k _ o (Gb U) L,r⟩
 .refine(I.hok b u e).stay (λc v Y q=>k c v ?_ q) (λ_ q=>q) λ_ _ q=>q
  rcases Y with z|z
  .rw[z];exact J b u e
  .exact J c _ z
theorem Inv.tok (I:Inv X pins σ H s)(t:Ai):Inv X pins σ H { s with toks:=t }:=I.un (h':=s.heap) (t':=t) Un.refl I.hok
theorem Inv.kept {t':Ai}(I:Inv X pins σ H s)(k:∀ b u,s.heap.get? b=Ab u->h'.get? b=Ab u):Inv X pins σ H { s with heap:=h',toks:=t' }:=I.un (Un.kept k) (I.hok.kept k)
theorem Inv.laid {a:Af}{o:HO}{t':Ai}(I:Inv X pins σ H s)(k:∀ b u,s.heap.get? b=Ab u->h'.get? b=Ab u)(hp:s.heap.objs.size<=a)(new:zC X.prog X.w (upd H a o) h' a o) :
  Inv X pins σ (upd H a o) { s with heap:=h',toks:=t' }:=I.un (Un.laid k hp (I.hok.fresh hp)) (I.hok.laid k hp new)
theorem Inv.write {x e:Af}{o:HO}{t':Ai}(I:Inv X pins σ H s)(J:Mut (H x))(U:e=x\/H e=Ab (.own x))(k:∀ b u,b≠e->s.heap.get? b=Ab u->h'.get? b=Ab u)(Y:∃ u,h'.get? e=Ab u)
  (new:zC X.prog X.w (upd H x o) h' x o):Inv X pins σ (upd H x o) { s with heap:=h',toks:=t' }:=I.un (Un.write J U k Y) (I.hok.write J U k Y new)
theorem Inv.pins_of {Y:Aa (Af × Cq)}(I:Inv X pins σ H s)(h:∀ p∈Y,s.heap.get? p.1=Ab p.2/\H p.1=none/\p.1≠X.env.locals/\p.1 ∉ X.fs/\∀ v,p.2.data≠.cell v):Inv X Y σ H s:=
 ⟨I.ok,I.os,I.bare,I.base,I.loc,I.cell,I.free,I.freeC,λp J=>(By.mp J).elim (λz=>I.pin p (Dh _ z)) (h p),I.hok,I.len⟩
theorem fT {N:Aa Ar}(U:N.Nodup){i j:Ai}{x:Ar}(a:N[i]? = Ab x)(b:N[j]? = Ab x):i=j:=by
 obtain⟨G,Y⟩:=Aw.mp a;obtain⟨O,J⟩:=Aw.mp b;exact(Og U).mp (Y.trans J.symm)
theorem dE {A:Br}{i:Ai}{x:Ar}{v:V}{u:Ac}(I:Inv X pins σ H s)(hN:X.N.Nodup)(hi:X.N[i]? = Ab x)(U:Loc X.env.scope x)(r:qK v u)
  (h:∀ s',Inv X pins (σ.set i (Ab v)) H s'->(∃ a,Ew a s.heap s'.heap/\(a=X.env.locals\/X.env.cells.lookup x=Ab a))->Q () s') (hf:X.fn x=true\/X.env.scope.names.lookup x=Ab .local:=by first|exact .inl rfl|exact .inr rfl|assumption):Ao M A (storeName X.env x u) Q E s:=by
 obtain⟨m,hn,hl⟩:=id I.loc;have w:(X.env.scope.kind == .class||(X.env.scope.kind == .module&&X.env.locals != X.env.globals))=false:=by rw[I.ok.kind];rfl
 have O:i<σ.length:=by rw[I.len];exact(Aw.mp hi).1
 have cne:=I.cne;have J:∀ {a:Af} {h':Bo},(∃ o,s.heap.get? a=Ab o/\H a=none)->Ew a s.heap h'->HOk X.prog X.w H h':=λ{a h'} ha hs b ob e=>by
  obtain⟨_,_,G⟩:=ha;refine(I.hok b ob e).stay (λc w' hc q=>(hs.2 c ?_).trans q) (λ_ q=>q) λ_ _ q=>q;rintro rfl;rcases hc with rfl|hc
  .rw[G] at e;cases e
  .rw[G] at hc;cases hc
 rcases U with hk|hk
 .refine wpAny_storeName_local hk hn (λh' zb hs=>?_) w
  obtain⟨oL,_,_,zc,_⟩:=id hn;refine h _ ⟨I.ok,I.os,I.bare,⟨λb o e n L U=>?_,λb o e n L U=>?_,I.base.free,λb o e U=>?_,I.base.tups,I.base.frzs,I.base.tbls⟩,⟨_,zb,λj y v' Y N e3=>?_⟩,λy c e=>?_,I.free,I.freeC,λp hp=>?_,J ⟨oL,zc,I.free⟩ hs,by simpa using I.len⟩ ⟨_,hs,.inl rfl⟩
  .exact(hs.2 b (Cp (Bd (Ba e) I.ok.above))).trans (I.base.keep b o e n L U)
  .obtain⟨sl,Y⟩:=I.base.slot b o e n L U
   exact⟨sl,(hs.2 b (Cp (Bd (Ba e) I.ok.above))).trans Y⟩
  .obtain⟨o',Y⟩:=I.base.there b o e U
   exact⟨o',(hs.2 b (Cp (Bd (Ba e) I.ok.above))).trans Y⟩
  .by_cases C:j=i
   .subst C
    rw[hi] at Y;cases Y;rw[Dd O] at N;cases N;exact⟨u,r,.inl ⟨hk,by simp⟩⟩
   .rw[Ce (Gb C)] at N
    obtain⟨u',r',q⟩:=hl j y v' Y N e3;refine⟨u',r',?_⟩;rcases q with⟨k,e⟩|⟨k,c,e,z⟩
    .refine .inl ⟨k,?_⟩
     have:y≠x:=λe=>C (fT hN Y (e▸hi));simp[this,e]
    .exact .inr ⟨k,c,e,z.sameBut hs (cne y c e)⟩
  .obtain⟨w',z⟩:=I.cell y c e
   exact⟨w',z.sameBut hs (cne y c e)⟩
  .obtain⟨e,n,ne,nf,d⟩:=I.pin p hp
   exact⟨(hs.2 p.1 ne).trans e,n,ne,nf,d⟩
 .have B:X.fn x=true:=by
   rcases hf with z|z
   .exact z
   .rw[z] at hk;cases hk
  obtain⟨c,hc⟩:=I.ok.has x (.inl hk);obtain⟨w',z⟩:=I.cell x c hc;refine wpAny_storeName_cell I.ok.kind hk hc z (λh' f hs=>?_);obtain⟨oc,za,g⟩:=id z;refine h { s with heap:=h' } ⟨I.ok,I.os,I.bare,⟨λb o e n L U=>?_,λb o e n L U=>?_,I.base.free,λb o e U=>?_,I.base.tups,I.base.frzs,I.base.tbls⟩,⟨m,hn.sameBut hs (Gb (cne x c hc)),λj y v' Y N e3=>?_⟩,λy c' e=>?_,I.free,I.freeC,λp hp=>?_,J ⟨oc,za,I.freeC x c hc⟩ hs,by simpa using I.len⟩ ⟨c,hs,.inr hc⟩
  .exact(hs.2 b (Cp (Bd (Ba e) (I.ok.cab x c B hc)))).trans (I.base.keep b o e n L U)
  .obtain⟨sl,Y⟩:=I.base.slot b o e n L U
   exact⟨sl,(hs.2 b (Cp (Bd (Ba e) (I.ok.cab x c B hc)))).trans Y⟩
  .obtain⟨o',Y⟩:=I.base.there b o e U
   exact⟨o',(hs.2 b (Cp (Bd (Ba e) (I.ok.cab x c B hc)))).trans Y⟩
  .by_cases C:j=i
   .subst C
    rw[hi] at Y;cases Y;rw[Dd O] at N;cases N;exact⟨u,r,.inr ⟨.inl hk,c,hc,f⟩⟩
   .rw[Ce (Gb C)] at N
    obtain⟨u',r',q⟩:=hl j y v' Y N e3;refine⟨u',r',?_⟩;rcases q with q|⟨k,c',e,z'⟩
    .exact .inl q
    .refine .inr ⟨k,c',e,z'.sameBut hs ?_⟩
     rintro rfl;exact C (fT hN Y (I.ok.inj _ _ _ e hc▸hi))
  .by_cases T:c'=c
   .subst T;exact⟨_,f⟩
   .obtain⟨w2,z2⟩:=I.cell y c' e
    exact⟨w2,z2.sameBut hs T⟩
  .obtain⟨e,n,ne,nf,d⟩:=I.pin p hp
   refine⟨(hs.2 p.1 ?_).trans e,n,ne,nf,d⟩;intro q;rw[q,za] at e;have q':oc=p.2:=Cy e;exact d w' (by rw[<- q'];exact g)
theorem j7 {A:Br}{i:Ai}{x:Ar}{v:V}{u:Ac}(I:Inv X pins σ H s)(U:X.N.Nodup)(hi:X.N[i]? = Ab x)(Y:Loc X.env.scope x)(r:qK v u)
  (h:∀ s',Inv X pins (σ.set i (Ab v)) H s'->Q () s') (J:X.fn x=true\/X.env.scope.names.lookup x=Ab .local:=by first|exact .inl rfl|exact .inr rfl|assumption):Ao M A (storeName X.env x u) Q E s:=
 dE I U hi Y r (λs' G _=>h s' G) J
theorem Inv.call' {s':Ag}{ch:Aa Af}(I:Inv X pins σ H s)(U:s'.os=s.os)(u:Un (frs X.stack) ch H H' s.heap s'.heap)(Y:HOk X.prog X.w H' s'.heap)(G:Of s'.gens)
  (J:∀ b∈ch,(b∈X.ex\/X.s₀.heap.objs.size<=b)/\b≠X.env.locals/\(∀ x c,X.env.cells.lookup x=Ab c->c≠b)/\∀ p∈X.pn++pins,p.1≠b):Inv X pins σ H' s':=by
 obtain⟨h',g',d',t',N⟩:=s';have e:N=s.os:=U;subst e;exact I.call (g':=g') (t':=t') (d':=d') u Y G J
end
abbrev XK:=Ac->Am Af->Hp->Prop
abbrev St:=Aa (Am V)
abbrev VK:=V->Hp->Prop
abbrev TE:=St->Hp->VK->Prop
abbrev TT:=St->Hp->(As->Hp->Prop)->Prop
abbrev TA:=St->Hp->(Aa V->Hp->Prop)->Prop
structure Ends where
 nx:St->Hp->Prop
 rt:VK
 bk:St->Hp->Prop:=λ_ _=>Fn
 ct:St->Hp->Prop:=λ_ _=>Fn
abbrev TS:=Ends->St->Hp->Prop
inductive EP (X:Cx)(pins:Aa (Af × Cq))(σ : St)(Q:VK)(u:Ac)(s':Ag):Prop
 |mk (v:V) (H':Hp) (I:Inv X pins σ H' s') (r:qK v u) (q:Q v H'):EP X pins σ Q u s'
inductive TP (X:Cx)(pins:Aa (Af × Cq))(σ : St)(Q:As->Hp->Prop)(b:As)(s':Ag):Prop
 |mk (H':Hp) (I:Inv X pins σ H' s') (q:Q b H'):TP X pins σ Q b s'
inductive AP (X:Cx)(pins:Aa (Af × Cq))(σ : St)(Q:Aa V->Hp->Prop)(us:Aa Ac)(s':Ag):Prop
 |mk (vs:Aa V) (H':Hp) (I:Inv X pins σ H' s') (r:qJ vs us) (q:Q vs H'):AP X pins σ Q us s'
def SP (X:Cx)(pins:Aa (Af × Cq))(D:Ends)(f:Flow)(s':Ag):Prop:=
 match f with
 |.next=>∃ Y J,Inv X pins Y J s'/\D.nx Y J
 |.brk=>∃ Y J,Inv X pins Y J s'/\D.bk Y J
 |.cont=>∃ Y J,Inv X pins Y J s'/\D.ct Y J
 |.ret u=>∃ v Y J,Inv X pins Y J s'/\qK v u/\D.rt v J
def PE (X:Cx)(e:Bt)(t:TE):Prop:=
 ∀ (Y:Aa (Af × Cq)) (s:Ag) (σ : St) (H:Hp) (Q:VK),Inv X Y σ H s->t σ H Q->Ao (Au X.prog X.w) X.A (eval e X.env) (EP X Y σ Q) X.xe s
def PT (X:Cx)(e:Bt)(t:TT):Prop:=
 ∀ (Y:Aa (Af × Cq)) (s:Ag) (σ : St) (H:Hp) (Q:As->Hp->Prop),Inv X Y σ H s->t σ H Q->Ao (Au X.prog X.w) X.A (isTrue e X.env (eval e X.env)) (TP X Y σ Q) X.xe s
def PW (X:Cx)(e:Bt)(t:TT):Prop:=
 ∀ (J:Ko Ac) (Y:Aa (Af × Cq)) (s:Ag) (σ : St) (H:Hp) (Q:As->Hp->Prop),Inv X Y σ H s->t σ H Q->Ao (Au X.prog X.w) X.A (isTrue e X.env J) (TP X Y σ Q) X.xe s
def PA (X:Cx)(es:Aa Bt)(t:TA):Prop:=
 ∀ (J:Ev) (Y:Aa (Af × Cq)) (s:Ag) (σ : St) (H:Hp) (Q:Aa V->Hp->Prop),Inv X Y σ H s->t σ H Q->Ao (Au X.prog X.w) X.A (spliced (Gh J (Bm es X.env))) (AP X Y σ Q) X.xe s
def PS (X:Cx)(st:EQ)(t:TS):Prop:=
 ∀ (Y:Aa (Af × Cq)) (s:Ag) (σ : St) (H:Hp) (D:Ends),Inv X Y σ H s->t D σ H->Ao (Au X.prog X.w) X.A (exec st X.env) (SP X Y D) X.xe s
def PSs (X:Cx)(st:Aa EQ)(t:TS):Prop:=
 ∀ (Y:Aa (Af × Cq)) (s:Ag) (σ : St) (H:Hp) (D:Ends),Inv X Y σ H s->t D σ H->Ao (Au X.prog X.w) X.A (execs st X.env) (SP X Y D) X.xe s
theorem thn {α:Type}{t:Ko α}{Q Y:α->Ag->Prop}{A:Br}{s:Ag}(h:Ao M A t Q E s)(J:∀ a s,Q a s->Y a s):Ao M A t Y E s:=Gm h J λ_ _ x=>x
end _L
namespace _L
open PySem PySem.Spec PyProof.Rows
variable {pins:Aa (Af × Cq)}{u:Ac}{E Q:Ac->Ag->Prop}
section
variable {X:Cx}
theorem bin {a b:Bt}{O C:TE}(L:PE X a O)(B:PE X b C){pins:Aa (Af × Cq)}{s:Ag}{σ : St}{H:Hp}{R:V->V->Hp->Prop}(I:Inv X pins σ H s)(h:O σ H λx N=>C σ N λy Y=>R x y Y)
  {α:Type} {Q:α->Ag->Prop} {f:Ac->Ac->Ko α}
  (q:∀ v u G x y Y,Inv X pins σ Y G->qK x v->qK y u->R x y Y->Ao (Au X.prog X.w) X.A (f v u) Q X.xe G) :
  Ao (Au X.prog X.w) X.A (eval a X.env) (λv U=>Ao (Au X.prog X.w) X.A (eval b X.env) (λu J=>Ao (Au X.prog X.w) X.A (f v u) Q X.xe J) X.xe U) X.xe s:=by
 refine thn (L pins s σ H _ I h) λv w ⟨x,N,j,A,o⟩=>?_;refine thn (B pins w σ N _ j o) λu G ⟨y,Y,p,T,M⟩=>?_;exact q v u G x y Y p A T M
def E9 (i:Ai):TE:=λσ H Q=>∃ v,σ[i]? = Ab (Ab v)/\Q v H
def tC (v:V):TE:=λ_ H Q=>Q v H
theorem W5 {i:Ai}{x:Ar}{G:Ev}(L:X.N[i]? = Ab x)(hv:Vis X.env.scope x)(U:(x == ("__debug__" : Ar))=false:=by decide)(J:(x == ("__classdict__" : Ar))=false:=by decide):PE X (.Name x G) (E9 i):=by
 intro pins s σ H Q I h;obtain⟨v,e,h⟩:=h;obtain⟨m,C,B⟩:=I.loc;obtain⟨u,r,l⟩:=B i x v L e hv;have fin:EP X pins σ Q u s:=⟨v,H,I,r,h⟩;rcases l with⟨hk,O⟩|⟨hk,c,N,Y⟩
 .exact wpAny_Name (wpAny_loadName_local I.ok.kind hk C O fin) U
 .rcases hk with hk|hk
  .exact wpAny_Name (wpAny_loadName_cell I.ok.kind hk N Y fin) U
  .exact wpAny_Name (wpAny_loadName_free I.ok.kind hk N Y fin J) U
theorem SU:PE X (.Constant (.int i) j pos) (tC (.int i)):=λ_ _ _ H _ I h=>wpAny_Constant_int ⟨.int i,H,I.tok _,⟨_,rfl⟩,h⟩
theorem AE:PE X (.Constant (.bool b) j pos) (tC (.bl b)):=λ_ _ _ H _ I h=>Constant_bool ⟨.bl b,H,I,rfl,h⟩
theorem SV:PE X (.Constant .none j pos) (tC .non):=λ_ _ _ H _ I h=>Constant_none ⟨.non,H,I,rfl,h⟩
theorem SX:PE X (.Constant (.str x) j pos) (tC (.str x)):=λ_ _ _ H _ I h=>Calls.Constant_str ⟨.str x,H,I.tok _,⟨_,rfl⟩,h⟩
def Gl (X:Cx)(x:Ar):Prop:=X.env.kindOf x=Ab .globalImplicit
theorem uF {s:Ag}{σ:St}{H:Hp}{x:Ar}{Y:Ev}(I:Inv X pins σ H s)(U:Gl X x)(hm:X.mg x=Ab u)(h:Q u s)
  (J:(x == ("__debug__" : Ar))=false:=by decide):Ao (Au X.prog X.w) X.A (eval (.Name x Y) X.env) Q E s:=
 Rk I.ok.kind U (Calls.loadGlobal_global (by rw[I.ok.glob];exact I.mod.glob.keeps I.bk) hm h) J
theorem vT {s:Ag}{σ:St}{H:Hp}{x:Ar}{Y:Ev}(I:Inv X pins σ H s)(O:Gl X x)(hm:X.mg x=none)(hv:Gi x=Ab u)(h:Q u s)
  (G:x ≠ "__name__":=by decide) (N:(x == ("__debug__" : Ar))=false:=by decide):Ao (Au X.prog X.w) X.A (eval (.Name x Y) X.env) Q E s:=by
 obtain⟨C,U,J⟩:=I.mod.blt;exact Rk I.ok.kind O (Calls.loadGlobal_builtin (by rw[I.ok.glob];exact I.mod.glob.keeps I.bk) hm (by rw[I.ok.blt];exact U.keeps I.bk) ((J x G).trans hv) h) N
theorem F6 {x:Ar}{v:V}{Y:Ev}(U:Gl X x)(hm:X.mg x=Ab u)(r:qK v u)(J:(x == ("__debug__" : Ar))=false:=by decide):PE X (.Name x Y) (tC v):=
 λ_ _ _ H _ I h=>uF I U hm ⟨v,H,I,r,h⟩ J
theorem F5 {x:Ar}{v:V}{Y:Ev}(G:Gl X x)(hm:X.mg x=none)(hv:Gi x=Ab u)(r:qK v u)(J:x ≠ "__name__":=by decide)(U:(x == ("__debug__" : Ar))=false:=by decide):PE X (.Name x Y) (tC v):=
 λ_ _ _ H _ I h=>vT I G hm hv ⟨v,H,I,r,h⟩ J U
variable {a b:Bt}{ta tb:TE}{pos:Ev}
variable {tA tB':TT}{rest:Aa Bt}
theorem FG (Y:PT X a tA):PW X (.BoolOp .And [a] pos) tA:=by
 intro J pins s σ H Q I h;refine isTrue_and (thn (Y pins s σ H Q I h) λc U e=>?_);cases c with
 |true=>exact isTrue_and_nil e
 |false=>exact e
theorem RB (Y:PT X a tA):PW X (.BoolOp .Or [a] pos) tA:=by
 intro J pins s σ H Q I h;refine isTrue_or (thn (Y pins s σ H Q I h) λc U e=>?_);cases c with
 |false=>exact isTrue_or_nil e
 |true=>exact e
theorem SW {t:TE}(h:PE X a t):PE X (.BoolOp op [a] pos) t:=λpins s σ H Q I Y=>BoolOp_one (h pins s σ H Q I Y)
end
end _L
namespace _L
open PySem PySem.Spec PyProof.Rows
variable {es:Aa Bt}{K:Aj}{P:Bf}{tg:Bt}{w:Bx}
def SqL (K:Aj)(H:Hp)(a:Af)(xs:Aa V):Prop:=
 Rd H a (.lst xs) \/
  ∃ (o:Cq) (Q:Ay Ac) (n:Ai),K.lookup a=Ab o/\o.cls=.type "list" /\ o.dict=none/\o.data=.seq Q n/\Q.size<=sizeLine/\qJ xs Q.toList
def SqT (K:Aj)(H:Hp)(a:Af)(xs:Aa V):Prop:=
 Rd H a (.tup xs) \/
  ∃ (o:Cq) (Q:Ay Ac) (n:Ai),K.lookup a=Ab o/\o.cls=.type "tuple" /\ o.data=.seq Q n/\Q.size<=sizeLine/\qJ xs Q.toList
noncomputable def IY:Ac->Am V
 |.none=>Ab .non
 |.bool b=>Ab (.bl b)
 |.int i _=>Ab (.int i)
 |.str x _=>Ab (.str x)
 |.bytes b _=>Ab (.byt b)
 |.float b _=>Ab (.flt b)
 |.ref a=>Ab (.ref a)
 |.type n=>Ab (.ty n)
 |_=>none
theorem qK.abs {x:V}{u:Ac}(r:qK x u):IY u=Ab x:=by
 cases x with
 |non=>cases r;rfl
 |bl _=>cases r;rfl
 |int _=>obtain⟨t,rfl⟩:=r;rfl
 |str _=>obtain⟨t,rfl⟩:=r;rfl
 |byt _=>obtain⟨t,rfl⟩:=r;rfl
 |flt _=>obtain⟨t,rfl⟩:=r;rfl
 |ref _=>cases r;rfl
 |ty _=>cases r;rfl
theorem qK.inj {x y:V}{u:Ac}(r:qK x u)(q:qK y u):x=y:=Cy (r.abs.symm.trans q.abs)
theorem qJ.inj {xs Q:Aa V}{us:Aa Ac}(h:qJ xs us)(k:qJ Q us):xs=Q:=by
 induction h generalizing Q with
 |nil=>cases k;rfl
 |cons r t Y =>
  cases k with
  |cons J U=>rw[r.inj J,Y U]
section
variable {X:Cx}{pins:Aa (Af × Cq)}{σ : St}{H:Hp}{s:Ag}{a:Af}{xs ys:Aa V}
theorem SqL.of (h:H a=Ab (.lst xs)):SqL K H a xs:=.inl (.inl h)
theorem SqT.of (h:H a=Ab (.tup xs)):SqT K H a xs:=.inl (.inl h)
theorem Inv.list (I:Inv X pins σ H s)(h:SqL X.K H a xs):∃ its:Aa Ac,qJ xs its/\PlainL s.heap a its.toArray/\xs.length<=sizeLine:=by
 rcases h with h|⟨o,its,n,Y,J,Q,hs,U,r⟩
 .obtain⟨z,its,n,r,e⟩:=h.ok I.hok
  exact⟨its,r,⟨_,n,e,rfl,rfl,rfl⟩,z⟩
 .refine⟨its.toList,r,⟨o,n,I.kIn a o Y,J,Q,by simpa using hs⟩,?_⟩
  have e:=r.length;simp only[Bl] at e;omega
theorem Inv.tuple (I:Inv X pins σ H s)(h:SqT X.K H a xs):∃ its:Aa Ac,qJ xs its/\Qr s.heap a its.toArray/\xs.length<=sizeLine:=by
 rcases h with h|⟨o,its,n,Q,Y,hs,J,r⟩
 .obtain⟨z,its,r,p⟩:=h.ok I.hok
  exact⟨its,r,p,z⟩
 .refine⟨its.toList,r,⟨o,I.kIn a o Q,Y,n,by simpa using hs⟩,?_⟩
  have e:=r.length;simp only[Bl] at e;omega
theorem Inv.list_inj (I:Inv X pins σ H s)(h:SqL X.K H a xs)(h':SqL X.K H a ys):xs=ys:=by
 obtain⟨Y,r,⟨o,n,e,_,_,d⟩,_⟩:=I.list h;obtain⟨Q,G,⟨O,N,U,_,_,J⟩,_⟩:=I.list h';rw[e] at U;cases U;rw[d] at J;injection J with d1 _
 have:Y=Q:=by simpa using congrArg Ab4 d1
 subst this;exact r.inj G
theorem Inv.tuple_inj (I:Inv X pins σ H s)(h:SqT X.K H a xs)(h':SqT X.K H a ys):xs=ys:=by
 obtain⟨Y,r,⟨o,e,_,n,d⟩,_⟩:=I.tuple h;obtain⟨Q,G,⟨O,U,_,N,J⟩,_⟩:=I.tuple h';rw[e] at U;cases U;rw[d] at J;injection J with d1 _
 have:Y=Q:=by simpa using congrArg Ab4 d1
 subst this;exact r.inj G
end
abbrev Cx.wish (X:Cx)(E:Ac->Ag->Prop):Cx:={ X with xe:=E }
abbrev Cx.nox (X:Cx):Cx:=X.wish λ_ _=>Fn
theorem Cx.Ok.wish {X:Cx}(ok:X.Ok)(E:Ac->Ag->Prop):(X.wish E).Ok:=
 ⟨ok.mod,ok.kind,ok.glob,ok.blt,ok.above,ok.inj,ok.has,ok.cab,ok.hd,ok.frames,ok.stk,ok.exf,ok.bs,ok.bsz,ok.noex,ok.exfs,ok.funs,ok.frf⟩
theorem Cx.Ok.unwish {X:Cx}{E:Ac->Ag->Prop}(ok:(X.wish E).Ok):X.Ok:=
 ⟨ok.mod,ok.kind,ok.glob,ok.blt,ok.above,ok.inj,ok.has,ok.cab,ok.hd,ok.frames,ok.stk,ok.exf,ok.bs,ok.bsz,ok.noex,ok.exfs,ok.funs,ok.frf⟩
section
variable {X:Cx}{pins:Aa (Af × Cq)}{σ : St}{H:Hp}{s:Ag}{E:Ac->Ag->Prop}
theorem Inv.wish (I:Inv X pins σ H s)(E:Ac->Ag->Prop):Inv (X.wish E) pins σ H s:=⟨I.ok.wish E,I.os,I.bare,I.base,I.loc,I.cell,I.free,I.freeC,I.pin,I.hok,I.len⟩
theorem Inv.unwish (I:Inv (X.wish E) pins σ H s):Inv X pins σ H s:=⟨I.ok.unwish,I.os,I.bare,I.base,I.loc,I.cell,I.free,I.freeC,I.pin,I.hok,I.len⟩
theorem SP.unwish {D:Ends}{f:Flow}{s':Ag}(h:SP (X.wish E) pins D f s'):SP X pins D f s':=by
 cases f with
 |next=>obtain⟨Q,Y,I,q⟩:=h;exact⟨Q,Y,I.unwish,q⟩
 |brk=>obtain⟨Q,Y,I,q⟩:=h;exact⟨Q,Y,I.unwish,q⟩
 |cont=>obtain⟨Q,Y,I,q⟩:=h;exact⟨Q,Y,I.unwish,q⟩
 |ret u=>obtain⟨v,Q,Y,I,r,q⟩:=h;exact⟨v,Q,Y,I.unwish,r,q⟩
theorem PE.nox {e:Bt}{t:TE}(h:PE X.nox e t):PE X e t:=λpins s σ H Q I Y =>
 Gm (h pins s σ H Q (I.wish _) Y) (λ_ _ ⟨v,U,J,r,q⟩=>⟨v,U,J.unwish,r,q⟩) λ_ _ z=>An z
theorem PT.nox {e:Bt}{t:TT}(h:PT X.nox e t):PT X e t:=λpins s σ H Q I Y =>
 Gm (h pins s σ H Q (I.wish _) Y) (λ_ _ ⟨U,J,q⟩=>⟨U,J.unwish,q⟩) λ_ _ z=>An z
theorem PSs.nox {st:Aa EQ}{t:TS}(h:PSs X.nox st t):PSs X st t:=λpins s σ H D I Q =>
 Gm (h pins s σ H D (I.wish _) Q) (λ_ _ q=>q.unwish) λ_ _ z=>An z
end
section
variable {X:Cx}{st:EQ}{rest:Aa EQ}{t u:TS}{e:Bt}{te:TE}{pos:Ev}
def AW:TS:=λD σ H=>D.nx σ H
def qAM (t u:TS):TS:=λD σ H=>t { D with nx:=u D } σ H
theorem FD:PSs X [] AW:=λ_ _ σ H _ I h=>Mi ⟨σ,H,I,h⟩
theorem UN (h1:PS X st t)(h2:PSs X rest u):PSs X (st::rest) (qAM t u):=by
 intro Q s σ H D I h;refine f8 (thn (h1 Q s σ H { D with nx:=u D } I h) λf U q=>?_)
 cases f with
 |next =>
  obtain⟨Y,J,G,q⟩:=q;exact h2 Q U Y J D G q
 |ret v=>exact q
 |brk=>exact q
 |cont=>exact q
theorem FE (h1:PS X st t):PSs X [st] t:=by
 intro Q s σ H D I h;refine f8 (thn (h1 Q s σ H D I h) λf Y q=>?_);cases f with
 |next=>exact Mi q
 |ret v=>exact q
 |brk=>exact q
 |cont=>exact q
theorem Inv.quiet {pins:Aa (Af × Cq)}{σ:St}{H:Hp}{s:Ag}(I:Inv X pins σ H s):interactive X.env=false:=by simp[interactive,I.ok.kind]
end
abbrev TG:=V->St->Hp->(St->Hp->Prop)->Prop
abbrev TGs:=Aa V->St->Hp->(St->Hp->Prop)->Prop
def PG (X:Cx)(Y:Bt)(t:TG):Prop:=
 ∀ (J:Aa (Af × Cq)) (s:Ag) (σ : St) (H:Hp) (v:V) (u:Ac) (Q:St->Hp->Prop),Inv X J σ H s->qK v u->t v σ H Q ->
  Ao (Au X.prog X.w) X.A (assign Y X.env u) (λ_ N=>∃ U G,Inv X J U G N/\Q U G) X.xe s
def PGs (X:Cx)(C:Aa Bt)(t:TGs):Prop:=
 ∀ (Y:Aa (Af × Cq)) (s:Ag) (σ : St) (H:Hp) (U:Aa V) (G:Aa Ac) (Q:St->Hp->Prop),Inv X Y σ H s->qJ U G->t U σ H Q ->
  Ao (Au X.prog X.w) X.A (Xb ((Hd C X.env).map (·.2)) G) (λ_ O=>∃ J N,Inv X Y J N O/\Q J N) X.xe s
abbrev MY:=V->V->V->Hp->(Hp->Prop)->Prop
def sN (X:Cx)(t:MY):Prop:=
 ∀ (Y:Aa (Af × Cq)) (s:Ag) (σ : St) (H:Hp) (o i v:V) (U G u:Ac) (Q:Hp->Prop),Inv X Y σ H s->qK o U->qK i G->qK v u->t o i v H Q ->
  Ao (Au X.prog X.w) X.A (setItem U G u) (λ_ N=>∃ J,Inv X Y σ J N/\Q J) X.xe s
section
variable {X:Cx}{pos:Ev}
def HU (i:Ai):TG:=λv σ H Q=>Q (σ.set i (Ab v)) H
theorem F7 {i:Ai}{x:Ar}(N:X.N.Nodup)(hi:X.N[i]? = Ab x)(J:Loc X.env.scope x)(U:X.fn x=true\/X.env.scope.names.lookup x=Ab .local:=by first|exact .inl rfl|exact .inr rfl|assumption):PG X (.Name x pos) (HU i):=by
 intro Y s σ H v u Q I r h;exact Zd (j7 I N hi J r (λO G=>⟨_,H,G,h⟩) U)
def OH:TGs:=λY σ H Q=>Y=[]/\Q σ H
def HS (t:TG)(u:TGs):TGs:=λJ σ H Q=>∃ v r,J=v::r/\t v σ H λY U=>u r Y U Q
theorem F8:PGs X [] OH:=by
 intro Y s σ H J U Q I r h;obtain⟨e,h⟩:=h;subst e;cases r;exact Ze ⟨σ,H,I,h⟩
theorem UK {e:Bt}{t:TG}{u:TGs}(h1:PG X e t)(h2:PGs X es u)
  (hs:(Hd (e::es) X.env).map (·.2)=assign e X.env::(Hd es X.env).map (·.2):=by rfl):PGs X (e::es) (HS t u):=by
 intro Y s σ H L E Q I r h;obtain⟨v,T,N,h⟩:=h;subst N;cases r with
 |cons r U =>
  rw[hs];refine Rc (thn (h1 Y s σ H _ _ _ I r h) λ_ O ⟨J,G,C,B⟩=>?_);exact h2 Y O J G _ _ Q C U B
def OI (K:Aj)(n:Ai)(t:TGs):TG:=λv σ H Q=>∃ a Y,v=.ref a/\SqT K H a Y/\Y.length=n/\t Y σ H Q
theorem SZ {k:Ai}{t:TGs}{n:Ai}(M:X.calm=true)(h:PGs X es t)
  (A:(Hd es X.env).length=n:=by rfl) (U:(Hd es X.env).findIdx? (·.1)=none:=by rfl):PG X (.Tuple es k pos) (OI X.K n t):=by
 intro Y s σ H v u Q I r J;obtain⟨a,N,C,j,y,J⟩:=J;subst C;cases r;obtain⟨T,G,B,q⟩:=I.tuple j;refine assign_Tuple_tuple (I.ok.hd M) B (by simp[A,<- y,G.length]) U λE O=>?_
 have L:Inv X Y σ H { s with heap:=E }:=I.kept (t':=s.toks) λb o e=>O b o (Cp (Ba e)) e
 exact h Y _ σ H N _ Q L (by simpa using G) J
def qAL (i j:Ai)(Q:TA):TS:=λD σ H=>Q σ H λY J=>∃ v w,Y=[v,w]/\D.nx ((σ.set i (Ab v)).set j (Ab w)) J
theorem R8 {i j:Ai}{x y:Ar}{a b:Bt}{g:TA}{O G pt:Ev} {kt k2 pt2} (f:X.calm=true) (M:X.N.Nodup) (hi:X.N[i]? = Ab x) (hj:X.N[j]? = Ab y) (C:i≠j)
  (T:X.env.scope.names.lookup x=Ab .local) (E:X.env.scope.names.lookup y=Ab .local) (c:PA X [a,b] g)
  (hw:Ly [.Tuple [.Name x O,.Name y G] kt pt] (.Tuple [a,b] k2 pt2) X.env=pure (Ab [x,y]))
  (hs:Lz [.Tuple [.Name x O,.Name y G] kt pt] (.Tuple [a,b] k2 pt2) pos.line X.env=pure false:=by rfl) :
  PS X (.Assign [.Tuple [.Name x O,.Name y G] kt pt] (.Tuple [a,b] k2 pt2) pos) (qAL i j g):=by
 intro Q s σ H D I h;rw[exec_Assign_arm];refine Ad (Oh ?_);rw[hs];refine Ad (Al ?_);rw[Bg (by decide)]
 refine Ad (Tuple_ (thn (c _ Q s σ H _ I h) λus U ⟨vs,A,I1,r1,N⟩=>?_));obtain⟨v,w,d,N⟩:=N;subst d;obtain⟨J,Y,rfl,m,L⟩:∃ J Y,us=[J,Y]/\qK v J/\qK w Y:=by
  cases r1 with
  |cons p q =>
   cases q with
   |cons n q' =>
    cases q';exact⟨_,_,rfl,p,n⟩
 refine Dm ?_ (by show 2<=sizeLine;decide)
 have I2:Inv X Q σ A { U with heap:=U.heap.push { cls:=.type "tuple",data:=.seq [J,Y].toArray } }:=I1.kept (t':=U.toks) λb o e=>Ah _ e
 rw[hw];refine Ad (Al ?_);show Ao (Au X.prog X.w) X.A (do rule "assign.swapped-stores";let items <- unpackItems (.ref U.heap.objs.size) 2 none;Xb [λv=>XV X.env y v,λv=>XV X.env x v] items.reverse;pure Flow.next) _ _ _
 refine Ad (He (Ad (unpackItems_tuple (items:=#[J,Y]) (I.ok.hd f) (Zf U.heap _) λh' B=>?_)));have r:=I2.kept (h':=h') (t':=U.toks) λb o e=>B b o (Cp (Ba e)) e;show Ao _ _ (Xb [λv=>XV X.env y v,λv=>XV X.env x v] [Y,J] >>= λ_=>pure Flow.next) _ _ _;refine Ad (Rc (wpAny_bindName (j7 r M hj (.inl E) L (λs2 I4=>?_) (.inr E))));refine Rc (wpAny_bindName (j7 I4 M hi (.inl T) m (λs3 u=>Ze (Al ?_)) (.inr T)));rw[List.set_comm _ _ (Gb C)] at u;exact⟨_,A,u,N⟩
end
section
variable {X:Cx}{pos:Ev}
def EA (c:TT)(G:TS):TS:=λD σ H=>∃ W:Ai->St->Hp->Prop,(∃ m,W m σ H)/\∀ m σ H,W m σ H ->
 c σ H λb J=>if b=true then ∃ N:St->Hp->Prop,(∀ Q U,N Q U->∃ Y,Y<m/\W Y Q U)/\G { D with nx:=N,ct:=N,bk:=D.nx } σ J else D.nx σ J
theorem UM {c:Bt}{U:Aa EQ}{o:TT}{q:TS}(hp:Pm (Au X.prog X.w) X.A X.env X.xe)(i:PT X c o)(r:PSs X U q):PS X (.While c U [] pos) (EA o q):=by
 intro Y s σ H D I h;obtain⟨W,⟨e,m⟩,O⟩:=h;refine wpAny_While (codeAny_whileLoop (λn s'=>∃ C g,Inv X Y C g s'/\W n C g) ?_ e ⟨σ,H,I,m⟩);rintro n s1 ⟨J,y,I1,x⟩;refine Jo hp (thn (i Y s1 J y _ I1 (O n J y x)) λb s2 ⟨u,d,L⟩=>?_);cases b with
 |true =>
  obtain⟨N,p,L⟩:=L;rw[Be rfl];refine Jo hp (thn (r Y s2 J u _ d L) λf s3 B=>?_);cases f with
  |next =>
   obtain⟨Q,G,T,M⟩:=B;obtain⟨A,E,j⟩:=p Q G M;exact⟨A,E,Q,G,T,j⟩
  |cont =>
   obtain⟨Q,G,T,M⟩:=B;obtain⟨A,E,j⟩:=p Q G M;exact⟨A,E,Q,G,T,j⟩
  |brk=>exact B
  |ret v=>exact B
 |false =>
  rw[Bg Fp];exact Mi ⟨J,u,d,L⟩
end
structure It where
 go:Ai->Hp->Prop
 yld:Ai->Hp->V->Hp->Prop
 stop:Ai->Hp->Prop
def xI (X:Cx)(pins:Aa (Af × Cq))(H:Hp)(b:Af):Prop:=
 H b=none/\b≠X.env.locals/\b ∉ X.fs/\(b∈X.ex\/X.s₀.heap.objs.size<=b)/\(∀ x c,X.env.cells.lookup x=Ab c->c≠b)/\∀ p∈X.pn++pins,p.1≠b
theorem Inv.fpOk {X:Cx}{pins:Aa (Af × Cq)}{σ:St}{H Y:Hp}{s:Ag}{b:Af}(I:Inv X pins σ H s)(Q:s.heap.objs.size<=b)(J:Y b=none):xI X pins Y b:=by
 refine⟨J,Gj (Bd I.lt Q),I.nofs Q,.inr (Dc I.sz Q),λx c e z=>?_,λp U z=>?_⟩
 .obtain⟨v,q⟩:=I.cell x c e
  exact absurd (Bd q.lt (by rw[z];exact Q)) (Ej _)
 .exact absurd (Bd (Ba (I.pin p U).1) (by rw[z];exact Q)) (Ej _)
structure Turn (P:Bf)(w:Bx)(K:Aj)(tg:Bt)(J:It)(fp:Aa Af)(it:Af)(tn:Ai->Bo->Prop):Prop where
 mem:it∈fp
 obj:∀ i h,tn i h->∀ b∈fp,∃ o,h.get? b=Ab o/\∀ v,o.data≠.cell v
 keep:∀ i h h',tn i h->(∀ b∈fp,∀ o,h.get? b=Ab o->h'.get? b=Ab o)->tn i h'
 item:∀ (X:Cx),X.prog=P->X.w=w->X.K=K->X.calm=true->∀ (i:Ai) (pins:Aa (Af × Cq)) (s:Ag) (σ : St) (H:Hp) (E:Ac->Ag->Prop),Inv X pins σ H s->(∀ b∈fp,xI X pins H b)->tn i s.heap->J.go i H ->
  Ao (Au P w) X.A (Ni (.ref it)) (λr s1=>∃ u,r=Ab u /\
   Ao (Au P w) X.A (Kq tg (.ref it) u) (λ_ s2=>∃ x H',Inv X pins σ H' s2/\qK x u/\J.yld i H x H'/\tn (i+1) s2.heap/\∀ b∈fp,H' b=none) E s1) E s
 done:∀ (X:Cx),X.prog=P->X.w=w->X.K=K->X.calm=true->∀ (i:Ai) (pins:Aa (Af × Cq)) (s:Ag) (σ : St) (H:Hp) (E:Ac->Ag->Prop),Inv X pins σ H s->(∀ b∈fp,xI X pins H b)->tn i s.heap->J.stop i H ->
  Ao (Au P w) X.A (Ni (.ref it)) (λr s1=>r=none/\Inv X pins σ H s1) E s
 self:∀ (A:Br) (i:Ai) (s:Ag) (Q:Ac->Ag->Prop) (E:Ac->Ag->Prop),tn i s.heap->Q (.ref it) s->Ao (Au P w) A (Ol (.ref it)) Q E s
abbrev TI:=St->Hp->(It->Hp->Prop)->Prop
inductive PIE (X:Cx)(pins:Aa (Af × Cq))(σ : St)(tg:Bt)(R:It->Hp->Prop)(itv:Ac)(s2:Ag):Prop
 |mk (it:Af) (fp:Aa Af) (tn:Ai->Bo->Prop) (J:It) (H':Hp) (e:itv=.ref it) (I:Inv X pins σ H' s2) (t:Turn X.prog X.w X.K tg J fp it tn) (z:tn 0 s2.heap) (f:∀ b∈fp,xI X pins H' b) (q:R J H'):PIE X pins σ tg R itv s2
def PI (X:Cx)(tg Y:Bt)(J:TI):Prop:=
 ∀ (Q:Aa (Af × Cq)) (s:Ag) (σ : St) (H:Hp) (R:It->Hp->Prop),Inv X Q σ H s->J σ H R ->
  Ao (Au X.prog X.w) X.A (eval Y X.env) (λv U=>Ao (Au X.prog X.w) X.A (Ol v) (PIE X Q σ tg R) X.xe U) X.xe s
theorem oT {M:Ky}{A:Br}{E:Ac->Ag->Prop}{s:Ag}{it:Af}{u:Ac}{o:Cq}{n:Em}{vs:Ay Ac}{Q:Qf->Ag->Prop}(N:s.heap.get? it=Ab o)(G:o.cls=.type n)(J:o.data=.fields vs)
    (U:["enumerate","zip","dict_itemiterator","dict_reverseitemiterator","odict_iterator","itertools.zip_longest","itertools.pairwise"].contains n=false) (Y:Q () s):Ao M A (Kq tg (.ref it) u) Q E s:=by
  unfold Kq;cases tg <;> first
    |exact Al Y
    |(cases u <;> first
        |exact Al Y
        | (refine Ad (wpAny_load N ?_)
           rw[G,J];show Ao M A (if (["enumerate","zip","dict_itemiterator","dict_reverseitemiterator","odict_iterator","itertools.zip_longest","itertools.pairwise"].contains n&&vs[0]? == Ab (Gn _))=true then _ else _) Q E s
           rw[Bg (by intro h;rw[U,Hj] at h;cases h)]
           exact Al Y))
noncomputable def Itl (K:Aj)(a:Af):It:=
 ⟨λi H=>∃ Q x,SqL K H a Q/\Q[i]? = Ab x,λi H x Y=>Y=H/\∀ Q,SqL K H a Q->Q[i]? = Ab x,λi H=>∃ Q,SqL K H a Q/\Q.length<=i⟩
noncomputable def Itt (K:Aj)(a:Af):It:=
 ⟨λi H=>∃ Q x,SqT K H a Q/\Q[i]? = Ab x,λi H x Y=>Y=H/\∀ Q,SqT K H a Q->Q[i]? = Ab x,λi H=>∃ Q,SqT K H a Q/\Q.length<=i⟩
noncomputable def Itr (lo:Ak)(n:Ai):It:=⟨λi _=>i<n,λi H x Q=>Q=H/\x=.int (lo+i),λi _=>n<=i⟩
theorem dG (a it:Af):Turn P w K tg (Itl K a) [it] it (λi h=>h.IsListIter it a i) where
 mem:=by simp
 obj:=λi h st b Y=>by
  have e:b=it:=by simpa using Y
  subst e;obtain⟨o,e,c,d⟩:=st;exact⟨o,e,λv z=>by rw[d] at z;cases z⟩
 keep:=λi h G st k=>st.at λo e=>k it (by simp) o e
 item:=by
  intro X B j A r i Q s σ H E I U st q;subst B j A;obtain⟨xs,x,N,O⟩:=q;obtain⟨f,g,p,hz⟩:=I.list N;obtain⟨u,m,ru⟩:=g.get O;obtain⟨C,L,f2,y,M,T⟩:=U it (by simp)
  refine wpAny_pyNext_list_item st p.isList (x:=u) (by simpa using m) λG J n=>?_
  have I1:Inv X Q σ H { s with heap:=G }:=I.turned (t':=s.toks) (λb o Y e=>(n.2 b Y).trans e) C L y M T
  obtain⟨o,e,c,d⟩:=id J;exact⟨u,rfl,oT (s:={ s with heap:=G }) e c d (by decide) ⟨x,H,I1,ru,⟨rfl,λys hy=>by rw[I.list_inj hy N];exact O⟩,J,λb Y=>(U b Y).1⟩⟩
 done:=by
  intro X B j A r i Q s σ H E I U st q;subst B j A;obtain⟨xs,N,O⟩:=q;obtain⟨f,g,p,hz⟩:=I.list N;obtain⟨C,L,f2,y,M,T⟩:=U it (by simp)
  have hl:=g.length;exact wpAny_pyNext_list_end (I.ok.hd r) st p.isList (by simp;omega) λG eb=>⟨rfl,I.turned (t':=s.toks) (λb o Y e=>eb b o Y e) C L y M T⟩
 self:=λ_ _ _ _ _ st h=>wpAny_pyIter_listiter st h
theorem QY (a it:Af):Turn P w K tg (Itt K a) [it] it (λi h=>h.IsTupleIter it a i) where
 mem:=by simp
 obj:=λi h st b Y=>by
  have e:b=it:=by simpa using Y
  subst e;obtain⟨o,e,c,d⟩:=st;exact⟨o,e,λv z=>by rw[d] at z;cases z⟩
 keep:=λi h N st k=>st.at λo e=>k it (by simp) o e
 item:=by
  intro X L y M r i Q s σ H E I G st g;subst L y M;obtain⟨xs,x,O,C⟩:=g;obtain⟨J,f,p,hz⟩:=I.tuple O;obtain⟨u,m,ru⟩:=f.get C;obtain⟨B,T,f2,q,j,A⟩:=G it (by simp)
  refine wpAny_pyNext_tuple_item st (show s.heap.IsTuple a J.toArray from p) (x:=u) (by simpa using m) λN U n=>?_
  have I1:Inv X Q σ H { s with heap:=N }:=I.turned (t':=s.toks) (λb o Y e=>(n.2 b Y).trans e) B T q j A
  obtain⟨o,e,c,d⟩:=id U;exact⟨u,rfl,oT (s:={ s with heap:=N }) e c d (by decide) ⟨x,H,I1,ru,⟨rfl,λys hy=>by rw[I.tuple_inj hy O];exact C⟩,U,λb Y=>(G b Y).1⟩⟩
 done:=by
  intro X L y M r i Q s σ H E I G st g;subst L y M;obtain⟨xs,O,C⟩:=g;obtain⟨J,f,p,hz⟩:=I.tuple O;obtain⟨B,T,f2,q,j,A⟩:=G it (by simp)
  have hl:=f.length;exact wpAny_pyNext_tuple_end (I.ok.hd r) st (show s.heap.IsTuple a J.toArray from p) (by simp;omega) λN eb=>⟨rfl,I.turned (t':=s.toks) (λb o Y e=>eb b o Y e) B T q j A⟩
 self:=λ_ _ _ _ _ st h=>wpAny_pyIter_tupleiter st h
theorem QX (it:Af)(lo:Ak)(n:Ai):Turn P w K tg (Itr lo n) [it] it (λi h=>IsRangeIter h it (lo+(i:Ai)*1) ((n:Ak)-(i:Ai)) 1) where
 mem:=by simp
 obj:=λi h st b Y=>by
  have e:b=it:=by simpa using Y
  subst e;exact⟨_,st,λv z=>by
   have c:Data.fields _=Data.cell v:=z;cases c⟩
 keep:=λi h G st k=>k it (by simp) _ st
 item:=by
  intro X O M L T i Q s σ H E I U st y;subst O M L;obtain⟨N,C,q,j,A,B⟩:=U it (by simp)
  have W:=Walks.range (prog:=X.prog) (w:=X.w) (I.ok.hd T) it lo 1 n;refine W.item i s _ _ y st λv G u hv J p=>?_;obtain⟨t,rfl⟩:=hv;have g:Inv X Q σ H { s with heap:=G,toks:=u }:=I.turned (λb o Y e=>p b o (by simpa using Y) e) N C j A B
  refine⟨_,rfl,oT (s:={ s with heap:=G,toks:=u }) (n:="range_iterator") J rfl rfl (by decide) ⟨.int (lo+i),H,g,⟨t,?_⟩,⟨rfl,rfl⟩,J,λb Y=>(U b Y).1⟩⟩
  rw[Int.mul_one]
 done:=by
  intro X O M L T i Q s σ H E I U st y;subst O M L;obtain⟨N,C,q,j,A,B⟩:=U it (by simp)
  exact wpAny_pyNext_range_end (I.ok.hd T) st (by have:n<=i:=y;omega) λG eb=>⟨rfl,I.turned (t':=s.toks) (λb o Y e=>eb b o Y e) N C j A B⟩
 self:=λ_ _ _ _ _ st h=>wpAny_pyIter_rangeiter st h
end _L
namespace _L
open PySem PySem.Spec PyProof.Rows
variable {pins:Aa (Af × Cq)}{fp:Aa Af}{s:Ag}{H:Hp}{σ:St}
section
variable {X:Cx}{tg:Bt}
theorem eV {R:It->Hp->Prop}{E:Ac->Ag->Prop}{lo hi:Ak}{t u v:Te}{tk:Ai}(I:Inv X pins σ H s)(h1 : -(2 ^ 62)<=lo)(h2:lo<2 ^ 62)(h3 : -(2 ^ 62)<=hi)(J:hi<2 ^ 62)
  (q:R (Itr lo (hi-lo).toNat) H):Ao (Au X.prog X.w) X.A (Ol (.ref s.heap.objs.size)) (PIE X pins σ tg R) E { s with heap:=s.heap.push { cls:=.type "range",data:=.fields #[.int lo t,.int hi u,.int 1 v] },toks:=tk }:=by
 refine wpAny_pyIter_range (IsRange.new ..) (small_one h1 h2 h3 J) ?_;have Q:Inv X pins σ H { s with heap:=s.heap.push { cls:=.type "range",data:=.fields #[.int lo t,.int hi u,.int 1 v] },toks:=tk }:=I.kept λb o e=>Ah _ e
 refine⟨(s.heap.push { cls:=.type "range",data:=.fields #[.int lo t,.int hi u,.int 1 v] }).objs.size,[(s.heap.push { cls:=.type "range",data:=.fields #[.int lo t,.int hi u,.int 1 v] }).objs.size],_,_,H,rfl,
  Q.kept (t':=tk) λb o e=>Ah _ e,QX _ lo (hi-lo).toNat,?_,λb Y=>?_,q⟩
 .have U:lo+((0:Ai):Ak)*1=lo:=by simp
  have G:(((hi-lo).toNat:Ai):Ak)-((0:Ai):Ak)=Builtin.Range.rangeSize lo hi 1:=by rw[rangeSize_one];split <;> omega
  show IsRangeIter _ _ (lo+((0:Ai):Ak)*1) ((((hi-lo).toNat:Ai):Ak)-((0:Ai):Ak)) 1;rw[U,G];exact Bc _ rfl
 .have e:b=(s.heap.push { cls:=.type "range",data:=.fields #[.int lo t,.int hi u,.int 1 v] }).objs.size:=by simpa using Y
  subst e;exact Q.fpOk (Av _) (Q.hok.fresh (Av _))
def qAI (O:TI)(g:TG)(L:TS):TS:=λD σ H=>O σ H λJ C=>∃ W:Ai->Ai->St->Hp->Prop,(∃ m,W 0 m σ C)/\∀ i m σ H,W i m σ H ->
 (J.stop i H/\D.nx σ H)\/(J.go i H/\∃ N:St->Hp->Prop,(∀ Q Y,N Q Y->∃ G,G<m/\W (i+1) G Q Y)/\∀ x Y,J.yld i H x Y->g x σ Y λU B=>L { D with nx:=N,ct:=N,bk:=D.nx } U B)
noncomputable def yZ (fp:Aa Af)(h:Bo):Aa (Af × Cq):=fp.filterMap λb=>(h.get? b).map λo=>(b,o)
theorem uB {h:Bo}{b:Af}{o:Cq}(Q:b∈fp)(e:h.get? b=Ab o):(b,o)∈yZ fp h:=Gz.mpr ⟨b,Q,by rw[e];rfl⟩
theorem lZ {h:Bo}{p:Af × Cq}(hp:p∈yZ fp h):p.1∈fp/\h.get? p.1=Ab p.2:=by
 obtain⟨b,Q,e⟩:=Gz.mp hp;cases q:h.get? b with
 |none=>rw[q] at e;cases e
 |some o =>
  rw[q] at e;have Y:(b,o)=p:=Cy e;subst Y;exact⟨Q,q⟩
theorem Inv.pinned (I:Inv X pins σ H s)(O:∀ b∈fp,xI X pins H b)(N:∀ b∈fp,∃ o,s.heap.get? b=Ab o/\∀ v,o.data≠.cell v):Inv X (pins++yZ fp s.heap) σ H s:=
 I.pins_of λp J=>(By.mp J).elim (λz=>I.pin p (Cd _ z)) λz=>by
  obtain⟨Q,e⟩:=lZ z;obtain⟨U,C,G,_⟩:=O p.1 Q;obtain⟨o,Y,d⟩:=N p.1 Q;rw[e] at Y;cases Y;exact⟨e,U,C,G,d⟩
theorem Inv.unpinned {pl:Aa (Af × Cq)}(I:Inv X (pins++pl) σ H s):Inv X pins σ H s:=I.pins_of λp Q=>I.pin p (Cd _ (Dh _ Q))
inductive ForI (X:Cx)(pins:Aa (Af × Cq))(fp:Aa Af)(tn:Ai->Bo->Prop)(W:Ai->Ai->St->Hp->Prop)(n:Ai)(s':Ag):Prop
 |mk (i:Ai) (σ' : St) (H':Hp) (I:Inv X pins σ' H' s') (t:tn i s'.heap) (f:∀ b∈fp,H' b=none) (w:W i n σ' H'):ForI X pins fp tn W n s'
theorem R7 {U:Bt}{E:Aa EQ}{wi:TI}{g:TG}{tb:TS}{zb:Ev}(hp:Pm (Au X.prog X.w) X.A X.env X.xe)(hc:X.calm=true)(hi:PI X tg U wi)(hg:PG X tg g)(O:PSs X E tb)
  (hs:∀ x,Gc U X.env x=pure x:=by intro _;rfl):PS X (.For tg U E [] zb) (qAI wi g tb):=by
 intro pins s σ H D I h;refine wpAny_For (thn (hi pins s σ H _ I h) λv s1 h1=>thn h1 λze s2 h2=>?_) hs;obtain⟨it,fp,tn,J,H2,e,I2,T,za,f2,W,⟨m0,w0⟩,y⟩:=h2;subst e;have C:∀ {H':Hp},(∀ b∈fp,H' b=none)->∀ b∈fp,xI X pins H' b:=λhn b O=>⟨hn b O,(f2 b O).2⟩;refine codeAny_forLoop_any (ForI X pins fp tn W) ?_ m0 ⟨0,σ,H2,I2,za,λb O=>(f2 b O).1,w0⟩;rintro n s3 ⟨i,Y,p,I3,M,q,w3⟩;rcases y i n Y p w3 with⟨j,qn⟩|⟨go,N,hN,step⟩
 .refine Jo hp (thn (T.done X rfl rfl rfl hc i pins s3 Y p X.xe I3 (C q) M j) λr s4 ⟨hr,I4⟩=>?_)
  subst hr;exact Mi ⟨Y,p,I4,qn⟩
 .refine Jo hp (thn (T.item X rfl rfl rfl hc i pins s3 Y p X.xe I3 (C q) M go) λr s4 ⟨u,hr,h4⟩=>?_)
  subst hr;refine Jo hp (thn h4 λ_ s5 ⟨x,H5,I5,r5,y5,A,zc⟩=>?_);have zd:=I5.pinned (C zc) (T.obj _ _ A);refine Jo hp (thn (hg _ s5 Y H5 x u _ zd r5 (step x H5 y5)) λ_ s6 ⟨c,H6,I6,q6⟩=>?_);refine Jo hp (thn (O _ s6 c H6 _ I6 q6) λf s7 L=>?_);have again:∀ {Q:St} {B:Hp},Inv X (pins++yZ fp s5.heap) Q B s7->N Q B->∃ m,m<n/\ForI X pins fp tn W m s7:=λ{Q B} G w=>by
   obtain⟨m',hm,w7⟩:=hN Q B w;refine⟨m',hm,i+1,Q,B,G.unpinned,T.keep _ _ _ A λb O o e=>(G.pin (b,o) (Cd _ (Cd _ (uB O e)))).1,λb O=>?_,w7⟩;obtain⟨o,e,d⟩:=T.obj _ _ A b O;exact(G.pin (b,o) (Cd _ (Cd _ (uB O e)))).2.1
  cases f with
  |next=>obtain⟨Q,B,G,w⟩:=L;exact again G w
  |cont=>obtain⟨Q,B,G,w⟩:=L;exact again G w
  |brk=>obtain⟨Q,B,G,L⟩:=L;exact⟨Q,B,G.unpinned,L⟩
  |ret v=>obtain⟨x7,Q,B,G,r7,L⟩:=L;exact⟨x7,Q,B,G.unpinned,r7,L⟩
end
end _L
namespace _L
open PySem PySem.Spec PyProof.Rows
variable {us:Aa Ac}{f:Ac->Ac->Ko Ac}{g:Ak->Ak->Ak}
abbrev R2:=V->V->Hp->VK->Prop
def OpR (X:Cx)(f:Ac->Ac->Ko Ac)(r:R2):Prop:=
 ∀ (Y:Aa (Af × Cq)) (s:Ag) (σ : St) (H:Hp) (x y:V) (v u:Ac) (Q:VK),Inv X Y σ H s->qK x v->qK y u->r x y H Q ->
  Ao (Au X.prog X.w) X.A (f v u) (EP X Y σ Q) X.xe s
def UnR (X:Cx)(f:Ac->Ko Ac)(r:V->Hp->VK->Prop):Prop:=
 ∀ (Y:Aa (Af × Cq)) (s:Ag) (σ : St) (H:Hp) (x:V) (v:Ac) (Q:VK),Inv X Y σ H s->qK x v->r x H Q ->
  Ao (Au X.prog X.w) X.A (f v) (EP X Y σ Q) X.xe s
def j8 (X:Cx)(f:Ac)(r:Aa V->Hp->VK->Prop):Prop:=
 ∀ (Y:Aa (Af × Cq)) (s:Ag) (σ : St) (H:Hp) (J:Aa V) (us:Aa Ac) (Q:VK),Inv X Y σ H s->qJ J us->r J H Q ->
  Ao (Au X.prog X.w) X.A (call f us) (EP X Y σ Q) X.xe s
def IV (X:Cx)(r:V->Hp->(As->Hp->Prop)->Prop):Prop:=
 ∀ (Y:Aa (Af × Cq)) (s:Ag) (σ : St) (H:Hp) (x:V) (v:Ac) (Q:As->Hp->Prop),Inv X Y σ H s->qK x v->r x H Q ->
  Ao (Au X.prog X.w) X.A (truthy v) (TP X Y σ Q) X.xe s
def tOp (r:R2)(Y U:TE):TE:=λσ H Q=>Y σ H λx G=>U σ G λy J=>r x y J Q
def rI (C:Ak->Ak->Prop)(g:Ak->Ak->V):R2:=λx y H Q=>∃ i j,x=.int i/\y=.int j/\C i j/\Q (g i j) H
def rI0 (g:Ak->Ak->V):R2:=λx y H Q=>∃ i j,x=.int i/\y=.int j/\Q (g i j) H
def rU (g:Ak->V):V->Hp->VK->Prop:=λx H Q=>∃ i,x=.int i/\Q (g i) H
section
variable {X:Cx}{a b c:Bt}{ta tb tc:TE}{pos:Ev}
theorem O6 (C:PE X a ta)(O:PE X b tb){pins:Aa (Af × Cq)}{s:Ag}{σ : St}{H:Hp}{R:V->V->Hp->Prop}(I:Inv X pins σ H s)
  (h:ta σ H λx N=>tb σ N λy Y=>R x y Y) {Q:Ac->Ag->Prop} {f:Ac->Ac->Ko Ac}
  (T:∀ v u G x y Y,Inv X pins σ Y G->qK x v->qK y u->R x y Y->Ao (Au X.prog X.w) X.A (f v u) Q X.xe G) :
  Ao (Au X.prog X.w) X.A (eval a X.env) (λv U=>Ao (Au X.prog X.w) X.A (eval b X.env) (λu J=>Ao (Au X.prog X.w) X.A (f v u) Q X.xe J) X.xe U) X.xe s:=by
 refine thn (C pins s σ H _ I h) λv M ⟨x,N,L,j,E⟩=>?_;refine thn (O pins M σ N _ L E) λu G ⟨y,Y,w,B,A⟩=>?_;exact T v u G x y Y w j B A
theorem opI {f:Ac->Ac->Ko Ac}{C:Ak->Ak->Prop}
  (rule:∀ (i j:Ak) (t u:Te) (s:Ag) (Q:Ac->Ag->Prop) (E:Ac->Ag->Prop),C i j->Q (.int (g i j) s.toks) { s with toks:=s.toks+1 } -> Ao (Au X.prog X.w) X.A (f (.int i t) (.int j u)) Q E s) :
  OpR X f (rI C λi j=>.int (g i j)):=by
 intro Y s σ H x y v u Q I N J h;obtain⟨i,j,rfl,rfl,U,q⟩:=h;obtain⟨t,rfl⟩:=N;obtain⟨G,rfl⟩:=J;exact rule i j t G s _ _ U ⟨.int (g i j),H,I.tok _,⟨_,rfl⟩,q⟩
theorem SK {f:Ac->Ac->Ko Ac}
  (rule:∀ (i j:Ak) (t u:Te) (s:Ag) (Q:Ac->Ag->Prop) (E:Ac->Ag->Prop),Q (.int (g i j) s.toks) { s with toks:=s.toks+1 } -> Ao (Au X.prog X.w) X.A (f (.int i t) (.int j u)) Q E s) :
  OpR X f (rI0 λi j=>.int (g i j)):=by
 intro Y s σ H x y v u Q I G J h;obtain⟨i,j,rfl,rfl,q⟩:=h;obtain⟨t,rfl⟩:=G;obtain⟨U,rfl⟩:=J;exact rule i j t U s _ _ ⟨.int (g i j),H,I.tok _,⟨_,rfl⟩,q⟩
theorem Q9 {g:Ak->Ak->As}
  (rule:∀ (i j:Ak) (t u:Te) (s:Ag) (Q:Ac->Ag->Prop) (E:Ac->Ag->Prop),Q (.bool (g i j)) s->Ao (Au X.prog X.w) X.A (f (.int i t) (.int j u)) Q E s) :
  OpR X f (rI0 λi j=>.bl (g i j)):=by
 intro Y s σ H x y v u Q I G J h;obtain⟨i,j,rfl,rfl,q⟩:=h;obtain⟨t,rfl⟩:=G;obtain⟨U,rfl⟩:=J;exact rule i j t U s _ _ ⟨.bl (g i j),H,I,rfl,q⟩
def IS (i j:Ak):Prop:=0<j/\j<1073741824
def IT (i j:Ak):Prop:=0<=j/\j<=1000000/\i.natAbs<2 ^ 64
def YC (i j:Ak):Prop:=(-(2 ^ 64)<i/\i<2 ^ 64)\/(-(2 ^ 64)<j/\j<2 ^ 64)
theorem YC.ok {i j:Ak}(h:YC i j):IntMulOk i j:=by
 rcases h with⟨Y,Q⟩|⟨Y,Q⟩
 .exact .of_left (intBits_le_64 Y Q)
 .exact .of_right (intBits_le_64 Y Q)
theorem SL:OpR X (Ei .Add) (rI0 λi j=>.int (i+j)):=SK λ_ _ _ _ _ _ _ q=>add_int q
theorem SR:OpR X (Ei .Sub) (rI0 λi j=>.int (i-j)):=SK λ_ _ _ _ _ _ _ q=>sub_int q
theorem SO:OpR X (Ei .Mult) (rI YC λi j=>.int (i*j)):=opI λ_ _ _ _ _ _ _ Q q=>mul_int q Q.ok
theorem F3:OpR X (Ei .FloorDiv) (rI IS λi j=>.int (i/j)):=opI λi j _ _ _ _ _ Q q=>by
 have J:(0:Ak)<j:=Q.1;have Y:j<1073741824:=Q.2;exact floordiv_int om (by rw[Rl i om];exact q) (.inl (Uv om))
theorem SN:OpR X (Ei .Mod) (rI (λ_ j=>0<j) λi j=>.int (i % j)):=opI λi j _ _ _ _ _ Q q=>by
 have Y:(0:Ak)<j:=Q;exact mod_int' om (by rw[Rm i om];exact q)
theorem SQ:OpR X (Ei .Pow) (rI IT λi j=>.int (i ^ j.toNat)):=opI λ_ _ _ _ _ _ _ Q q=>pow_int_small Q.1 Q.2.1 Q.2.2 q
theorem unI {f:Ac->Ko Ac}{g:Ak->Ak}
  (rule:∀ (i:Ak) (t:Te) (s:Ag) (Q:Ac->Ag->Prop) (E:Ac->Ag->Prop),Q (.int (g i) s.toks) { s with toks:=s.toks+1 } -> Ao (Au X.prog X.w) X.A (f (.int i t)) Q E s) :
  UnR X f (rU λi=>.int (g i)):=by
 intro Y s σ H x v Q I J h;obtain⟨i,rfl,q⟩:=h;obtain⟨t,rfl⟩:=J;exact rule i t s _ _ ⟨.int (g i),H,I.tok _,⟨_,rfl⟩,q⟩
theorem EG:UnR X (sB .USub) (rU λi=>.int (-i)):=unI λ_ _ _ _ _ q=>neg_int q
end
section
variable {X:Cx}{a b c:Bt}{ta tb tc:TE}{pos:Ev}
theorem L3 {pins:Aa (Af × Cq)}{σ:St}{H:Hp}{s:Ag}{Q:VK}{k Y:As}(I:Inv X pins σ H s)(q:Q (.bl k) H)(e:k=Y):EP X pins σ Q (.bool Y) s:=by
 subst e;exact⟨.bl k,H,I,rfl,q⟩
theorem AD:OpR X (Df .Lt) (rI0 λi j=>.bl (decide (i<j))):=Q9 λ_ _ _ _ _ _ _ q=>lt_int q
theorem AC:OpR X (Df .LtE) (rI0 λi j=>.bl (decide (i<=j))):=Q9 λ_ _ _ _ _ _ _ q=>le_int q
theorem AB:OpR X (Df .Gt) (rI0 λi j=>.bl (decide (j<i))):=Q9 λ_ _ _ _ _ _ _ q=>gt_int q
theorem AA:OpR X (Df .GtE) (rI0 λi j=>.bl (decide (j<=i))):=Q9 λ_ _ _ _ _ _ _ q=>ge_int q
theorem SM:OpR X (Df .Is) (λx y H Q=>y=.non/\Q (.bl (decide (x=.non))) H):=by
 intro J s σ H x y v u Q I Y U h;obtain⟨rfl,q⟩:=h;cases U;refine is_none_gen (L3 I q ?_);cases x <;> first
  |(cases Y;rfl)
  |(obtain⟨t,rfl⟩:=Y;rfl)
theorem OpR.or {r G:R2}(h:OpR X f r)(h':OpR X f G):OpR X f (λx y H Q=>r x y H Q\/G x y H Q):=by
 intro Y s σ H x y v u Q I J U q;rcases q with q|q
 .exact h Y s σ H x y v u Q I J U q
 .exact h' Y s σ H x y v u Q I J U q
theorem kA (b:Bt){op:Xc}(h:op≠.In:=by decide)(h2:op≠.NotIn:=by decide):Ma op b=false:=by
 have Y:(op == CmpOp.In)=false:=by cases op <;> first|rfl|exact absurd rfl h
 have Q:(op == CmpOp.NotIn)=false:=by cases op <;> first|rfl|exact absurd rfl h2
 cases b <;> simp[Ma,Y,Q]
def oA (K:Aj)(x:V)(H:Hp)(k:As):Prop:=
 match x with
 |.non=>k=false
 |.bl b=>k=b
 |.int i=>k=(i != 0)
 |.str y=>y.length<=sizeLine/\k=((y.length:Ak) != 0)
 |.byt y=>y.size<=sizeLine/\k=((y.size:Ak) != 0)
 |.ref p=>(∃ Q,SqL K H p Q/\k=!Q.isEmpty)\/(∃ Q,SqT K H p Q/\k=!Q.isEmpty)\/∃ Y,H p=Ab (.dK Y)/\k=!Y.isEmpty
 |_=>Fn
theorem oV {κ:Type}{kvs:Aa (κ × V)}{vs:Aa (κ × Ac)}(r:KV kvs vs):(!vs.isEmpty)=!kvs.isEmpty:=by
 cases r <;> rfl
theorem mP {xs:Aa V}{its:Aa Ac}(r:qJ xs its):(!its.toArray.isEmpty)=!xs.isEmpty:=by
 cases r <;> simp
theorem pM:(sizeLine:Ai)<2 ^ 63:=by rw[Fb];decide
theorem pV:IV X (λx H Q=>∃ k,oA X.K x H k/\Q k H):=by
 intro T s σ H x v Q I N h;obtain⟨k,e,q⟩:=h;have M:=pM;have hs:sizeLine=16777216:=Fb;cases x with
 |non =>
  cases N;have Y:k=false:=e;subst Y;exact truthy_none ⟨H,I,q⟩
 |bl b =>
  cases N;have Y:k=b:=e;subst Y;exact Zg ⟨H,I,q⟩
 |int i =>
  obtain⟨t,rfl⟩:=N;have Y:k=(i != 0):=e;subst Y;exact PySem.P.truthy_int ⟨H,I,q⟩
 |str y =>
  obtain⟨t,rfl⟩:=N;obtain⟨E,Y⟩:y.length<=sizeLine/\k=((y.length:Ak) != 0):=e;subst Y;exact PySem.P.truthy_str om ⟨H,I.tok _,q⟩
 |byt y =>
  obtain⟨t,rfl⟩:=N;obtain⟨E,Y⟩:y.size<=sizeLine/\k=((y.size:Ak) != 0):=e;subst Y;exact PySem.W.truthy_bytes om ⟨H,I.tok _,q⟩
 |ref p =>
  cases N;have Y:(∃ G,SqL X.K H p G/\k=!G.isEmpty)\/(∃ G,SqT X.K H p G/\k=!G.isEmpty)\/∃ J,H p=Ab (.dK J)/\k=!J.isEmpty:=e;rcases Y with⟨G,O,Y⟩|⟨G,O,Y⟩|⟨J,O,Y⟩
  .subst Y
   obtain⟨B,r,pl,L⟩:=I.list O;have U:=r.length;exact wpAny_truthy_list pl.isList (by simp only[AT];omega) ⟨H,I.tok _,by rw[mP r];exact q⟩
  .subst Y
   obtain⟨B,r,pl,L⟩:=I.tuple O;have U:=r.length;exact truthy_tuple pl (by simp only[AT];omega) ⟨H,I.tok _,by rw[mP r];exact q⟩
  .subst Y
   obtain⟨L,A,C,r,m⟩:J.length<=sizeLine/\(p == Kc)=false/\∃ C,KV J C/\s.heap.DictOf (zO X.prog X.w) p C:=I.hok p _ O;have U:J.length=C.length:=Paired.length r;exact wpAny_truthy_dict A m om ⟨H,I.tok _,by rw[oV r];exact q⟩
 |_=>exact(show Fn from e).elim
theorem QC:OpR X (Ei .Add) (λx y H Q=>∃ i j,x=.str i/\y=.str j/\i.length+j.length<=sizeLine/\Q (.str (i++j)) H):=by
 intro Y s σ H x y v u Q I N J h;obtain⟨i,j,rfl,rfl,U,q⟩:=h;obtain⟨t,rfl⟩:=N;obtain⟨G,rfl⟩:=J;exact add_str (λG O=>⟨.str (i++j),H,I.tok _,⟨_,rfl⟩,q⟩) U
theorem jM {x:V}(r:qJ [x] us):∃ u,us=[u]/\qK x u:=by
 cases r with
 |cons Y Q=>cases Q;exact⟨_,rfl,Y⟩
theorem sL {x y:V}(r:qJ [x,y] us):∃ u Q,us=[u,Q]/\qK x u/\qK y Q:=by
 cases r with
 |cons U G =>
  cases G with
  |cons Y J=>cases J;exact⟨_,_,rfl,U,Y⟩
theorem lI:j8 X (.type "int") (λxs H Q=>(∃ i,xs=[.int i]/\Q (.int i) H)\/∃ k,xs=[.bl k]/\Q (.int (if k then 1 else 0)) H):=by
 intro Y s σ H xs us Q I r h;rcases h with⟨i,rfl,q⟩|⟨k,rfl,q⟩
 .obtain⟨u,rfl,t,rfl⟩:=jM r
  exact call_int_int ⟨.int i,H,I,⟨_,rfl⟩,q⟩
 .obtain⟨u,rfl,J⟩:=jM r
  cases J;exact call_int_bool ⟨.int (if k then 1 else 0),H,I.tok _,⟨_,rfl⟩,q⟩
def MW (K:Aj)(x:V)(H:Hp)(n:Ai):Prop:=
 match x with
 |.str y=>y.length<=sizeLine/\n=y.length
 |.byt y=>y.size<=sizeLine/\n=y.size
 |.ref p=>(∃ Q,SqL K H p Q/\n=Q.length)\/∃ Q,SqT K H p Q/\n=Q.length
 |_=>Fn
theorem YI:j8 X (.builtin "len") (λxs H Q=>∃ x n,xs=[x]/\MW X.K x H n/\Q (.int n) H):=by
 intro C s σ H xs us Q I r h;obtain⟨x,n,rfl,e,q⟩:=h;obtain⟨u,rfl,G⟩:=jM r;have T:=pM;have hs:sizeLine=16777216:=Fb;cases x with
 |str y =>
  obtain⟨t,rfl⟩:=G;obtain⟨B,J⟩:y.length<=sizeLine/\n=y.length:=e;subst J;exact len_str om ⟨.int _,H,I.tok _,⟨_,rfl⟩,q⟩
 |byt y =>
  obtain⟨t,rfl⟩:=G;obtain⟨B,J⟩:y.size<=sizeLine/\n=y.size:=e;subst J;exact PySem.W.len_bytes om ⟨.int _,H,I.tok _,⟨_,rfl⟩,q⟩
 |ref p =>
  cases G;have J:(∃ xs,SqL X.K H p xs/\n=xs.length)\/∃ xs,SqT X.K H p xs/\n=xs.length:=e;rcases J with⟨xs,U,J⟩|⟨xs,U,J⟩
  .subst J
   obtain⟨N,O,pl,L⟩:=I.list U;have Y:=O.length;exact Calls.call_len_list pl.isList (by simp only[AT];omega) ⟨.int xs.length,H,I.tok _,⟨_,by simp only[AT];rw[Y]⟩,q⟩
  .subst J
   obtain⟨N,O,pl,L⟩:=I.tuple U;have Y:=O.length;exact len_tuple pl (by simp only[AT];omega) ⟨.int xs.length,H,I.tok _,⟨_,by simp only[AT];rw[Y]⟩,q⟩
 |_=>exact(show Fn from e).elim
end
end _L
namespace _L
open PySem PySem.Spec PyProof.Rows
variable {mA:Ar->Am Ac}
structure ObjM (h:Bo)(x dx C:Af)(mA:Ar->Am Ac):Prop where
 obj:h.get? x=Ab (Uu C dx)
 ns:h.Ns1 dx mA
 ne:dx≠x
set_option tactic.hygienic true in
theorem XJ {h:Bo}{U:Af}(n:h.Ns1 U mA):∃ J,h.get? U=Ab J/\∀ name,Wi name J=Ab (mA name):=by
 obtain⟨o,Y,T,L,G,N,_,O⟩:=n;refine⟨o,L,λname=>?_⟩;have e:=O name;unfold nsFind findBy at e;rw[<- Array.find?_toList] at e;unfold Wi;rw[G];dsimp only
 split
 .rename_i y q
  rw[q] at e;exact congrArg Ab e
 .rename_i q
  rw[q] at e;have a:Y.toList.any (·.refKey)=false:=by
   rw[List.any_eq_false];intro y C;obtain⟨z,t,Q⟩:=N y (Pe.mp C);simp[DictEntry.refKey,Q]
  have B:¬ Y.toList.any (·.refKey)=true:=by rw[a];exact Fp
  rw[Bg B];exact congrArg Ab e
theorem ObjM.look {h:Bo}{x Y C:Af}(I:ObjM h x Y C mA):∃ Q,PySem.W.InstAt h x (Uu C Y) C (Ab Q)/\∀ name,Wi name Q=Ab (mA name):=
 let ⟨Q,J,U⟩:=XJ I.ns
 ⟨Q,⟨I.obj,rfl,rfl,J⟩,U⟩
theorem vC.some_of {v:V}{o:Am Ac}(r:vC (Ab v) o):∃ u,o=Ab u/\qK v u:=by
 cases o with
 |none=>exact(show Fn from r).elim
 |some u=>exact⟨u,rfl,r⟩
section
variable {P:Bf}{w:Bx}{H H':Hp}{h h':Bo}{a C dx:Af}{fs fs':Aa (Ar × V)}
theorem B5 (Q:HOk P w H h)(e:H a=Ab (.ins C dx fs)):∃ mA,ObjM h a dx C mA/\(∀ f,vC (fs.lookup f) (mA f))/\Ab3 mA (fs.map (·.1))/\fs.length<=1000/\H dx=Ab (.own a):=by
 obtain⟨d,z,Y,J,mA,n,r,q⟩:=(show zC P w H h a (.ins C dx fs) from Q a _ e)
 exact⟨mA,⟨J,n,Y⟩,r,q,z,d⟩
end
structure Cls (K:Aj)(C:Af):Prop where
 pg:sK K C AaT=true
 hd:PySem.W.hasDictIn K C=true
 po:PySem.W.plainOver K C=true
 sa:Nj K (.ref C) "__setattr__" = Ab (Ab (.builtin "object.__setattr__"))
theorem Cls.get {K:Aj}{C:Af}(c:Cls K C)(f:Ar):sK K C f=true:=c.pg
section
variable {X:Cx}{pins:Aa (Af × Cq)}{σ : St}{H:Hp}{s:Ag}{A:Br}{E:Ac->Ag->Prop}{Q:Ac->Ag->Prop}{c:Ac}{b:As}
inductive TyOf (K:Aj)(H:Hp):V->Ac->Prop where
 |non:TyOf K H .non (.type "NoneType")
 |bl (x:As):TyOf K H (.bl x) (.type "bool")
 |int (i:Ak):TyOf K H (.int i) (.type "int")
 |str (x:Ar):TyOf K H (.str x) (.type "str")
 |flt (x:UInt64):TyOf K H (.flt x) (.type "float")
 |lst {a:Af} {xs:Aa V} (e:H a=Ab (.lst xs)):TyOf K H (.ref a) (.type "list")
 |frz {a:Af} {o:Cq} {xs:Aa V} (e:H a=Ab (.frz o (.lst xs))):TyOf K H (.ref a) (.type "list")
 |tup {a:Af} {xs:Aa V} (e:H a=Ab (.tup xs)):TyOf K H (.ref a) (.type "tuple")
 |dK {a:Af} {kvs:Aa (Key × V)} (e:H a=Ab (.dK kvs)):TyOf K H (.ref a) (.type "dict")
 |dT {a:Af} {kvs:Aa (Aa Key × V)} (e:H a=Ab (.dT kvs)):TyOf K H (.ref a) (.type "dict")
 |ins {a C dx:Af} {fs:Aa (Ar × V)} (e:H a=Ab (.ins C dx fs)) (cl:Cls K C) (ha:Nj K (.ref C) "__class__" = Ab (Ab (.builtin "object.__class__")))
   (hn:Zh K (.builtin "object.__class__") "__get__" = Ab (Ab (.builtin "getset_descriptor.__get__"))) (htk:Aa9 K (.builtin "object.__class__")=Ab true)
   (hm:Xd K C (.type "object")=Ab true):TyOf K H (.ref a) (.ref C)
theorem X8 {x:V}{u t:Ac}(I:Inv X pins σ H s)(Y:qK x u)(ty:TyOf X.K H x t)(e:Lj X.K t c=Ab b)(h:∀ tk,Q (.bool b) { s with toks:=tk }) :
  Ao (Au X.prog X.w) A (call (.builtin "isinstance") [u,c]) Q E s:=by
 cases ty with
 |non=>cases (show u=Dk from Y);exact En Zi I.kIn Hg e (λz=>nomatch z) h
 |bl y=>cases (show u=Ga y from Y);exact En Zj I.kIn Hg e (λz=>nomatch z) h
 |int i=>obtain⟨t,q⟩:=(show ∃ t,u=Pk i t from Y);cases q;exact En t0 I.kIn Hg e (λz=>nomatch z) h
 |str y=>obtain⟨t,q⟩:=(show ∃ t,u=Vp y t from Y);cases q;exact En u8 I.kIn Hg e (λz=>nomatch z) h
 |flt y=>obtain⟨t,q⟩:=(show ∃ t,u=Value.float y t from Y);cases q;exact En PySem.W.kitx_float I.kIn Hg e (λz=>nomatch z) h
 |@lst a N ea =>
  cases (show u=Cg a from Y)
  obtain⟨_,_,n,_,U⟩:=(show zC X.prog X.w H s.heap a (.lst N) from I.hok a _ ea)
  exact En Js I.kIn ⟨_,U,rfl⟩ e (λz=>nomatch z) h
 |@frz a j N ea =>
  cases (show u=Cg a from Y)
  obtain⟨_,_,_,n,_,U⟩:=(show zC X.prog X.w H s.heap a (.frz j (.lst N)) from I.hok a _ ea)
  exact En Js I.kIn ⟨_,U,rfl⟩ e (λz=>nomatch z) h
 |@tup a N ea =>
  cases (show u=Cg a from Y)
  obtain⟨_,_,_,p⟩:=(show zC X.prog X.w H s.heap a (.tup N) from I.hok a _ ea)
  obtain⟨o,U,B,_⟩:=p;exact En Mv I.kIn ⟨o,U,B⟩ e (λz=>nomatch z) h
 |@dK a G ea =>
  cases (show u=Cg a from Y)
  obtain⟨_,_,m,_,p⟩:=(show zC X.prog X.w H s.heap a (.dK G) from I.hok a _ ea)
  obtain⟨o,g,v,U,B,_⟩:=p;exact En No I.kIn ⟨o,U,B.1⟩ e (λz=>nomatch z) h
 |@dT a G ea =>
  cases (show u=Cg a from Y)
  obtain⟨_,_,N,_,o,g,v,U,B,_⟩:=(show zC X.prog X.w H s.heap a (.dT G) from I.hok a _ ea)
  exact En No I.kIn ⟨o,U,B.1⟩ e (λz=>nomatch z) h
 |@ins a C r fs ea T M w L d =>
  cases (show u=Cg a from Y)
  obtain⟨mA,O,_⟩:=B5 I.hok ea;obtain⟨f,J,_⟩:=O.look;exact En (PySem.W.kitx_own (T.get _) T.hd M w L d) I.kIn J e (λz=>nomatch z) h
end
end _L
namespace _L
open PySem PySem.Spec PyProof.Rows
variable {ps:Aa Ar}{K:Aj}{mg:Ar->Am Ac}{kindOf:Ar->Am Ie}{A:Br}{scope:El}
structure Room (k:Ai)(A:Br):Prop where
 hd:A.handled=none
 dp:A.depth+3*k+5<Qs
 un:A.units+16*k+200<Fk
 gd:A.guards=Ab []
theorem Room.deeper {k:Ai}(r:Room (k+1) A)(env:Il):Room k (A.deeper env):=
 ⟨r.hd,by have:=r.dp;show A.depth+1+3*k+5<_;omega,by have:=r.un;show A.units+3+16*k+200<_;omega,r.gd⟩
theorem Room.depth {k:Ai}(r:Room k A):A.depth<Qs:=by have:=r.dp;omega
theorem Room.units {k:Ai}(r:Room k A):A.units+64<Fk:=by have:=r.un;omega
def qAK:TA:=λ_ H Q=>Q [] H
section
variable {X:Cx}{e:Bt}{es:Aa Bt}{te:TE}{t:TA}{pos:Ev}
theorem SS:PA X [] qAK:=λ_ _ _ _ H Q I h=>Sa ⟨[],H,I,.nil,h⟩
def qAN (t:TA):TE:=λσ H Q=>t σ H λY J=>Y.length<=sizeLine/\∀ p,J p=none->Q (.ref p) (upd J p (.tup Y))
def qAJ (t:TA):TE:=λσ H Q=>t σ H λY J=>Y.length<=sizeLine/\∀ p,J p=none->Q (.ref p) (upd J p (.lst Y))
theorem SY  (h:PA X es t):PE X (.Tuple es x1 pos) (qAN t):=by
 intro Y s σ H Q I B;refine wpAny_Tuple_spliced (thn (h pos Y s σ H _ I B) λC J ⟨N,G,U,r,z,q⟩=>⟨by rw[<- r.length];exact z,?_⟩)
 have O:G J.heap.objs.size=none:=U.hok.fresh (Av _);refine⟨.ref J.heap.objs.size,upd G J.heap.objs.size (.tup N),U.laid (t':=J.toks) (λb u e=>Ah _ e) (Av _) ?_,rfl,q _ O⟩;exact⟨z,C,r,⟨_,Bc _ rfl,rfl,_,rfl⟩⟩
theorem W4 (h:PA X es t):PE X (.List es pos) (qAJ t):=by
 intro Y s σ H Q I B;refine wpAny_List_spliced (thn (h pos Y s σ H _ I B) λC J ⟨N,G,U,r,z,q⟩=>⟨by rw[<- r.length];exact z,?_⟩)
 have O:G J.heap.objs.size=none:=U.hok.fresh (Av _);refine⟨.ref J.heap.objs.size,upd G J.heap.objs.size (.lst N),U.laid (t':=J.toks) (λb u e=>Ah _ e) (Av _) ?_,rfl,q _ O⟩;exact⟨z,C,0,r,Bc _ rfl⟩
end
abbrev Sp:=Aa V->Hp->VK->XK->Prop
abbrev CXT:=Aa Il->Hp->Ag->XK->Ac->Ag->Prop
structure Env0 (P:Bf)(w:Bx)(K:Aj)(mg:Ar->Am Ac)(base:Bo)(A:Br)(outer:Aa Il)(s:Ag)(H:Hp):Prop where
 frames:A.frames=Ab outer
 mod:Mod K mg base
 bs:∀ b o,base.get? b=Ab o->s.heap.get? b=Ab o/\H b=none
 bsz:base.objs.size<=s.heap.objs.size
 funs:s.heap.FunFrames base outer
 frf:∀ b∈frs outer,H b=none
 hok:HOk P w H s.heap
 bare:Of s.gens
def CE (Y:Aa Il)(P:Bf)(w:Bx)(H:Hp)(s:Ag)(Q:VK)(u:Ac)(s':Ag):Prop:=
 ∃ v J,s'.os=s.os/\Of s'.gens/\Un (frs Y) [] H J s.heap s'.heap/\HOk P w J s'.heap/\qK v u/\Q v J
def CR (CX:CXT)(Y:Aa Il)(P:Bf)(w:Bx)(H:Hp)(s:Ag)(Q:VK)(E:XK)(r:Ya)(s':Ag):Prop:=
 match r with
 |.ok (.ret u)=>CE Y P w H s Q u s'
 |.ok _=>Fn
 |.error e=>CX Y H s E e s'
structure FnOk (P:Bf)(w:Bx)(K:Aj)(mg:Ar->Am Ac)(base:Bo)(CX:CXT)(k:Ai)(f:Af)(fd:Fu)(ps:Aa Ar)(sp:Sp):Prop where
 len:∀ vs H Q E,sp vs H Q E->vs.length=ps.length
 run:∀ (A:Br) (outer:Aa Il) (s:Ag) (H:Hp) (args:Args) (us:Aa Ac) (vs:Aa V) (Q:VK) (E:XK),Room k A->Env0 P w K mg base A outer s H->Om s fd args (ps.zip us)->qJ vs us->sp vs H Q E ->
  Ih (Au P w) A (.call (.ref f) args) (CR CX outer P w H s Q E) s
section
variable {X:Cx}{pins:Aa (Af × Cq)}{σ : St}{H:Hp}{s s':Ag}
theorem Inv.env0 (I:Inv X pins σ H s):Env0 X.prog X.w X.K X.mg X.base X.A X.stack s H:=
 ⟨I.ok.frames,I.ok.mod,I.bs,Dc I.ok.bsz I.sz,I.stack,I.stkFree,I.hok,I.bare⟩
theorem Inv.after {Q:VK}{u:Ac}(I:Inv X pins σ H s)(h:CE X.stack X.prog X.w H s Q u s'):EP X pins σ Q u s':=by
 obtain⟨v,G,os,Y,un,U,r,q⟩:=h;obtain⟨N,g,d,t,J⟩:=s';obtain rfl:J=s.os:=os;exact⟨v,G,I.call (h':=N) (g':=g) (d':=d) (t':=t) (ch:=[]) un U Y (λb z=>absurd z (by simp)),r,q⟩
end
def vN (K:Aj)(fd:Fu)(ps:Aa Ar)(Y:Aa Ac):Prop:=
 ∀ (s:Ag) (Q:Aa Ac),K.In s.heap->(Q++Y).length=ps.length->Om s fd ⟨Q,[]⟩ (ps.zip (Q++Y))
theorem vN.all {fd:Fu}(h:∀ us:Aa Ac,us.length=ps.length->Rx fd ⟨us,[]⟩=pure (ps.zip us)):vN K fd ps []:=λs us _ Q=>by
 rw[Fv] at Q ⊢;exact .of_eq (h us Q)
structure FnScope (N P:Aa Ar)(sc:El):Prop where
 kind:sc.kind=.function
 co:sc.isCoroutine=false
 gen:sc.isGenerator=false
 nd:N.Nodup
 pre:N.take P.length=P
 par:∀ x∈P,sc.names.lookup x=Ab .local \/ sc.names.lookup x=Ab .cell
 nofree:∀ y∈sc.names,y.2≠.free
theorem lG {x:Ar}:∀ {binds:Aa (Ar × Ac)} {m:Ar->Am Ac},(∀ v,(x,v) ∉ binds)->Xe kindOf binds m x=m x
 |[],_,_=>rfl
 |(n,v)::r,m,h=>by
  unfold Xe;rw[lG λw Q=>h w (Bp _ Q)]
  split
  .have:x≠n:=by rintro rfl;exact h v Cn
   simp[this]
  .rfl
theorem lE {x:Ar}:∀ {binds:Aa (Ar × Ac)} {m:Ar->Am Ac},(∀ v,(x,v) ∉ binds)->Xf kindOf binds m x=m x
 |[],_,_=>rfl
 |(n,v)::r,m,h=>by
  unfold Xf;rw[lE λw Q=>h w (Bp _ Q)]
  split
  .rfl
  .have:x≠n:=by rintro rfl;exact h v Cn
   simp[this]
theorem lF {x:Ar}{v:Ac}:∀ {P:Aa Ar} {vs:Aa Ac} {i:Ai} {m:Ar->Am Ac},P.Nodup->P[i]? = Ab x->vs[i]? = Ab v->kindOf x=Ab .local ->
  Xe kindOf (P.zip vs) m x=Ab v
 |[],_,_,_,_,h,_,_=>by simp at h
 |_::_,[],_,_,_,_,h,_=>by simp at h
 |p::P,w::vs,0,m,J,Y,Q,U=>by
  simp at Y Q;subst Y;subst Q;show Xe kindOf ((p,w)::P.zip vs) m p=_;unfold Xe;rw[lG λv hv=>(Jp.mp J).1 (Mj hv).1,Be U];simp
 |p::P,w::vs,i+1,m,J,Y,Q,U=>by
  show Xe kindOf ((p,w)::P.zip vs) m x=_;unfold Xe;exact lF (i:=i) (Jp.mp J).2 (by simpa using Y) (by simpa using Q) U
theorem lD {x:Ar}{v:Ac}:∀ {P:Aa Ar} {vs:Aa Ac} {i:Ai} {m:Ar->Am Ac},P.Nodup->P[i]? = Ab x->vs[i]? = Ab v->kindOf x≠Ab .local ->
  Xf kindOf (P.zip vs) m x=Ab v
 |[],_,_,_,_,h,_,_=>by simp at h
 |_::_,[],_,_,_,_,h,_=>by simp at h
 |p::P,w::vs,0,m,J,Y,Q,U=>by
  simp at Y Q;subst Y;subst Q;show Xf kindOf ((p,w)::P.zip vs) m p=_;unfold Xf;rw[lE λv hv=>(Jp.mp J).1 (Mj hv).1,Bg U];simp
 |p::P,w::vs,i+1,m,J,Y,Q,U=>by
  show Xf kindOf ((p,w)::P.zip vs) m x=_;unfold Xf;exact lD (i:=i) (Jp.mp J).2 (by simpa using Y) (by simpa using Q) U
noncomputable def xU (N:Aa Ar)(vs:Aa V):St:=vs.map Ab++Dg (N.length-vs.length) none
noncomputable def tO (CX:CXT)(P:Bf)(w:Bx)(K:Aj)(mg:Ar->Am Ac)(base:Bo)(N:Aa Ar)(Q:Ar)(scope:El)(f:Af)(cd:Ac)(A:Br)(outer:Aa Il)(s:Ag)(H:Hp)(E:XK):Cx where
 prog:=P
 w:=w
 K:=K
 mg:=mg
 base:=base
 A:=A.deeper (Go Q scope s.heap.objs.size f cd)
 N:=N
 s₀:=s
 H₀:=H
 env:=Go Q scope s.heap.objs.size f cd
 outer:=outer
 stack:=Go Q scope s.heap.objs.size f cd::outer
 ex:=[]
 calm:=true
 fn:=λ_=>true
 pn:=[]
 xe:=λe J=>Ao (Au P w) (A.deeper (Go Q scope s.heap.objs.size f cd)) (leaving (Go Q scope s.heap.objs.size f cd) e) (λ_ Y=>CX outer H s E e Y) (λU Y=>CX outer H s E U Y) J
theorem sW {Q:El}{n:Ai}{x:Ar}(h:Q.names.lookup x=Ab .cell):∃ c,(Hw n Q.names []).lookup x=Ab c:=by
 have q:=Kr Q.names n [] (.inl h);exact Jz.mp q
theorem lQ {CX:CXT}{P:Bf}{w:Bx}{base:Bo}{N:Aa Ar}{Y:Ar}{f:Af}{cd:Ac}{Q:Aa Il}{s M:Ag}{H:Hp}{E:XK}{us:Aa Ac}{vs:Aa V}
  (S:FnScope N ps scope) (g:A.handled=none) (U:Env0 P w K mg base A Q s H) (hl:vs.length=ps.length) (r:qJ vs us)
  (x:InCallC s s.heap.objs.size (Xe (Go Y scope s.heap.objs.size f cd).kindOf (ps.zip us) λ_=>none) (Hw (s.heap.objs.size+1) scope.names []) (Xf (Go Y scope s.heap.objs.size f cd).kindOf (ps.zip us) λ_=>none) M) :
  Inv (tO CX P w K mg base N Y scope f cd A Q s H E) [] (xU N vs) H M:=by
 have d:ps.length<=N.length:=by have:=congrArg Kz S.pre;rw[Ez] at this;omega
 obtain⟨L,m,rfl,T⟩:=x.done;have G:∀ b:Af,b ∉ (tO CX P w K mg base N Y scope f cd A Q s H E).ex:=λb z=>absurd (show b∈([]:Aa Af) from z) (by simp)
 refine⟨⟨U.mod,S.kind,rfl,rfl,Av _,λy z c L J=>?_,λy hy=>?_,λy c _ h=>?_,λ_=>g,Pg U.frames,.inr ⟨rfl,rfl⟩,λb z=>absurd z (G b),U.bs,U.bsz,λb _ _=>G b,λb z=>absurd z (G b),U.funs,U.frf⟩,
  rfl,U.bare,Un.kept T,⟨_,x.toInCall.ns,λi y v L J h3=>?_⟩,λy c h=>⟨_,x.cell y c h⟩,U.hok.fresh (Av _),λy c h=>?_,λp C=>absurd (show p∈([]:Aa (Af × Cq)) from C) (by simp),U.hok.kept T,?_⟩
 .exact name_of_addr x.apart (Fl L) (Fl J)
 .have hy:scope.names.lookup y=Ab .cell\/scope.names.lookup y=Ab .free:=hy
  rcases hy with hy|hy
  .exact sW hy
  .exact absurd rfl (S.nofree _ (Fl hy))
 .exact Eo (x.above y c (Fl h))
 .have B:i<vs.length:=by
   unfold xU at J;by_cases B:i<vs.length
   .exact B
   .rw[Cw (by simpa using B)] at J
    rw[Nc] at J
    split at J <;> cases J
  have j:vs[i]? = Ab v:=by
   unfold xU at J;rw[Bi (by simpa using B),Dn] at J
   cases e:vs[i]? with
   |none=>rw[e] at J;cases J
   |some a=>rw[e] at J;cases J;rfl
  obtain⟨u,I,o⟩:=r.get j;have C:ps[i]? = Ab y:=by
   rw[<- S.pre,Mr om];exact L
  have O:ps.Nodup:=by rw[<- S.pre];exact S.nd.sublist (List.take_sublist _ _)
  refine⟨u,o,?_⟩;rcases S.par y (Bq C) with k|k
  .exact .inl ⟨k,lF O C I k⟩
  .obtain⟨c,e⟩:=sW (n:=s.heap.objs.size+1) k
   refine .inr ⟨.inl k,c,e,?_⟩;have q:=x.cell y c e;rw[lD O C I (by show scope.names.lookup y≠_;rw[k];decide)] at q
   exact q
 .exact U.hok.fresh (Eo (x.above y c (Fl h)))
 .unfold xU
  show _=N.length;rw[Cf,Aq,List.length_replicate];omega
theorem HR {CX:CXT}{P:Bf}{w:Bx}{base:Bo}{k:Ai}{f:Af}{name U:Ar}{O:Po}{C:Aa EQ}{dV kV j pm G ct oc:Ac}{an od:Am Af}
  {m:Ay (Am Ac)} {N ps:Aa Ar} {sp:Sp} (lk:K.lookup f=Ab ⟨oc,od,.func (Gw name U O C scope dV kV j pm an G ct),m⟩) (d:Ll K G U=true) (S:FnScope N ps scope)
  (p:∀ vs H Q E,sp vs H Q E->vs.length=ps.length)
  (T:∀ (A:Br) (Y:Aa Il) (s:Ag) (H:Hp) (vs:Aa V) (Q:VK) (E:XK),Room k (A.deeper (Go U scope s.heap.objs.size f G))->sp vs H Q E ->
   ∃ t,PSs (tO CX P w K mg base N U scope f G A Y s H E) C t/\t { nx:=λ_ L=>Q .non L,rt:=Q } (xU N vs) H) :
  FnOk P w K mg base CX (k+1) f (Gw name U O C scope dV kV j pm an G ct) ps sp:=by
 refine⟨p,λA Y s H za us vs Q E h c hb r g=>?_⟩;have hl:=p _ _ _ _ g;have KX:K.In s.heap:=c.mod.kin.keeps λb o e=>(c.bs b o e).1;have lim:s.heap.NoLimit:=c.mod.nolimit.keeps λb o e=>(c.bs b o e).1;have M:∀ y∈ps.zip us,scope.names.lookup y.1=Ab .local \/ (scope.names.lookup y.1=Ab .cell/\((Hw (s.heap.objs.size+1) scope.names []).lookup y.1).isSome=true):=λ⟨n,v⟩ hy=>by
  rcases S.par n (Mj hy).1 with q|q
  .exact .inl q
  .exact .inr ⟨q,Kr _ _ _ (.inl q)⟩
 refine Vr h.depth (KX _ _ lk) rfl S.co S.gen rfl (Ye KX d) (hb _ _ _ _ ?_);refine Ro S.kind M λzb he s1 x=>?_;subst he;refine⟨lim.keeps x.toInCall.keep,codeAny_func ?_⟩;obtain⟨t,ht,hq⟩:=T A Y s H vs Q E (h.deeper _) g;have I:Inv (tO CX P w K mg base N U scope f G A Y s H E) [] (xU N vs) H s1:=lQ S h.hd c hl r x;refine Gm (ht [] s1 (xU N vs) H _ I hq) (λfl s' hs=>?_) λe s' hs=>hs;have fin:∀ {B : St} {L:Hp} {v:V} {u:Ac},Inv (tO CX P w K mg base N U scope f G A Y s H E) [] B L s'->qK v u->Q v L->CE Y P w H s Q u s':=
  λ{B L v u} J i q=>⟨v,L,J.os,J.bare,J.base,J.hok,i,q⟩
 cases fl with
 |ret u =>
  obtain⟨v,B,L,J,i,q⟩:=hs;exact fin J i q
 |next =>
  obtain⟨B,L,J,q⟩:=hs;exact fin (v:=V.non) (u:=Dk) J rfl q
 |brk =>
  obtain⟨_,_,_,q⟩:=hs;exact An q
 |cont =>
  obtain⟨_,_,_,q⟩:=hs;exact An q
end _L
namespace _H
open PySem PyProof.Rows
variable {Q:Ac->Ag->Prop}{lo hi:Am Ak}{items:Ay Ac}
noncomputable def lexLt:Aa Ak->Aa Ak->As
 |[],[]=>false
 |[],_::_=>true
 |_::_,[]=>false
 |x::Y,y::J=>if x=y then lexLt Y J else decide (x<y)
theorem lexLt_cons (x y:Ak)(xs Y:Aa Ak):lexLt (x::xs) (y::Y)=if x=y then lexLt xs Y else decide (x<y):=rfl
theorem dI:lexLt [] []=false:=rfl
theorem nN (y:Ak)(Y:Aa Ak):lexLt [] (y::Y)=true:=rfl
theorem nM (x:Ak)(xs:Aa Ak):lexLt (x::xs) [] = false:=rfl
theorem V9 (A:Br)(s:Ag)(a:Ak)(t:Te)(c:Ak)(u:Te):∃ e,SeqAt.EqAt A s (.int a t) (.int c u) e/\(e=true↔a=c):=
 ⟨(a == c),SeqAt.EqAt.int_int a t c u,by simp⟩
theorem J0 (A:Br)(s:Ag)(a:Ak)(t:Te)(c:Ak)(u:Te)(prog:Bf)(w:Bx)(E:Ac->Ag->Prop)(Q:Ac->Ag->Prop)(h:Q (.bool (decide (a<c))) s) :
  Ao (Au prog w) A (richCompare .Lt (.int a t) (.int c u)) Q E s:=
 (Xg h:Ao (Au prog w) A (Df .Lt (.int a t) (.int c u)) Q E s)
section
open PySem.SeqAt
open PySem.AutoSeq1 (wpAny_loadPart')
open PySem.MeetsSeq PySem.MeetsSeq2 PySem.MeetsSeq3
theorem dM (l b:Af)(items Y:Ay Ac)(n n2:Ai)(dd zc:Am Af)(sl i:Ay (Am Ac))(f m:Aa Ak)(hi:Ke items.toList f)(hj:Ke Y.toList m) :
  Meets (Ik.«tuple.__lt__» ⟨[.ref l,.ref b],[]⟩)
   (λ_ R s=>s.heap.get? l=Ab { cls:=.type "tuple",dict:=dd,data:=.seq items n,slots:=sl } /\ s.heap.get? b=Ab { cls:=.type "tuple",dict:=zc,data:=.seq Y n2,slots:=i } /\
    R (.ok (.ret (.bool (lexLt f m)))) s):=
 .of_wp λT w A R s h=>by
  obtain⟨p,g,d,r,os⟩:=s;obtain⟨hl,hb,h⟩:=h;have f2:=AutoSeq1.sub_tuple_tuple;have z1:items.size=f.length:=by rw[<- hi.length];simp
  have z2:Y.size=m.length:=by rw[<- hj.length];simp
  wp_walk using wpAny_loadPart' hl,wpAny_loadPart' hb,On _ (λB b s'=>b.1=none/\s'=⟨p,g,d,r,os⟩/\∃ (o v:Aa Ac) (G U:Aa Ak),B=o.zip v /\
   Ke o G/\Ke v U/\G.length+Y.size=U.length+items.size/\R (.ok (.ret (.bool (lexLt G U)))) ⟨p,g,d,r,os⟩) _
  case turn =>
   rintro⟨y,x⟩ B b s' ⟨I,rfl,o,v,G,U,N,H,O,J,L⟩;cases H with
   |nil=>rw[List.zip_nil_left] at N;cases N
   |cons a t j =>
    cases O with
    |nil=>rw[List.zip_nil_right] at N;cases N
    |cons c u M =>
     rw[Re] at N;injection N with zb E
     injection zb with hy hx
     subst hy hx;rw[lexLt_cons] at L;simp only[Ca] at J;obtain⟨e,he,C⟩:=V9 A.in1 ⟨p,g,d,r,os⟩ a t c u;refine Ad (he T w _ _ ?_);cases e with
     |true =>
      rw[Be (C.mp rfl)] at L
      wp_walk
      exact⟨rfl,rfl,_,_,_,_,E,j,M,by omega,L⟩
     |false =>
      rw[Bg (λq=>absurd (C.mpr q) Fp)] at L;have za:=J0 A.in1 ⟨p,g,d,r,os⟩ a t c u T w
      wp_walk using za
      exact⟨_,rfl,by simpa using L⟩
  case fin =>
   rintro⟨b1,b2⟩ s' ⟨I,rfl,o,v,G,U,N,H,O,J,L⟩;simp only at I;subst I;have hv:lexLt G U=decide (items.size<Y.size):=by
    cases H with
    |nil =>
     cases O with
     |nil =>
      simp only[Fh] at J;rw[dI];exact(Ds om).symm
     |cons c u hw =>
      simp only[Fh,Ca] at J;rw[nN];exact(Dl om).symm
    |cons a t hv =>
     cases O with
     |nil =>
      simp only[Fh,Ca] at J;rw[nM];exact(Ds om).symm
     |cons c u hw =>
      rw[Re] at N;cases N
   rw[hv] at L
   wp_walk
   exact⟨_,rfl,by simpa [v4] using L⟩
  case h =>
   exact⟨rfl,rfl,items.toList,Y.toList,f,m,rfl,hi,hj,by omega,h⟩
end
section
variable {prog:Bf}{w:Bx}{A:Br}{E:Ac->Ag->Prop}{s:Ag}
theorem lt_tupInts {l b:Af}{Y:Ay Ac}{U O:Aa Ak}(o:Qr s.heap l items)(y:Qr s.heap b Y)(hi:Ke items.toList U)(p:Ke Y.toList O)
  (j:A.units<Fk) (h:Q (.bool (lexLt U O)) s):Ao (Au prog w) A (Df .Lt (.ref l) (.ref b)) Q E s:=by
 obtain⟨⟨q,u,T,g⟩,M,H,n,L⟩:=id o;obtain⟨⟨I,B,data2,C⟩,G,J,c,N⟩:=id y;simp only at H L J N;subst H L J N;exact richCompare_meets_room (op:=.Lt) ⟨_,M,rfl⟩ ⟨_,G,rfl⟩ PySem.F.slot_tuple_lt PySem.F.entry_tuple_lt (PySem.F.args_tuple_lt_2 _ _) (dM l b items Y n c u B g C U O hi p)
  ⟨M,G,show Ga (lexLt U O)≠Value.notImplemented/\Q (.bool (lexLt U O)) s from⟨(λx=>nomatch x),h⟩⟩ j
theorem cat_tup {t b:Af}{vs Y:Aa Ac}(u:Qr s.heap t vs.toArray)(y:Qr s.heap b Y.toArray)(hv:vs≠[])
  (h1:Y=[]->Q (.ref t) s) (h2:Y≠[]->Q (.ref s.heap.objs.size) { s with heap:=s.heap.push { cls:=.type "tuple",data:=.seq (vs++Y).toArray } })
  (hsz:vs.length+Y.length<=sizeLine):Ao (Au prog w) A (Ei .Add (.ref t) (.ref b)) Q E s:=by
 obtain⟨⟨cls,T,data,M⟩,B,H,n,L⟩:=id u;obtain⟨⟨I,O,data2,U⟩,J,G,j,N⟩:=id y;simp only at H L G N;subst H L G N;have e:vs.toArray++Y.toArray=(vs++Y).toArray:=by simp
 by_cases C:Y=[]
 .exact Yp ⟨_,B,rfl⟩ ⟨_,J,rfl⟩ Tp Xh Nx Nd (Ms _ _)
   (tuple_addW1 t b vs.toArray Y.toArray n j T O M U (by simpa using hv) (by simp[C])) ⟨B,J,h1 C⟩
 .refine Yp ⟨_,B,rfl⟩ ⟨_,J,rfl⟩ Tp Xh Nx Nd (Ms _ _)
   (tuple_addW2 t b vs.toArray Y.toArray n j T O M U (by simpa using hv) (by simpa using C) (by rw[AT,AT];exact hsz)) ⟨B,J,?_⟩
  rw[e];exact h2 C
noncomputable def sIx (n d:Ai):Am Ak->Ai
 |none=>d
 |some v=>if v<0 then (v+(n:Ak)).toNat else min v.toNat n
theorem sIx_none (n d:Ai):sIx n d none=d:=rfl
theorem sIx_nat (n d k:Ai):sIx n d (Ab (k:Ak))=min k n:=by
 show (if (k:Ak)<0 then ((k:Ak)+(n:Ak)).toNat else min (k:Ak).toNat n)=min k n
 rw[Bg om,Fa]
theorem RZ (n d:Ai)(Y:d<=n)(o:Am Ak):sIx n d o<=n:=by
 cases o with
 |none=>exact Y
 |some v =>
  show (if v<0 then (v+(n:Ak)).toNat else min v.toNat n)<=n
  by_cases hv:v<0
  .rw[Be hv];omega
  .rw[Bg hv];exact Nat.min_le_right _ _
theorem cZ (v:Ak)(n d:Ai):(if v<0 then max (v+(n:Ak)) 0 else min v (n:Ak))=((sIx n d (Ab v):Ai):Ak):=by
 show (if v<0 then max (v+(n:Ak)) 0 else min v (n:Ak))=(((if v<0 then (v+(n:Ak)).toNat else min v.toNat n):Ai):Ak)
 by_cases hv:v<0
 .simp only[Be hv];omega
 .simp only[Bg hv];omega
theorem oD (lo hi:Am Ak)(n:Ai):Fw lo hi 1 (n:Ak)=(((sIx n 0 lo:Ai):Ak),((sIx n n hi:Ai):Ak)):=by
 have Y:¬ ((1:Ak)<0):=by omega
 unfold Fw;simp only[Y,Ec];refine Lq ?_ ?_
 .cases lo with
  |none=>rfl
  |some v=>exact cZ v n 0
 .cases hi with
  |none=>rfl
  |some v=>exact cZ v n n
theorem QD (i j:Ai):Gq (i:Ak) (j:Ak) 1=j-i:=by
 unfold Gq;have Y:(1:Ak)>0:=by omega
 simp only[Y,Eh,Int.ediv_one]
 split <;> omega
theorem tE {v:Ac}{o:Am Ak}{Q:Am Ak->Ag->Prop}(p:Rp v o)(h:Q o s):Ao (Au prog w) A (Builtin.Slice.slicePartIndex v) Q E s:=by
 cases p with
 |none=>exact Qt h
 |int i t=>exact slicePart_int h
theorem uZ {N:Af}{U G:Ac}{n:Ai}{Q:Ak × Ak × Ai->Ag->Prop}(hs:s.heap.IsSliceOf N U G .none)(pl:Rp U lo)(C:Rp G hi)
  (h:Q (((sIx n 0 lo:Ai):Ak),1,sIx n n hi-sIx n 0 lo) s):Ao (Au prog w) A (Jk (.ref N) (pure (n:Ak))) Q E s:=by
 obtain⟨os,Y,O,J⟩:=id hs;unfold Jk Sb;refine Ad (Ad (Dx Y J (x:=U) rfl (Ad (Dx Y J (x:=G) rfl (Ad (Dx Y J (x:=.none) rfl (Al ?_)))))));refine Ad (Qt ?_);show Ao _ _ (if ((1:Ak) == 0)=true then _ else _) _ _ s
 rw[Bg (by decide)]
 refine Ad (tE pl (Ad (tE C (Ad (Al ?_)))));show Ao _ _ (match Fw lo hi 1 (n:Ak) with|(lo,hi)=>pure (lo,(1:Ak),Gq lo hi 1)) _ _ s
 rw[oD lo hi n];show Ao _ _ (pure (((sIx n 0 lo:Ai):Ak),(1:Ak),Gq ((sIx n 0 lo:Ai):Ak) ((sIx n n hi:Ai):Ak) 1)) _ _ s;rw[QD];exact Al h
theorem UL (xs:Ay Ac)(i k:Ai):((Cu k).filterMap λ(m:Ai)=>xs[((i:Ak)+(m:Ak)*1).toNat]?).toArray=((xs.toList.drop i).take k).toArray:=by
 have e:(λ(m:Ai)=>xs[((i:Ak)+(m:Ak)*1).toNat]?)=λm=>xs[i+m]?:=by
  funext m
  have:((i:Ak)+(m:Ak)*1).toNat=i+m:=by omega
  rw[this]
 rw[e];have:=pick_run xs i k;rw[List.filterMap_map] at this;have Y:((λx=>xs[x]?)∘λx=>i+x)=λm=>xs[i+m]?:=rfl;rw[Y] at this;rw[this]
theorem getItem_tuple_cut {t N:Af}{B L:Ac}(J:Qr s.heap t items)(hs:s.heap.IsSliceOf N B L .none)(pl:Rp B lo)(T:Rp L hi)
  (hw:¬ (sIx items.size 0 lo=0/\sIx items.size items.size hi=items.size))
  (h:Q (.ref s.heap.objs.size) { s with heap:=s.heap.push { cls:=.type "tuple",data:=.seq ((items.toList.drop (sIx items.size 0 lo)).take (sIx items.size items.size hi-sIx items.size 0 lo)).toArray } })
  (hsz:items.size<=sizeLine):Ao (Au prog w) A (Lm (.ref t) (.ref N)) Q E s:=by
 have Y:sizeOk (.seq ((items.toList.drop (sIx items.size 0 lo)).take (sIx items.size items.size hi-sIx items.size 0 lo)).toArray):=by
  show ((items.toList.drop (sIx items.size 0 lo)).take (sIx items.size items.size hi-sIx items.size 0 lo)).toArray.size<=sizeLine;rw[AT,Ez,Hx,Bl];omega
 have M:sIx items.size items.size hi<=items.size:=RZ _ _ (Av _) hi;obtain⟨os,C,G,I⟩:=id hs;have O:s.TypeIs (.ref N) "slice":=⟨os,C,G⟩;unfold Lm
 try with_reducible refine Ed ?_
 first|refine Ad (Al ?_)|skip
 refine Ad (Sc J.typeIs (by decide) ?_)
 refine Ad (DL (name:=Hu "__getitem__") J.typeIs Dp
  (Eg Dp J.typeIs Qg ?_ (Rf _ _)))
 show Ao _ _ (Lx (.ref t) >>= _) _ _ s;refine Ad (Xi J ?_);refine Ad (Lr O ?_);rw[Be (by decide)]
 refine Ad (uZ hs pl T ?_);have U:¬ ((((sIx items.size 0 lo:Ai):Ak) == 0&&(1:Ak) == 1&&(sIx items.size items.size hi-sIx items.size 0 lo) == items.size)=true):=by
  intro q;rw[Ax,Ax] at q;have H:((sIx items.size 0 lo:Ai):Ak)=0:=eq_of_beq q.1.1;have j:sIx items.size items.size hi-sIx items.size 0 lo=items.size:=eq_of_beq q.2;exact hw ⟨by omega,by omega⟩
 show Ao _ _ (if (((sIx items.size 0 lo:Ai):Ak) == 0&&(1:Ak) == 1&&(sIx items.size items.size hi-sIx items.size 0 lo) == items.size)=true then _ else _) _ _ s
 rw[Bg U,UL]
 first
  |exact Ad (m:=Fg _) (Dm (Al ⟨_,rfl,Al h⟩) Y)
  |exact Ad (m:=Fg _) (Dm (Ad (Al (Al ⟨_,rfl,Al h⟩))) Y)
  |exact Ad (Ad (m:=Fg _) (Dm (Al (Al ⟨_,rfl,Al h⟩)) Y))
  |exact Ad (Ad (m:=Fg _) (Dm (Al ⟨_,rfl,Al h⟩) Y))
end
end _H
namespace _L
open PySem PySem.Spec PyProof.Rows
abbrev TO:=St->Hp->(Am Ak->Hp->Prop)->Prop
def PO (X:Cx)(e:Am Bt)(t:TO):Prop:=
 ∀ (Y:Aa (Af × Cq)) (s:Ag) (σ : St) (H:Hp) (Q:Am Ak->Hp->Prop),Inv X Y σ H s->t σ H Q ->
  Ao (Au X.prog X.w) X.A (evalPart e X.env) (λu U=>∃ o J,Inv X Y σ J U/\Rp u o/\Q o J) X.xe s
def MC:TO:=λ_ H Q=>Q none H
def AX (t:TE):TO:=λσ H Q=>t σ H λx Y=>∃ i,x=.int i/\Q (Ab i) Y
theorem kX {Q:Aa Ak}:∀ {us:Aa Ac},qJ (Q.map V.int) us->Ke us Q:=by
 induction Q with
 |nil=>intro us r;rw[Yq] at r;cases r;exact .nil
 |cons n Q Y =>
  intro us r;rw[Ek] at r;cases r with
  |cons U J =>
   obtain⟨t,e⟩:=U;subst e;exact .cons n t (Y J)
section
variable {X:Cx}{e:Bt}{te:TE}{lo hi:Am Bt}{tl th:TO}{pos p2:Ev}
theorem FB:PO X none MC:=by
 intro Y s σ H Q I h;rw[Xj];exact Al ⟨none,H,I,.none,h⟩
theorem FC (h:PE X e te):PO X (Ab e) (AX te):=by
 intro Y s σ H Q I G;rw[evalPart_some];refine thn (h Y s σ H _ I G) λu C ⟨x,N,J,O,U⟩=>?_;obtain⟨i,rfl,q⟩:=U;obtain⟨t,rfl⟩:=O;exact⟨Ab i,N,J,.int i t,q⟩
def SlR (X:Cx)(r:V->Am Ak->Am Ak->Hp->VK->Prop):Prop:=
 ∀ (Y:Aa (Af × Cq)) (s:Ag) (σ : St) (H:Hp) (x:V) (v J G:Ac) (lo hi:Am Ak) (U:Af) (Q:VK),Inv X Y σ H s->qK x v->s.heap.IsSliceOf U J G .none->Rp J lo->Rp G hi->r x lo hi H Q ->
  ∃ T id,typeLookup (.type T) "__getitem__" = pure (Ab (.builtin id))/\s.TypeIs v T/\Ao (Au X.prog X.w) X.A (Lm v (.ref U)) (EP X Y σ Q) X.xe s
theorem SlR.or {r O:V->Am Ak->Am Ak->Hp->VK->Prop}(h:SlR X r)(h':SlR X O):SlR X (λx lo hi H Q=>r x lo hi H Q\/O x lo hi H Q):=by
 intro Y s σ H x v U C lo hi N Q I G hs pl J q;rcases q with q|q
 .exact h Y s σ H x v U C lo hi N Q I G hs pl J q
 .exact h' Y s σ H x v U C lo hi N Q I G hs pl J q
def tSl (r:V->Am Ak->Am Ak->Hp->VK->Prop)(te:TE)(tl th:TO):TE:=λσ H Q=>te σ H λx U=>tl σ U λl Y=>th σ Y λu J=>r x l u J Q
theorem UJ {r:V->Am Ak->Am Ak->Hp->VK->Prop}(y:SlR X r)(o:PE X e te)(d:PO X lo tl)(p:PO X hi th):PE X (.Subscript e (.Slice lo hi none p2) pos) (tSl r te tl th):=by
 intro Y s σ H Q I h;refine Xk (thn (o Y s σ H _ I h) λv m ⟨x,M,c,r1,B⟩=>?_);refine wpAny_Slice (thn (d Y m σ M _ c B) λG n ⟨l,j,i,pl,f⟩=>thn (p Y n σ j _ i f) λU J ⟨u,N,L,O,E⟩=>?_);rw[Xj];refine Al ?_;have g:Inv X Y σ N { J with heap:=J.heap.push { cls:=.type "slice",data:=.fields #[G,U,.none] } }:=L.kept (t':=J.toks) λb ob q=>Ah _ q
 obtain⟨T,id,A,C,w⟩:=y Y { J with heap:=J.heap.push { cls:=.type "slice",data:=.fields #[G,U,.none] } } σ N x v G U l u J.heap.objs.size Q g r1 (Yf ..) pl O E
 show Ao (Au X.prog X.w) X.A (Sd e (.Slice lo hi none p2) v (.ref J.heap.objs.size)) (EP X Y σ Q) X.xe { J with heap:=J.heap.push { cls:=.type "slice",data:=.fields #[G,U,.none] } }
 exact tail_any (ops:=[.ref J.heap.objs.size,v]) C A w (by with_unfolding_all rfl)
noncomputable def pB (xs:Aa V)(lo hi:Am Ak):Aa V:=(xs.drop (_H.sIx xs.length 0 lo)).take (_H.sIx xs.length xs.length hi-_H.sIx xs.length 0 lo)
theorem bW (xs:Aa V)(lo hi:Am Ak):(pB xs lo hi).length<=xs.length:=by
 unfold pB;rw[Ez,Hx];omega
def qAG (K:Aj):V->Am Ak->Am Ak->Hp->VK->Prop:=λx lo hi H Q=>∃ a Y,x=.ref a/\SqT K H a Y /\
 ¬ (_H.sIx Y.length 0 lo=0/\_H.sIx Y.length Y.length hi=Y.length)/\∀ p,H p=none->Q (.ref p) (upd H p (.tup (pB Y lo hi)))
theorem E2:SlR X (qAG X.K):=by
 intro O s σ H x v E M lo hi A Q I L hs pl B h;obtain⟨a,J,rfl,C,T,q⟩:=h;cases L;obtain⟨U,r,G,N⟩:=I.tuple C;have Y:U.toArray.size=J.length:=by rw[AT];exact r.length.symm
 refine⟨"tuple",_,Dp.lookup,G.typeIs,?_⟩;refine _H.getItem_tuple_cut G hs pl B (by rw[Y];exact T) ?_ (by rw[Y];exact N)
 rw[Y];refine⟨.ref s.heap.objs.size,_,I.laid (t':=s.toks) (o:=.tup (pB J lo hi)) (λb w q=>Ah _ q) (Av _) ?_,rfl,q _ (I.hok.fresh (Av _))⟩;exact⟨Dc (bW J lo hi) N,_,(r.drop (_H.sIx J.length 0 lo)).take (_H.sIx J.length J.length hi-_H.sIx J.length 0 lo),Zf _ _⟩
end
end _L
namespace _L
open PySem PySem.Spec PyProof.Rows
variable {pins:Aa (Af × Cq)}{s:Ag}{H:Hp}{σ:St}
noncomputable def ixN (n:Ai)(i:Ak):Am Ai:=if 0<=i then (if i<n then Ab i.toNat else none) else if -(n:Ak)<=i then Ab (i+n).toNat else none
noncomputable def atI {α:Type}(xs:Aa α)(i:Ak):Am α:=(ixN xs.length i).bind λj=>xs[j]?
theorem aX {n:Ai}{i:Ak}{j:Ai}(h:ixN n i=Ab j):Zk i n=Ab j/\j<n /\ -(n:Ak)<=i/\i<n:=by
 unfold ixN at h;by_cases Y:0<=i
 .rw[Be Y] at h
  by_cases Q:i<n
  .rw[Be Q] at h
   have e:i.toNat=j:=Cy h;exact⟨by rw[v6 Y Q,e],by omega,by omega,Q⟩
  .rw[Bg Q] at h;cases h
 .rw[Bg Y] at h
  by_cases Q : -(n:Ak)<=i
  .rw[Be Q] at h
   have e:(i+n).toNat=j:=Cy h;exact⟨by rw[seqIndex_neg om Q,e],by omega,Q,by omega⟩
  .rw[Bg Q] at h;cases h
theorem cW {α:Type}{xs:Aa α}{i:Ak}{v:α}(h:atI xs i=Ab v):∃ j,Zk i xs.length=Ab j/\xs[j]? = Ab v/\j<xs.length /\ -(xs.length:Ak)<=i/\i<xs.length:=by
 unfold atI at h;cases e:ixN xs.length i with
 |none=>rw[e] at h;cases h
 |some j =>
  rw[e] at h;obtain⟨Q,U,J,Y⟩:=aX e;exact⟨j,Q,h,U,J,Y⟩
def tK (b:Bt):Prop:=∀ o i,subscripted b false o i=operate [o,i] (Lm o i)
def IxR (X:Cx)(r:R2):Prop:=
 ∀ (J Y:Bt) (pins:Aa (Af × Cq)) (s:Ag) (σ : St) (H:Hp) (x y:V) (v u:Ac) (Q:VK),Inv X pins σ H s->qK x v->qK y u->r x y H Q ->
  subscripted Y false v u=operate [v,u] (Lm v u)->Ao (Au X.prog X.w) X.A (Sd J Y v u) (EP X pins σ Q) X.xe s
def MtR (X:Cx)(id:Em)(r:V->Aa V->Hp->VK->Prop):Prop:=
 ∀ (pins:Aa (Af × Cq)) (s:Ag) (σ : St) (H:Hp) (x:V) (Y:Aa V) (v:Ac) (J:Aa Ac) (Q:VK),Inv X pins σ H s->qK x v->qJ Y J->r x Y H Q ->
  Ao (Au X.prog X.w) X.A (call (.builtin id) (v::J)) (EP X pins σ Q) X.xe s
section
variable {X:Cx}{a b:Bt}{ta tb:TE}{pos:Ev}
theorem IxR.or {r N:R2}(h:IxR X r)(h':IxR X N):IxR X (λx y H Q=>r x y H Q\/N x y H Q):=by
 intro J Y pins s σ H x y v u Q I G U q hs;rcases q with q|q
 .exact h J Y pins s σ H x y v u Q I G U q hs
 .exact h' J Y pins s σ H x y v u Q I G U q hs
theorem MtR.or {id:Em}{r U:V->Aa V->Hp->VK->Prop}(h:MtR X id r)(h':MtR X id U):MtR X id (λx xs H Q=>r x xs H Q\/U x xs H Q):=by
 intro pins s σ H x xs v J Q I Y rs q;rcases q with q|q
 .exact h pins s σ H x xs v J Q I Y rs q
 .exact h' pins s σ H x xs v J Q I Y rs q
theorem AF {r:R2}(C:IxR X r)(J:PE X a ta)(Y:PE X b tb)(hs:tK b):PE X (.Subscript a b pos) (tOp r ta tb):=by
 intro pins s σ H Q I h;exact Xk (O6 J Y I h λv u O x y N B U G q=>C a b pins O σ N x y v u Q B U G q (hs _ _))
def qAC (K:Aj):R2:=λx y H Q=>∃ p Y i v,x=.ref p/\y=.int i/\SqL K H p Y/\atI Y i=Ab v/\Q v H
def qAD (K:Aj):R2:=λx y H Q=>∃ p Y i v,x=.ref p/\y=.int i/\SqT K H p Y/\atI Y i=Ab v/\Q v H
theorem aY:IxR X (qAC X.K):=by
 intro O J pins s σ H x y v u Q I g T h hs;obtain⟨p,f,i,z,rfl,rfl,M,d,q⟩:=h;cases g;obtain⟨t,rfl⟩:=T;obtain⟨G,r,pl,e⟩:=I.list M;obtain⟨j,Y,A,m,L,c⟩:=cW d;obtain⟨w,B,N⟩:=r.get A;have o:=r.length;have n:=pM;have fin:EP X pins σ Q w s:=⟨z,H,I,N,q⟩;by_cases C:0<=i
 .have U:i.toNat=j:=by
   rw[v6 C c] at Y;exact Cy Y
  exact item_listR pl.isList C om (by rw[U];simpa using B) fin hs
 .have U:(i+(G.toArray.size:Ak)).toNat=j:=by
   rw[seqIndex_neg om L] at Y;rw[AT,<- o];exact Cy Y
  exact Uw (x:=w) pl.isList.typeIs Zl.lookup
   (wpAny_getItem_list_neg (Q:=λr E=>r=w/\EP X pins σ Q r E) pl.isList om (by rw[AT] <;> omega) om (by rw[U];simpa using B) ⟨rfl,fin⟩) hs
theorem LI:IxR X (qAD X.K):=by
 intro U Y pins s σ H x y v u Q I L G h hs;obtain⟨p,o,i,z,rfl,rfl,C,M,q⟩:=h;cases L;obtain⟨t,rfl⟩:=G;obtain⟨A,r,pl,f⟩:=I.tuple C;obtain⟨j,T,O,c,g,m⟩:=cW M;obtain⟨w,E,J⟩:=r.get O;have B:=r.length;have d:=pM;have fin:EP X pins σ Q w s:=⟨z,H,I,J,q⟩;exact Uw (x:=w) pl.typeIs slot_tuple_getitem.lookup
  (getItem_tuple (j:=j) (Q:=λr N=>r=w/\EP X pins σ Q r N) pl om om (by rw[AT,<- B];exact T) (by simpa using E) ⟨rfl,fin⟩) hs
theorem Q5 (its:Aa Ac)(n j:Ai)(u:Ac):Fc (·.setIfInBounds j u) { cls:=.type "list",data:=.seq its.toArray n } = { cls:=.type "list",data:=.seq (its.set j u).toArray n }:=by
 simp[Fc]
theorem Inv.lst {p:Af}{xs:Aa V}(I:Inv X pins σ H s)(h:H p=Ab (.lst xs)) :
  ∃ (its:Aa Ac) (n:Ai),qJ xs its/\s.heap.get? p=Ab { cls:=.type "list",data:=.seq its.toArray n } /\ xs.length<=sizeLine:=by
 obtain⟨z,its,n,r,e⟩:=I.hok p _ h;exact⟨its,n,r,e,z⟩
theorem Inv.lstUpd {p:Af}{xs Q:Aa V}{its its':Aa Ac}{n Y:Ai}{f:Cq->Cq}(I:Inv X pins σ H s)(h:H p=Ab (.lst xs))
  (G:s.heap.get? p=Ab { cls:=.type "list",data:=.seq its.toArray n }) (J:f { cls:=.type "list",data:=.seq its.toArray n } = { cls:=.type "list",data:=.seq its'.toArray Y }) (r:qJ Q its') (hz:Q.length<=sizeLine) (t:Ai) :
  Inv X pins σ (upd H p (.lst Q)) { s with heap:=s.heap.update p f,toks:=t }:=by
 have e:(s.heap.update p f).get? p=Ab { cls:=.type "list",data:=.seq its'.toArray Y }:=by
  rw[Gd f G (by rw[J] <;> rfl),J]
 refine I.write (x:=p) (e:=p) (by rw[h];trivial) (.inl rfl) (λb u U q=>(Dj _ _ (Gb U)).trans q) ⟨_,e⟩ ?_
 exact⟨hz,its',Y,r,e⟩
def AL:V->V->V->Hp->(Hp->Prop)->Prop:=λo i v H Q=>∃ p Y k j,o=.ref p/\i=.int k/\H p=Ab (.lst Y)/\ixN Y.length k=Ab j/\Q (upd H p (.lst (Y.set j v)))
theorem JB:sN X AL:=by
 intro pins s σ H o i v f m u Q I w A g h;obtain⟨p,E,k,j,rfl,rfl,O,y,q⟩:=h;cases w;obtain⟨t,rfl⟩:=A;obtain⟨Y,n,r,N,M⟩:=I.lst O;obtain⟨J,c,B,C⟩:=aX y;have G:=r.length;have d:=pM;have T:Inv X pins σ (upd H p (.lst (E.set j v))) { s with heap:=s.heap.update p (Fc (·.setIfInBounds j u)) }:=
  I.lstUpd O N (Q5 Y n j u) (r.set g j) (by rw[Ux];exact M) s.toks
 by_cases L:0<=k
 .have U:k.toNat=j:=by
   rw[v6 L C] at J;exact Cy J
  exact PySem.W.ki_setAt N L om (by rw[AT,<- G];exact C) (by rw[U];exact⟨_,T,q⟩)
 .have U:(k+(Y.toArray.size:Ak)).toNat=j:=by
   rw[seqIndex_neg om B] at J;rw[AT,<- G];exact Cy J
  exact PySem.W.ki_setBack N om (by rw[AT,<- G];exact B) om (by rw[U];exact⟨_,T,q⟩)
theorem hX (lo hi:Am Ak)(n:Ai):(Mk lo hi none n).1=((_H.sIx n 0 lo:Ai):Ak)/\(Mk lo hi none n).2.1=((_H.sIx n n hi:Ai):Ak)/\(Mk lo hi none n).2.2=1:=by
 refine⟨?_,?_,rfl⟩
 .cases lo with
  |none=>simp[Mk,_H.sIx]
  |some i =>
   simp only[Mk,_H.sIx,wE,show (1:Ak)>0 by decide,Eh]
   by_cases h:i<0
   .simp only[h,Eh] <;> omega
   .simp only[h,Ec] <;> omega
 .cases hi with
  |none=>simp[Mk,_H.sIx]
  |some i =>
   simp only[Mk,_H.sIx,wE,show (1:Ak)>0 by decide,Eh]
   by_cases h:i<0
   .simp only[h,Eh] <;> omega
   .simp only[h,Ec] <;> omega
theorem dJ (its:Aa Ac)(lo hi:Am Ak):slicePick its.toArray lo hi none=((its.drop (_H.sIx its.length 0 lo)).take (_H.sIx its.length its.length hi-_H.sIx its.length 0 lo)).toArray:=by
 obtain⟨Y,Q,J⟩:=hX lo hi its.toArray.size;unfold slicePick;rw[Y,Q,J];simp only[sliceRange_one,pick_run,AT] <;> rfl
def qAF (K:Aj):V->Am Ak->Am Ak->Hp->VK->Prop:=λx lo J H Q=>∃ a Y,x=.ref a/\SqL K H a Y/\∀ p,H p=none->Q (.ref p) (upd H p (.lst (pB Y lo J)))
theorem iR:SlR X (qAF X.K):=by
 intro pins s σ H x v T A lo U E Q I B hs pl O h;obtain⟨a,Y,rfl,N,q⟩:=h;cases B;obtain⟨L,r,G,C⟩:=I.list N;have J:=r.length;refine⟨"list",_,Zl.lookup,G.isList.typeIs,?_⟩;refine wpAny_getItem_list_slice G.isList hs pl O .none (by simp) ?_ (by rw[AT] <;> omega)
 rw[dJ,<- J];refine⟨.ref s.heap.objs.size,_,I.laid (t':=s.toks) (o:=.lst (pB Y lo U)) (λb M q=>Ah _ q) (Av _) ?_,rfl,q _ (I.hok.fresh (Av _))⟩;exact⟨Dc (bW Y lo U) C,_,0,(r.drop (_H.sIx Y.length 0 lo)).take (_H.sIx Y.length Y.length U-_H.sIx Y.length 0 lo),Bc _ rfl⟩
theorem j8.or {f:Ac}{r J:Aa V->Hp->VK->Prop}(h:j8 X f r)(h':j8 X f J):j8 X f (λxs H Q=>r xs H Q\/J xs H Q):=by
 intro pins s σ H xs Y Q I rs q;rcases q with q|q
 .exact h pins s σ H xs Y Q I rs q
 .exact h' pins s σ H xs Y Q I rs q
theorem p7:j8 X (.type "list") (λxs H Q=>∃ p U,xs=[.ref p]/\(SqL X.K H p U\/SqT X.K H p U)/\∀ l,H l=none->Q (.ref l) (upd H l (.lst U))):=by
 intro pins s σ H xs w Q I r h;obtain⟨p,U,rfl,hq,q⟩:=h;obtain⟨u,rfl,M⟩:=jM r;cases M;have fin:∀ (Y:Aa Ac),qJ U Y->U.length<=sizeLine->∀ (J:Bo) (G:Ai),(∀ b A,s.heap.get? b=Ab A->J.get? b=Ab A) ->
   J.get? s.heap.objs.size=Ab { cls:=.type "list",dict:=none,data:=.seq Y.toArray G,slots:=#[] } -> EP X pins σ Q (.ref s.heap.objs.size) { s with heap:=J }:=λY N O J G C e =>
  ⟨.ref s.heap.objs.size,_,I.laid (t':=s.toks) C (Av _) (show zC X.prog X.w _ J _ (.lst U) from⟨O,Y,G,N,e⟩),rfl,q _ (I.hok.fresh (Av _))⟩
 rcases hq with hq|hq
 .obtain⟨Y,N,pl,O⟩:=I.list hq
  have B:=N.length;obtain⟨o,E,T,n,L⟩:=pl.isList;exact call_list_seq p (.inl rfl) E T L (λJ G C e=>fin Y N O J G C e) (by simp only[AT] <;> omega)
 .obtain⟨Y,N,pl,O⟩:=I.tuple hq
  have B:=N.length;obtain⟨o,E,T,n,L⟩:=pl;exact call_list_seq p (.inr rfl) E T L (λJ G C e=>fin Y N O J G C e) (by simp only[AT] <;> omega)
theorem gV:j8 X (.type "tuple") (λxs H Q=>∃ p J,xs=[.ref p]/\((SqL X.K H p J/\∀ l,H l=none->Q (.ref l) (upd H l (.tup J)))\/(SqT X.K H p J/\Q (.ref p) H))):=by
 intro pins s σ H xs A Q I r h;obtain⟨p,J,rfl,h⟩:=h;obtain⟨u,rfl,L⟩:=jM r;cases L;rcases h with⟨G,q⟩|⟨G,q⟩
 .obtain⟨Y,N,pl,C⟩:=I.list G
  have B:=N.length;refine call_tuple_list pl.isList (λU T=>?_) (by simp only[AT] <;> omega)
  have O:Inv X pins σ H { s with heap:=U }:=I.kept (t':=s.toks) T
  have E:Inv X pins σ (upd H U.objs.size (.tup J)) { s with heap:=U.push { cls:=.type "tuple",data:=.seq Y.toArray } }:=
   O.laid (t':=s.toks) (λb o e=>Ah _ e) (Av _) (show zC X.prog X.w _ _ _ (.tup J) from⟨C,Y,N,Zf _ _⟩)
  exact⟨.ref U.objs.size,_,E,rfl,q _ (O.hok.fresh (Av _))⟩
 .obtain⟨Y,N,pl,C⟩:=I.tuple G
  exact call_tuple_same pl ⟨.ref p,H,I,rfl,q⟩
def tyV (K:Aj)(T:Em)(x:V)(H:Hp):Prop:=match x with
 |.str _=>T = "str"
 |.int _=>T = "int"
 |.ref p=>(T = "list" /\ ∃ Y,SqL K H p Y)\/(T = "tuple" /\ ∃ o,K.lookup p=Ab o/\o.cls=.type "tuple" /\ o.dict=none) \/
   (T = "dict" /\ ((∃ Q,H p=Ab (.dK Q))\/∃ Q,H p=Ab (.dT Q)))\/(T = "set" /\ ∃ S n,H p=Ab (.set S n))
 |_=>Fn
theorem Y1 {T:Em}{x:V}{v:Ac}(I:Inv X pins σ H s)(r:qK x v)(ty:tyV X.K T x H) :
  s.TypeIs v T/\∀ a,v=.ref a->∃ N,s.heap.get? a=Ab N/\N.dict=none:=by
 cases x with
 |str z =>
  obtain⟨t,rfl⟩:=r;cases (show T = "str" from ty)
  exact⟨typeIs_str s z t,λ_ e=>nomatch e⟩
 |int i =>
  obtain⟨t,rfl⟩:=r;cases (show T = "int" from ty)
  exact⟨typeIs_int s i t,λ_ e=>nomatch e⟩
 |ref p =>
  cases r;rcases ty with⟨rfl,L,C⟩|⟨rfl,o,Q,B,J⟩|⟨rfl,Q⟩|⟨rfl,S,n,Q⟩
  .obtain⟨O,_,pl,_⟩:=I.list C
   refine⟨pl.isList.typeIs,λa e=>?_⟩;cases e;obtain⟨o,n,e,c,J,_⟩:=pl;exact⟨o,e,J⟩
  .refine⟨⟨o,I.kIn p o Q,B⟩,λa e=>?_⟩
   cases e;exact⟨o,I.kIn _ o Q,J⟩
  .have z:∃ o,s.heap.get? p=Ab o/\o.ExactDict:=by
    rcases Q with⟨U,Q⟩|⟨U,Q⟩
    .obtain⟨_,_,_,_,o,_,_,e,Y,_⟩:=I.hok p _ Q
     exact⟨o,e,Y⟩
    .obtain⟨_,_,_,_,o,_,_,e,Y,_⟩:=I.hok p _ Q
     exact⟨o,e,Y⟩
   obtain⟨o,e,Y⟩:=z;refine⟨⟨o,e,Y.1⟩,λa G=>?_⟩;cases G;exact⟨o,e,Y.2.1⟩
  .obtain⟨o,_,_,_,e,Y,_⟩:=I.hok p _ Q
   refine⟨⟨o,e,Y.1⟩,λa G=>?_⟩;cases G;exact⟨o,e,Y.2.1⟩
 |_=>exact An ty
variable {o e:Bt}{es:Aa Bt}{to:TE}{t:TA}{name:Ar}{apos cpos:Ev}{T id:Em}{r:V->Aa V->Hp->VK->Prop}
/- xs.append(e),list.index on a module's tuple .. are MtR facts of 06m -/
end
end _L
namespace _L
open PySem PySem.Spec PyProof.Rows
variable {us:Aa Ac}
def MtM (X:Cx)(id:Em)(r:V->Aa V->Hp->VK->Prop):Prop:=
 ∀ (Y:Aa (Af × Cq)) (s:Ag) (σ : St) (H:Hp) (x:V) (J:Aa V) (v:Ac) (us:Aa Ac) (Q:VK),Inv X Y σ H s->qK x v->qJ J us->r x J H Q ->
  Ao (Au X.prog X.w) X.A (call (.builtin id) (v::us)) (EP X Y σ Q) X.xe s
theorem qJ.one {x:V}(h:qJ [x] us):∃ u,us=[u]/\qK x u:=jM h
theorem qJ.two {x y:V}(h:qJ [x,y] us):∃ u v,us=[u,v]/\qK x u/\qK y v:=sL h
theorem qJ.eraseIdx:∀ {xs:Aa V} {us:Aa Ac} (i:Ai),qJ xs us->qJ (xs.eraseIdx i) (us.eraseIdx i)
 |_,_,_,.nil=>.nil
 |_,_,0,.cons _ t=>t
 |_,_,i+1,.cons r t=>.cons r (qJ.eraseIdx i t)
theorem qJ.rep {xs:Aa V}(h:qJ xs us):∀ k:Ai,qJ (Dg k xs).flatten (Dg k us).flatten
 |0=>.nil
 |k+1=>by
  rw[Gr,Gr,Im,Im];exact qJ.append h (qJ.rep h k)
theorem lT {α:Type}:∀ (l:Aa α) (i:Ai),(l.eraseIdx i).length<=l.length
 |[],_=>Av _
 |_::_,0=>Oo _
 |_::r,i+1=>Nat.succ_le_succ (lT r i)
theorem lN (its:Aa Ac):∀ (k:Ai) (acc:Aa Ac),
  AaH (λJ Y=>J++Y) acc.toArray (Dg k its.toArray)=(acc++(Dg k its).flatten).toArray
 |0,acc=>by simp
 |k+1,acc=>by
  have e:acc.toArray++its.toArray=(acc++its).toArray:=by simp
  have Q:(acc++its)++(Dg k its).flatten=acc++(Dg (k+1) its).flatten:=by
   rw[Gr,Im,Cs]
  rw[<- Q,<- lN its k (acc++its),<- e,Gr,Ks]
section
variable {X:Cx}{pins:Aa (Af × Cq)}{σ : St}{H:Hp}{s:Ag}{l b:Af}{xs ys zs:Aa V}
theorem Inv.lset {its its':Aa Ac}{n:Ai}{f:Ay Ac->Ay Ac}{t':Ai}(I:Inv X pins σ H s)(Y:H l=Ab (.lst xs))
  (e:s.heap.get? l=Ab { cls:=.type "list",data:=.seq its.toArray n }) (U:f its.toArray=its'.toArray) (hv:qJ ys its') (hz:ys.length<=sizeLine) :
  Inv X pins σ (upd H l (.lst ys)) { s with heap:=s.heap.update l (Fc f),toks:=t' }:=by
 have q:=wP e f;rw[U] at q;refine I.write (x:=l) (e:=l) (by rw[Y];exact trivial) (.inl rfl) (λG u J Q=>(Dj s.heap (Fc f) (Gb J)).trans Q) ⟨_,q⟩ ?_
 exact⟨hz,its',_,hv,q⟩
theorem Inv.lstM (I:Inv X pins σ H s)(Q:H l=Ab (.lst xs)):xs.length<=sizeLine/\∃ (its:Aa Ac) (n:Ai),qJ xs its/\xs.length=its.length/\s.heap.get? l=Ab { cls:=.type "list",data:=.seq its.toArray n }:=by
 obtain⟨z,its,n,r,e⟩:=I.hok l _ Q;exact⟨z,its,n,r,r.length,e⟩
theorem UC {n:Ai}(h:n<=sizeLine):Mt n=false:=by
 unfold Mt;exact Ds om
end
section
variable {X:Cx}
def FT:V->Aa V->Hp->VK->Prop:=λx J H Q=>∃ l Y y,x=.ref l/\J=[y]/\H l=Ab (.lst Y)/\Y.length<sizeLine/\Q .non (upd H l (.lst (Y++[y])))
theorem XT:MtM X "list.append" FT:=by
 intro U s σ H x C v us Q I G N h;obtain⟨l,B,y,rfl,rfl,J,L,q⟩:=h;cases G;obtain⟨u,rfl,O⟩:=N.one;obtain⟨z,Y,n,r,T,e⟩:=I.lstM J;refine Ny Yg ⟨_,e,rfl⟩ Xl (Wu _ _) (Zm l Y.toArray n u (by rw[AT];omega)) ⟨e,?_⟩
 refine⟨.non,_,I.lset (its':=Y++[u]) J e (by simp) (r.append (.cons O .nil)) ?_,rfl,q⟩
 rw[Cf,Vs];omega
def RX:V->Aa V->Hp->VK->Prop:=λx J H Q=>∃ l Y i k y,x=.ref l/\J=[.int i]/\H l=Ab (.lst Y) /\ -(2 ^ 63)<=i/\i<2 ^ 63/\Zk i Y.length=Ab k/\Y[k]? = Ab y/\Q y (upd H l (.lst (Y.eraseIdx k)))
theorem U9:MtM X "list.pop" RX:=by
 intro G s σ H x o v us Q I T M h;obtain⟨l,N,i,k,y,rfl,rfl,U,A,C,O,B,q⟩:=h;cases T;obtain⟨u,rfl,j⟩:=M.one;obtain⟨t,rfl⟩:=j;obtain⟨z,Y,n,r,L,e⟩:=I.lstM U;obtain⟨w,E,J⟩:=r.get B;refine Ny F.slot_list_pop ⟨_,e,rfl⟩ F.entry_list_pop (F.args_list_pop_2 _ _)
  (MeetsSeq.list_pop_at l Y.toArray n i t k w (fitsIndex_both A C) (by rw[AT,<- L];exact O) (by rw[<- Bk];exact E) (by rw[AT];omega)) ⟨e,?_⟩
 refine⟨y,_,I.lset (its':=Y.eraseIdx k) U e ?_ (r.eraseIdx k) ?_,J,q⟩
 .show Y.toArray.eraseIdxIfInBounds k=(Y.eraseIdx k).toArray
  rw[List.eraseIdxIfInBounds_toArray]
 .have:=lT N k
  omega
theorem BM {α:Type}(xs:Aa α)(k:Ai):(Dg k xs).flatten.length=k*xs.length:=by
 induction k with
 |zero=>simp
 |succ k Q=>rw[Gr,Im,Cf,Q,Yr,Ub]
end
end _L
namespace _L
open PySem PySem.Spec PyProof.Rows
variable {xs:Aa (Aa Key × Af × Ac)}{Q:Ac->Ag->Prop}{H':Hp}
section
variable {κ : Type}[dL κ]
noncomputable def yC (kvs:Aa (κ × V))(k:κ):Am V:=(kvs.find? λY=>decide (Y.1=k)).map (·.2)
noncomputable def yM (kvs:Aa (κ × V))(k:κ)(v:V):Aa (κ × V):=
 if (kvs.any λY=>decide (Y.1=k))=true then kvs.map (λY=>if Y.1=k then (Y.1,v) else Y) else kvs++[(k,v)]
theorem m9 {p:κ × V}{r:Aa (κ × V)}{k:κ}(e:p.1=k):yC (p::r) k=Ab p.2:=by simp[yC,Kt,e]
theorem m8 {p:κ × V}{r:Aa (κ × V)}{k:κ}(e:¬ p.1=k):yC (p::r) k=yC r k:=by simp[yC,Kt,e]
theorem cC (k:κ):∀ kvs:Aa (κ × V),(kvs.any λY=>decide (Y.1=k))=(yC kvs k).isSome
 |[]=>rfl
 |p::r=>by
  rw[Ku];by_cases e:p.1=k
  .simp only[m9 e,Dl e,Bool.true_or,Yh]
  .rw[m8 e,Ds e,AaU];exact cC k r
theorem jQ (kvs:Aa (κ × V))(k:κ)(v:V):(yM kvs k v).length<=kvs.length+1:=by
 unfold yM
 split
 .rw[Aq];omega
 .rw[Cf,Ca,Fh];omega
theorem vC.isSome_eq {o:Am V}{u:Am Ac}(r:vC o u):o.isSome=u.isSome:=by
 cases o with
 |none=>cases u with
  |none=>rfl
  |some _=>exact(show Fn from r).elim
 |some _=>cases u with
  |none=>exact(show Fn from r).elim
  |some _=>rfl
theorem vC.getD {o:Am V}{u:Am Ac}{d:V}{d':Ac}(r:vC o u)(Y:qK d d'):qK (o.getD d) (u.getD d'):=by
 cases o with
 |none=>cases u with
  |none=>exact Y
  |some _=>exact(show Fn from r).elim
 |some _=>cases u with
  |none=>exact(show Fn from r).elim
  |some _=>exact r
theorem KV.val {kvs:Aa (κ × V)}{vs:Aa (κ × Ac)}(r:KV kvs vs)(k:κ):vC (yC kvs k) (Uy vs k):=by
 unfold KV at r
 induction r with
 |nil=>exact Hg
 |@cons p q O J h t G =>
  obtain⟨U,N⟩:=h;by_cases e:p.1=k
  .have Y:q.1=k:=U.symm.trans e
   have b:Uy (q::J) k=Ab q.2:=by simp[Uy,Kt,Y]
   rw[m9 e,b];exact N
  .have Y:¬ q.1=k:=λz=>e (U.trans z)
   have b:Uy (q::J) k=Uy J k:=by simp[Uy,Kt,Y]
   rw[m8 e,b];exact G
theorem KV.any {kvs:Aa (κ × V)}{vs:Aa (κ × Ac)}(r:KV kvs vs)(k:κ):(kvs.any λY=>decide (Y.1=k))=vs.any λY=>decide (Y.1=k):=by
 unfold KV at r
 induction r with
 |nil=>rfl
 |cons h t J=>rw[Ku,Ku,J,h.1]
theorem KV.repl {kvs:Aa (κ × V)}{vs:Aa (κ × Ac)}(r:KV kvs vs)(k:κ){y:V}{u:Ac}(G:qK y u) :
  KV (kvs.map λY=>if Y.1=k then (Y.1,y) else Y) (vs.map λY=>if Y.1=k then (Y.1,u) else Y):=by
 unfold KV at r ⊢
 induction r with
 |nil=>exact .nil
 |@cons p q O C h t U =>
  rw[Ek,Ek];refine .cons ?_ U;obtain⟨J,N⟩:=h;by_cases e:p.1=k
  .rw[Be e,Be (J.symm.trans e)];exact⟨J,G⟩
  .rw[Bg e,Bg (λz=>e (J.trans z))];exact⟨J,N⟩
theorem KV.put {kvs:Aa (κ × V)}{vs:Aa (κ × Ac)}(r:KV kvs vs)(k:κ){y:V}{u:Ac}(Y:qK y u):KV (yM kvs k y) (stored vs k u):=by
 unfold yM stored;rw[r.any k];by_cases e:(vs.any λJ=>decide (J.1=k))=true
 .rw[Be e,Be e];exact r.repl k Y
 .rw[Bg e,Bg e];exact Paired.snoc r ⟨rfl,Y⟩
theorem KV.length {kvs:Aa (κ × V)}{vs:Aa (κ × Ac)}(r:KV kvs vs):kvs.length=vs.length:=Paired.length r
end
theorem g9 {P:Bf}{w:Bx}{k:Key}{u:Ac}(r:qK (kV k) u):(zO P w).is k u=true:=by
 cases k with
 |inl i=>obtain⟨t,e⟩:=(show ∃ t,u=Pk i t from r);subst e;exact cM P w i t
 |inr x=>obtain⟨t,e⟩:=(show ∃ t,u=Vp x t from r);subst e;exact cN P w x t
theorem lS {P:Bf}{w:Bx}:∀ {ks:Aa Key} {us:Aa Ac},qJ (ks.map kV) us->ItemsAre (zO P w) ks us
 |[],_,r=>by rw[Yq] at r;cases r;exact .nil
 |k::ks,_,r=>by
  rw[Ek] at r;cases r with
  |cons h t=>exact .cons (g9 h) (lS t)
abbrev KT (H:Hp):Aa (Aa Key × V)->Aa (Aa Key × Af × Ac)->Prop:=Paired λp q=>p.1=q.1/\H q.2.1=Ab (.tup (p.1.map kV))/\qK p.2 q.2.2
theorem KT.val {H:Hp}{kvs:Aa (Aa Key × V)}(r:KT H kvs xs)(k:Aa Key):vC (yC kvs k) ((Xm xs k).map (·.2)):=by
 induction r with
 |nil=>exact Hg
 |@cons p q O J h t G =>
  obtain⟨U,_,N⟩:=h;by_cases e:p.1=k
  .have Y:q.1=k:=U.symm.trans e
   have b:Xm (q::J) k=Ab q.2:=by simp[Xm,Kt,Y]
   rw[m9 e,b];exact N
  .have Y:¬ q.1=k:=λz=>e (U.trans z)
   have b:Xm (q::J) k=Xm J k:=by simp[Xm,Kt,Y]
   rw[m8 e,b];exact G
theorem KT.repl {H:Hp}{kvs:Aa (Aa Key × V)}(r:KT H kvs xs)(k:Aa Key){y:V}{u:Ac}(O:qK y u) :
  KT H (kvs.map λJ=>if J.1=k then (J.1,y) else J) (xs.map (putAt k u)):=by
 induction r with
 |nil=>exact .nil
 |@cons p q C B h t G =>
  rw[Ek,Ek];refine .cons ?_ G;obtain⟨Y,U,N⟩:=h;unfold putAt;by_cases e:p.1=k
  .rw[Be e,Be (Y.symm.trans e)];exact⟨Y,U,O⟩
  .rw[Bg e,Bg (λz=>e (Y.trans z))];exact⟨Y,U,N⟩
theorem KT.put {H:Hp}{kvs:Aa (Aa Key × V)}(r:KT H kvs xs)(k:Aa Key){b:Af}{y:V}{u:Ac}(U:H b=Ab (.tup (k.map kV)))(Y:qK y u) :
  KT H (yM kvs k y) (storedH xs k b u):=by
 have e:(kvs.any λJ=>decide (J.1=k))=(Xm xs k).isSome:=by
  rw[cC,(r.val k).isSome_eq,Se]
 unfold yM storedH;rw[e];by_cases q:(Xm xs k).isSome=true
 .rw[Be q,Be q];exact r.repl k Y
 .rw[Bg q,Bg q];exact Paired.snoc r ⟨rfl,U,Y⟩
theorem KT.keeps {H:Hp}{kvs:Aa (Aa Key × V)}(r:KT H kvs xs)(J:∀ b Y,H b=Ab (.tup Y)->H' b=Ab (.tup Y)):KT H' kvs xs:=
 Paired.mapP r λ_ _ z=>⟨z.1,J _ _ z.2.1,z.2.2⟩
section
variable {P:Bf}{w:Bx}{H:Hp}{h:Bo}{a:Af}
theorem KS {u:HO}(ok:HOk P w H h)(e:Rd H a u):zC P w H h a u:=e.ok ok
theorem mH {kvs:Aa (Key × V)}(ok:HOk P w H h)(e:Rd H a (.dK kvs)):kvs.length<=sizeLine/\(a == Kc)=false/\∃ vs,KV kvs vs/\h.DictOf (zO P w) a vs:=
 show zC P w H h a (.dK kvs) from KS ok e
theorem oP {kvs:Aa (Key × V)}(ok:HOk P w H h)(e:H a=Ab (.dK kvs)):kvs.length<=sizeLine/\(a == Kc)=false/\∃ vs,KV kvs vs/\h.DictOf (zO P w) a vs:=mH ok (.inl e)
theorem mT {ks:Aa Key}(ok:HOk P w H h)(e:H a=Ab (.tup (ks.map kV))):(Vq (zO P w)).is h ks a:=by
 obtain⟨_,Y,r,o,U,J,n,G⟩:=(show zC P w H h a (.tup (ks.map kV)) from ok a _ e)
 exact⟨o,Y.toArray,n,U,J,G,by simpa using lS r⟩
theorem dS {kvs:Aa (Aa Key × V)}(ok:HOk P w H h)(e:Rd H a (.dT kvs)):kvs.length<=sizeLine/\(a == Kc)=false /\
  ∃ xs,KT H kvs xs/\h.DictOfH (Vq (zO P w)) a xs:=by
 obtain⟨z,y,xs,r,o,U,C,B,O,N,G,L⟩:=(show zC P w H h a (.dT kvs) from KS ok e)
 refine⟨z,y,xs,r,o,U,C,B,O,N,G,λx hx=>?_,L⟩;have all:∀ {l:Aa (Aa Key × V)} {m:Aa (Aa Key × Af × Ac)},KT H l m->∀ x∈m,(Vq (zO P w)).is h x.1 x.2.1:=by
  intro l m q
  induction q with
  |nil=>intro x hx;exact nomatch hx
  |@cons p q E T Y t J =>
   intro x hx;rcases Az.mp hx with e|hx
   .subst e
    exact mT ok (by rw[<- Y.1];exact Y.2.1)
   .exact J x hx
 exact all r x hx
theorem HM {kvs:Aa (Aa Key × V)}(ok:HOk P w H h)(e:H a=Ab (.dT kvs)):kvs.length<=sizeLine/\(a == Kc)=false /\
  ∃ xs,KT H kvs xs/\h.DictOfH (Vq (zO P w)) a xs:=dS ok (.inl e)
end
def kK (H:Hp)(a:Af)(y:V)(r:Am V):Prop:=
 (∃ Y k,Rd H a (.dK Y)/\y=kV k/\r=yC Y k)\/∃ Y k b,Rd H a (.dT Y)/\y=.ref b/\H b=Ab (.tup (k.map kV))/\r=yC Y k
def tJ (H:Hp)(a:Af)(y v:V)(H':Hp):Prop:=
 (∃ Y k,H a=Ab (.dK Y)/\y=kV k/\Y.length<sizeLine/\H'=upd H a (.dK (yM Y k v))) \/
 ∃ Y k b,H a=Ab (.dT Y)/\y=.ref b/\H b=Ab (.tup (k.map kV))/\Y.length<sizeLine/\H'=upd H a (.dT (yM Y k v))
theorem kK.k {H:Hp}{a:Af}{kvs:Aa (Key × V)}{k:Key}(e:H a=Ab (.dK kvs)):kK H a (kV k) (yC kvs k):=.inl ⟨kvs,k,.inl e,rfl,rfl⟩
theorem kK.t {H:Hp}{a b:Af}{kvs:Aa (Aa Key × V)}{k:Aa Key}(e:H a=Ab (.dT kvs))(eb:H b=Ab (.tup (k.map kV))):kK H a (.ref b) (yC kvs k):=.inr ⟨kvs,k,b,.inl e,rfl,eb,rfl⟩
theorem tJ.k {H:Hp}{a:Af}{kvs:Aa (Key × V)}{k:Key}{v:V}(e:H a=Ab (.dK kvs))(Y:kvs.length<sizeLine):tJ H a (kV k) v (upd H a (.dK (yM kvs k v))):=.inl ⟨kvs,k,e,rfl,Y,rfl⟩
theorem tJ.t {H:Hp}{a b:Af}{kvs:Aa (Aa Key × V)}{k:Aa Key}{v:V}(e:H a=Ab (.dT kvs))(eb:H b=Ab (.tup (k.map kV)))(Y:kvs.length<sizeLine) :
  tJ H a (.ref b) v (upd H a (.dT (yM kvs k v))):=.inr ⟨kvs,k,b,e,rfl,eb,Y,rfl⟩
section
variable {X:Cx}{pins:Aa (Af × Cq)}{σ : St}{H:Hp}{s:Ag}{a:Af}{y v:V}{u r:Ac}{o:Am V}{A:Br}{E:Ac->Ag->Prop}
theorem Inv.big (I:Inv X pins σ H s):Kc<s.heap.objs.size:=by
 have h:Ct<s.heap.objs.size:=(I.mod.glob.keeps I.bk).lt;exact Iq (by decide) h
theorem ZR (T:A.units+1<Fk)(I:Inv X pins σ H s)(g:kK H a y (Ab v))(L:qK y u)(h:∀ U s',Inv X pins σ H s'->qK v U->Q U s') :
  Ao (Au X.prog X.w) A (Lm (.ref a) u) Q E s:=by
 rcases g with⟨B,k,e,G,l⟩|⟨B,k,b,e,G,eb,l⟩
 .subst G
  obtain⟨z,j,M,Y,C⟩:=mH I.hok e;obtain⟨U,N,J⟩:=vC.some_of (v:=v) (o:=Uy M k) (by rw[l];exact Y.val k)
  exact wpAny_getItem_of (g9 L) C.mapOf N (h U _ (I.tok _) J)
 .subst G
  cases (show u=Cg b from L)
  obtain⟨z,j,xs,Y,C⟩:=dS I.hok e;obtain⟨U,N,J⟩:=vC.some_of (v:=v) (o:=(Xm xs k).map (·.2)) (by rw[l];exact Y.val k)
  obtain⟨p,w,O⟩:=De.mp N;refine wpAny_getItem_heap (Rg T) (mT I.hok eb) C w ?_;rw[O];exact h U _ (I.tok _) J
theorem OF (C:A.units+1<Fk)(I:Inv X pins σ H s)(g:kK H a y o)(O:qK y u)(h:∀ s',Inv X pins σ H s'->Q (.bool o.isSome) s') :
  Ao (Au X.prog X.w) A (Df .In u (.ref a)) Q E s:=by
 rcases g with⟨N,k,e,J,l⟩|⟨N,k,b,e,J,eb,l⟩
 .subst J
  obtain⟨z,U,B,Y,G⟩:=mH I.hok e;refine wpAny_in_of (g9 O) U G.mapOf ?_;rw[<- (Y.val k).isSome_eq,<- l];exact h _ (I.tok _)
 .subst J
  cases (show u=Cg b from O)
  obtain⟨z,U,xs,Y,G⟩:=dS I.hok e;refine wpAny_in_heap (Rg C) (mT I.hok eb) U G ?_;have q:=(Y.val k).isSome_eq;rw[Se] at q;rw[<- q,<- l];exact h _ (I.tok _)
theorem tR {h':Bo}{t':Ai}{Y:HO}(I:Inv X pins σ H s)(U:Mut (H a))(hs:Ew a s.heap h')(G:∃ q,h'.get? a=Ab q)(new:zC X.prog X.w (upd H a Y) h' a Y) :
  Inv X pins σ (upd H a Y) { s with heap:=h',toks:=t' }:=
 I.write (x:=a) (e:=a) U (.inl rfl) (λb q J z=>(hs.2 b J).trans z) G new
theorem ZU {P:Bf}{w:Bx}{h':Bo}{kvs:Aa (Key × V)}{vs:Aa (Key × Ac)}(z:kvs.length<=sizeLine)(J:(a == Kc)=false)(Y:KV kvs vs)(dd:h'.DictOf (zO P w) a vs) :
  zC P w H' h' a (.dK kvs):=⟨z,J,vs,Y,dd⟩
theorem ZS {Q:Qf->Ag->Prop}(m:A.units+1<Fk)(I:Inv X pins σ H s)(g:tJ H a y v H')(j:qK y u)(M:qK v r)(h:∀ s',Inv X pins σ H' s'->Q () s') :
  Ao (Au X.prog X.w) A (setItem (.ref a) u r) Q E s:=by
 rcases g with⟨J,k,e,N,l,O⟩|⟨J,k,b,e,N,eb,l,O⟩
 .subst N O
  obtain⟨z,L,n,Y,C⟩:=oP I.hok e;have B:n.length<=sizeLine:=by rw[<- Y.length];exact z
  have T:(yM J k v).length<=sizeLine:=by have:=jQ J k v;omega
  refine wpAny_setItem_pairs (hsz:=B) (g9 j) C λp U hs=>h _ ?_;have f:∃ q,p.get? a=Ab q:=let ⟨q,_,_,G,_⟩:=U;⟨q,G⟩
  exact tR I (by rw[e];exact Hg) hs f (ZU T L (Y.put k M) U)
 .subst N O
  cases (show u=Cg b from j)
  obtain⟨z,L,xs,Y,C⟩:=HM I.hok e;have B:xs.length<=sizeLine:=by rw[<- Paired.length Y];exact z
  have T:(yM J k v).length<=sizeLine:=by have:=jQ J k v;omega
  refine wpAny_setItem_heap (hsz:=B) (Rg m) (mT I.hok eb) C λp U hs=>h _ ?_;obtain⟨q,i,ep,G,d,h3,x,_,h5⟩:=U;refine tR I (by rw[e];exact Hg) hs ⟨q,G⟩ ⟨T,L,_,(Y.put k eb M).keeps λc ys w=>?_,q,i,ep,G,d,h3,x,h5⟩
  rw[qG (CL w e (λz=>nomatch z))];exact w
end
section
variable {X:Cx}{pins:Aa (Af × Cq)}{σ : St}{H:Hp}{s:Ag}{a:Af}{kvs:Aa (Key × V)}{k:Key}{u:Ac}{A:Br}{E:Ac->Ag->Prop}
theorem HC (I:Inv X pins σ H s)(e:Rd H a (.dK kvs))(h:∀ t s',Inv X pins σ H s'->Q (.int kvs.length t) s'):Ao (Au X.prog X.w) A (call (.builtin "len") [.ref a]) Q E s:=by
 obtain⟨z,U,G,Y,J⟩:=mH I.hok e;refine call_len_dict U J (by rw[<- Y.length];rw[Fb] at z;omega) ?_
 rw[<- Y.length];exact h _ _ (I.tok _)
end
def YF (i:Bt):Prop:=∀ Y J,subscripted i false Y J=operate [Y,J] (Lm Y J)
theorem MB {prog:Bf}{w:Bx}{A:Br}{E:Ac->Ag->Prop}{s:Ag}{env:Il}{J Y:Bt}{L:Ev}{T id:Em}
  (H:typeLookup (.type T) "__getitem__" = pure (Ab (.builtin id))) (hs:YF Y)
  (h:Ao (Au prog w) A (eval J env) (λo O=>Ao (Au prog w) A (eval Y env) (λi U=>U.TypeIs o T/\Ao (Au prog w) A (Lm o i) Q E U) E O) E s) :
  Ao (Au prog w) A (eval (.Subscript J Y L) env) Q E s:=by
 refine Xk (Gm h (λo O B=>Gm B (λi U G=>?_) λ_ _ x=>x) λ_ _ x=>x);obtain⟨I,G⟩:=G;unfold Sd;refine Ad ?_;rw[getitemInPython_of_ne I.not_modules];refine Ad (Uz I H ?_);have fin:Ao (Au prog w) A (subscripted Y false o i) (λr N=>Ao (Au prog w) A (letTemporaryGo J o r >>= λ_=>pure r) Q E N) E U:=by
  rw[hs o i];exact wpAny_operating (Gm G (λr N C=>Ad (wpAny_letTemporaryGo (Al C))) λ_ _ x=>x)
 first
  |exact Al (Ad fin)
  |exact Ad (Al (Ad fin))
  |exact Ad fin
theorem cK {X:Cx}{pins:Aa (Af × Cq)}{σ:St}{H:Hp}{s:Ag}{a:Af}{y:V}{o:Am V}(I:Inv X pins σ H s)(g:kK H a y o):s.TypeIs (.ref a) "dict":=by
 rcases g with⟨J,k,e,_,_⟩|⟨J,k,b,e,_,_,_⟩
 .obtain⟨_,_,U,_,Y⟩:=mH I.hok e
  exact Y.typeIs
 .obtain⟨_,_,xs,_,Y⟩:=dS I.hok e
  exact Y.typeIs
theorem V0 {P:Bf}{w:Bx}{H:Hp}(h:Bo)(Y:Kc<h.objs.size):zC P w H (h.push { cls:=.type "dict",data:=.dict #[] }) h.objs.size (.dK []):=
 ⟨Hk _,Iw.mpr (Gb (Cp Y)),[],.nil,Heap.DictOf.new h⟩
def E8:TE:=λ_ H Q=>∀ p,H p=none->Q (.ref p) (upd H p (.dK []))
section
variable {X:Cx}{pos:Ev}
theorem eJ:PE X (.Dict [] [] pos) E8:=λY s σ H Q I h =>
 wpAny_Dict_empty ⟨.ref s.heap.objs.size,_,I.laid (a:=s.heap.objs.size) (o:=.dK []) (t':=s.toks) (λ_ _ q=>Ah _ q) (Av _) (V0 s.heap I.big),rfl,h _ (I.hok.fresh (Av _))⟩
end
end _L
namespace _A
open PySem PySem.W PySem.Calls PyProof.Rows
theorem mO {P:Params}{h:Bo}:∀ (Q:Aa Ak) (vs:Aa Ac),WellAll P h vs (Q.map WData.int)->Ke vs Q:=by
 intro Q
 induction Q with
 |nil =>
  intro vs w;rw[Yq] at w;cases w;exact .nil
 |cons n Q Y =>
  intro vs w;rw[Ek] at w;cases w with
  |cons a b =>
   cases a;exact .cons _ _ (Y _ b)
theorem WX {l:OpenLaw}{n:Ai}(I:l.most=Ab n){P:Params}{h:Bo}{args:Aa WData}{J:Aa Ac}
  (Y:l.row.toRowW.claim.pre args=true) (B:WellAll P h J args) :
  ∃ a vs Q,J=[Cg a]/\args=[WData.list (Q.map WData.int)]/\h.get? a=Ab { cls:=.type "list",data:=.seq vs.toArray } /\ Ke vs Q/\Q.length<=n:=by
 have C:WShape.hasAll [] args [.list .int]=true:=(pre_splitW Y).1;have L:l.pre.holds [] { args:=args } = true:=(pre_splitW Y).2;obtain⟨d,r,rfl,H,E⟩:=hasAllW_cons C;obtain rfl:=hasAllW_nil E;obtain⟨y,rfl,T⟩:=hasW_list H;obtain⟨Q,rfl⟩:=items_int T;have G:Q.length<=n:=by
  unfold OpenLaw.pre at L;have N:(WTm.not (.lt (.lit (.int (n:Ak))) (.len (.arg 0)))).holds [] { args:=[.list (Q.map .int)] } = true:=by
   have N:=(holds_andW L).1;rw[I] at N;exact N
  have O:=condW_of N (w_not (w_lt w_lit (w_len_list (w_arg rfl))));rw[Aq] at O;refine Tq λq=>?_;have j:(n:Ak)<((Q.length:Ai):Ak):=by omega
  first
   |(rw[Dl j] at O;exact absurd O (by decide))
   |(simp at O;omega)
 cases B with
 |cons w M =>
  cases M;cases w with
  |list A U=>exact⟨_,_,Q,rfl,rfl,A,mO Q _ U,G⟩
theorem W7 (l:OpenLaw)(args:Aa WData):l.row.toRowW.claim.post args (.bool true) args=true:=
 postW_of (r:=l.row.toRowW) (X:=(true == true))
  (show WShape.has [] (.bool true) .bool=true by first|rfl|decide|simp[WShape.has,WShape.arms,WShape.armsAll])
  (show (WTm.eq .res (.lit (.bool true))).value [] { args:=args,res:=Ab (.bool true),after:=args } = Ab (.bool (true == true)) from w_eq_bool (w_res rfl) w_lit) rfl
theorem attach_call {l:OpenLaw}{n:Ai}{q:Bf}{U:Aa Ar}{u:(Ar->Am Ac)->Bo->Prop}{g:Bx->Bo->Prop}{d:DefRec}
  (hn:l.most=Ab n) (I:d.params.defaults=[])
  (call:∀ (w:Bx) (J Q:Ag) (mg M:Ar->Am Ac) (C:Af) (o:Cq) (A cd N:Ac) (a:Af) (vs:Aa Ac) (E:Aa Ak),
   Ground q U [] u w J mg M Q.heap->g w Q.heap ->
   Q.heap.get? C=Ab o->o.data=.func (docDef d.name d.params d.body d.scope A cd N)->Q.heap.CodeRec cd d.name->mg d.name=Ab (.ref C) ->
   Q.heap.get? a=Ab { cls:=.type "list",data:=.seq vs.toArray } -> Ke vs E->E.length<=n->Q.gens=#[] ->
   Ih (Au l.prog w) Sf (.call (.ref C) ⟨[.ref a],[]⟩) (λr s'=>r=.ok (.ret (.bool true))/\OldK Q.heap s'.heap/\s'.os=Q.os/\Of s'.gens) Q) :
  WalkO q U u g l.row.toRowW d [] (λf vs=>AaI f vs):=by
 intro w J Q mg M G Y C o A cd N dV kV ho i H c y hg m p as L v za j zb;obtain rfl:dV=.none:=Dflts.none c I;obtain rfl:kV=.none:=Dflts.noKw c;obtain⟨a,vs,E,rfl,rfl,B,O,T⟩:=WX hn L j;refine enter_call (Kj (call w J Q mg M C o A cd N a vs E G Y ho (fd_plain i) H y B O T hg) λr s' hq=>?_);obtain⟨rfl,h,s,e⟩:=hq;exact⟨.inl ⟨.bool true,.bool true,[],rfl,λ_=>rfl,.bool true,W7 l _,λ_=>⟨Np,λ_ x=>(nomatch x)⟩⟩,h,s,e⟩
end _A
namespace _L
open PySem PySem.Spec PyProof.Rows
theorem Y5 {vs:Aa Ac}{Q:Aa Ak}(h:Ke vs Q):qJ (Q.map V.int) vs:=by
 induction h with
 |nil=>exact .nil
 |cons n t h Y=>exact .cons ⟨t,rfl⟩ Y
def SqX (K:Aj)(H:Hp)(a:Af)(xs:Aa V):Prop:=
 Rd H a (.lst xs)\/∃ (Q:Aa Ac) (n:Ai),K.lookup a=Ab { cls:=.type "list",data:=.seq Q.toArray n } /\ xs.length<=sizeLine/\qJ xs Q
theorem SqX.l {K:Aj}{H:Hp}{a:Af}{xs:Aa V}(h:SqX K H a xs):SqL K H a xs:=by
 rcases h with h|⟨Q,n,e,l,v⟩
 .exact .inl h
 .exact .inr ⟨_,Q.toArray,n,e,rfl,rfl,rfl,by rw[AT,<- v.length];exact l,by simpa using v⟩
end _L
namespace _L
open PySem PySem.Spec PyProof.Rows
variable {ps:Aa Ar}{f:Af}{x qual:Ar}{H:Hp}
noncomputable def wX (s:EQ):Po:=match s with
 |.FunctionDef _ a _ _ _ _ _ _ _ _=>a
 |_=>{ posonlyargs:=[],args:=[],vararg:=none,kwonlyargs:=[],kw_defaults:=[],kwarg:=none,defaults:=[] }
noncomputable def zL (s:EQ):Aa EQ:=match s with
 |.FunctionDef _ _ b _ _ _ _ _ _ _=>b
 |_=>[]
noncomputable def qH (s:EQ):El:=match s with
 |.FunctionDef _ _ _ _ _ _ Q _ _ _=>Q
 |_=>{ kind:=.function,names:=[],isGenerator:=false,isCoroutine:=false }
abbrev CX0:CXT:=λ_ _ _ _ _ _=>Fn
structure Fun (K:Aj)(x qual:Ar)(st:EQ)(f:Af)(fd:Fu):Prop where
 ex:∃ (oc:Ac) (od:Am Af) (kV doc pm:Ac) (an:Am Af) (cdv ct:Ac) (osl:Ay (Am Ac)),
  fd=Gw x qual (wX st) (zL st) (qH st) .none kV doc pm an cdv ct/\K.lookup f=Ab ⟨oc,od,.func fd,osl⟩/\Ll K cdv qual=true
 kp:Fi K (.ref f)=true
section
variable {P:Bf}{w:Bx}{K:Aj}{mg:Ar->Am Ac}{base:Bo}
theorem Fun.ok {st:EQ}{fd:Fu}{N:Aa Ar}{k:Ai}{sp:Sp}(F:Fun K x qual st f fd)(S:FnScope N ps (qH st))(O:∀ vs H Q E,sp vs H Q E->vs.length=ps.length)
  (U:∀ (J:Ac) (A:Br) (Y:Aa Il) (s:Ag) (H:Hp) (vs:Aa V) (Q:VK) (E:XK),Room k (A.deeper (Go qual (qH st) s.heap.objs.size f J))->sp vs H Q E ->
   ∃ t,PSs (tO CX0 P w K mg base N qual (qH st) f J A Y s H E).nox (zL st) t/\t { nx:=λ_ I=>Q .non I,rt:=Q } (xU N vs) H):FnOk P w K mg base CX0 (k+1) f fd ps sp:=by
 obtain⟨p,j,kV,B,o,y,J,u,L,rfl,M,G⟩:=F.ex;refine HR M G S O λA Y s H vs Q E T C=>?_;obtain⟨t,h,q⟩:=U J A Y s H vs Q E T C;exact⟨t,h.nox,q⟩
theorem Fun.binds {st:EQ}{fd:Fu}(F:Fun K x qual st f fd)
  (h:∀ (kV Q J:Ac) (U:Am Af) (Y G:Ac) (us:Aa Ac),us.length=ps.length->Rx (Gw x qual (wX st) (zL st) (qH st) .none kV Q J U Y G) ⟨us,[]⟩=pure (ps.zip us)):vN K fd ps []:=by
 obtain⟨L,C,kV,Q,J,U,Y,G,O,rfl,B,N⟩:=F.ex;exact .all (h kV Q J U Y G)
theorem L7 {st:EQ}{C:Ac}{O N:Am Af}{J:Ay (Am Ac)}{kV Y G Q U:Ac}(l:K.lookup f=Ab ⟨C,O,.func (Gw x qual (wX st) (zL st) (qH st) .none kV Y G N Q U),J⟩)
  (c:Ll K Q qual=true) (k:Fi K (.ref f)=true):Fun K x qual st f (Gw x qual (wX st) (zL st) (qH st) .none kV Y G N Q U):=⟨⟨C,O,kV,Y,G,N,Q,U,J,rfl,l,c⟩,k⟩
end
def qE (H Q:Hp):Prop:=∀ b o,H b=Ab o->Q b=Ab o
theorem qE.refl (H:Hp):qE H H:=λ_ _ h=>h
theorem qE.trans {Y Q:Hp}(a:qE H Y)(b:qE Y Q):qE H Q:=λc o h=>b c o (a c o h)
theorem qE.free {Q:Hp}(e:qE H Q){l:Af}(h:Q l=Ab9):H l=Ab9:=by
 cases q:H l with
 |none=>rfl
 |some o =>
  rw[e l o q] at h;cases h
theorem qE.seq {K:Aj}{Q:Hp}{a:Af}{xs:Aa V}(e:qE H Q)(h:SqL K H a xs):SqL K Q a xs:=by
 rcases h with (h|⟨o,h⟩)|h
 .exact .inl (.inl (e _ _ h))
 .exact .inl (.inr ⟨o,e _ _ h⟩)
 .exact .inr h
end _L
end
section
namespace _D
open PySem PySem.Spec PyProof.Rows _L
inductive D where
 |non|bl (b:As)|int (i:Ak)|str (x:Ar)|ty (n:Em)|obj (a:Af)|tup (xs:Aa D)|lst (xs:Aa D)|dct0|loc (i:Ai)|exn (c:Ac)|fd (ks:Aa Key) (ds:Aa D)|clo (a:Af) (vs:Aa V) (ds:Aa D)
noncomputable def rL (a:Af)(c:Ac):HO:=.ext λh=>∃ Q,h.get? a=Ab Q/\Q.cls=c
inductive MO where
 |dead|lst (xs:Aa D)|dct (kvs:Aa (Key × D))|ins (C:Af) (fs:Aa (Ar × D))
abbrev Sto:=Aa MO
inductive Res (β : Type) where
 |ok (d:β) (S:Sto)|ex (c:Ac) (x:D) (S:Sto)|bad
@[inline] def Res.bind {β γ:Type}(r:Res β)(f:β->Sto->Res γ) : Res γ:=
 match r with
 |.ok d S=>f d S
 |.ex c x S=>.ex c x S
 |.bad=>.bad
theorem Res.bind_ok {β γ:Type}(d:β)(S:Sto)(f:β->Sto->Res γ) : (Res.ok d S).bind f=f d S:=rfl
section
variable (K:Aj)(P:Hp)(α : Aa Af)
mutual
def Rep:D->V->Prop
 |.non,v=>v=.non
 |.bl b,v=>v=.bl b
 |.int i,v=>v=.int i
 |.str x,v=>v=.str x
 |.ty n,v=>v=.ty n
 |.obj a,v=>v=.ref a/\Fi K (.ref a)=true
 |.tup Y,v=>∃ a Q,v=.ref a/\SqT K P a Q/\qD Y Q
 |.lst Y,v=>∃ a Q,v=.ref a/\SqX K P a Q/\qD Y Q
 |.dct0,v=>∃ a,v=.ref a/\P a=Ab (.dK [])
 |.loc i,v=>∃ a,v=.ref a/\α[i]? = Ab a
 |.exn c,v=>∃ a,v=.ref a/\P a=Ab (rL a c)
 |.fd J Y,v=>∃ a o Q,v=.ref a/\P a=Ab (.frz o (.dK (J.zip Q)))/\J.length=Q.length/\qD Y Q
 |.clo a Q Y,v=>v=.ref a/\qD Y Q
def qD:Aa D->Aa V->Prop
 |[],Q=>Q=[]
 |d::J,Q=>∃ w Y,Q=w::Y/\Rep d w/\qD J Y
end
end
section
variable {K:Aj}{P P':Hp}{α α':Aa Af}
theorem yN (e:qE P P'){a:Af}{xs:Aa V}(h:SqT K P a xs):SqT K P' a xs:=by
 rcases h with (h|⟨o,h⟩)|h
 .exact .inl (.inl (e _ _ h))
 .exact .inl (.inr ⟨o,e _ _ h⟩)
 .exact .inr h
theorem iK (e:qE P P'){a:Af}{u:HO}(h:Rd P a u):Rd P' a u:=by
 rcases h with h|⟨o,h⟩
 .exact .inl (e _ _ h)
 .exact .inr ⟨o,e _ _ h⟩
theorem xD (e:qE P P'){a:Af}{xs:Aa V}(h:SqX K P a xs):SqX K P' a xs:=by
 rcases h with h|h
 .exact .inl (iK e h)
 .exact .inr h
theorem bL {i:Ai}{a:Af}(h:α<+:α')(e:α[i]? = Ab a):α'[i]? = Ab a:=by
 obtain⟨r,rfl⟩:=h;rw[Bi (Aw.mp e).1];exact e
mutual
theorem Rep.mono (e:qE P P')(h:α<+:α'):∀ (d:D) (v:V),Rep K P α d v->Rep K P' α' d v
 |.non,_,r=>by simpa only [Rep] using r
 |.bl _,_,r=>by simpa only [Rep] using r
 |.int _,_,r=>by simpa only [Rep] using r
 |.str _,_,r=>by simpa only [Rep] using r
 |.ty _,_,r=>by simpa only [Rep] using r
 |.obj _,_,r=>by simpa only [Rep] using r
 |.tup Y,v,r=>by
  simp only[Rep] at r ⊢;obtain⟨a,Q,rfl,q,t⟩:=r;exact⟨a,Q,rfl,yN e q,qD.mono e h Y Q t⟩
 |.lst Y,v,r=>by
  simp only[Rep] at r ⊢;obtain⟨a,Q,rfl,q,t⟩:=r;exact⟨a,Q,rfl,xD e q,qD.mono e h Y Q t⟩
 |.dct0,v,r=>by
  simp only[Rep] at r ⊢;obtain⟨a,rfl,q⟩:=r;exact⟨a,rfl,e _ _ q⟩
 |.loc i,v,r=>by
  simp only[Rep] at r ⊢;obtain⟨a,rfl,q⟩:=r;exact⟨a,rfl,bL h q⟩
 |.exn c,v,r=>by
  simp only[Rep] at r ⊢;obtain⟨a,rfl,q⟩:=r;exact⟨a,rfl,e _ _ q⟩
 |.fd U Y,v,r=>by
  simp only[Rep] at r ⊢;obtain⟨a,o,Q,rfl,q,J,t⟩:=r;exact⟨a,o,Q,rfl,e _ _ q,J,qD.mono e h Y Q t⟩
 |.clo a Q Y,v,r=>by
  simp only[Rep] at r ⊢;exact⟨r.1,qD.mono e h Y Q r.2⟩
theorem qD.mono (e:qE P P')(h:α<+:α'):∀ (Q:Aa D) (vs:Aa V),qD K P α Q vs->qD K P' α' Q vs
 |[],vs,r=>by simpa only [qD] using r
 |d::Q,vs,r=>by
  simp only[qD] at r ⊢;obtain⟨w,Y,rfl,U,J⟩:=r;exact⟨w,Y,rfl,Rep.mono e h d w U,qD.mono e h Q Y J⟩
end
theorem qD.nil:qD K P α [] []:=by simp only[qD]
theorem qD.cons {d:D}{v:V}{Q:Aa D}{vs:Aa V}(r:Rep K P α d v)(t:qD K P α Q vs):qD K P α (d::Q) (v::vs):=by
 simp only[qD];exact⟨v,vs,rfl,r,t⟩
theorem qD.nil_inv {vs:Aa V}(r:qD K P α [] vs):vs=[]:=by simpa only [qD] using r
theorem qD.cons_inv {d:D}{Q:Aa D}{vs:Aa V}(r:qD K P α (d::Q) vs):∃ w Y,vs=w::Y/\Rep K P α d w/\qD K P α Q Y:=by simpa only [qD] using r
theorem qD.length:∀ {Q:Aa D} {vs:Aa V},qD K P α Q vs->Q.length=vs.length
 |[],vs,r=>by rw[r.nil_inv];rfl
 |d::Q,vs,r=>by
  obtain⟨w,Y,rfl,_,t⟩:=r.cons_inv;rw[Ca,Ca,t.length]
theorem qD.append:∀ {Y es:Aa D} {vs Q:Aa V},qD K P α Y vs->qD K P α es Q->qD K P α (Y++es) (vs++Q)
 |[],es,vs,Q,r,t=>by rw[r.nil_inv];exact t
 |d::Y,es,vs,Q,r,t=>by
  obtain⟨w,G,rfl,U,J⟩:=r.cons_inv;exact .cons U (J.append t)
theorem qD.get:∀ {Q:Aa D} {vs:Aa V} {i:Ai} {d:D},qD K P α Q vs->Q[i]? = Ab d->∃ v,vs[i]? = Ab v/\Rep K P α d v
 |[],_,_,_,_,e=>by simp at e
 |d::Q,vs,i,J,r,e=>by
  obtain⟨w,O,rfl,N,Y⟩:=r.cons_inv;cases i with
  |zero=>simp at e;subst e;exact⟨w,rfl,N⟩
  |succ i =>
   obtain⟨v,G,U⟩:=Y.get (i:=i) (d:=J) (by simpa using e)
   exact⟨v,by simpa using G,U⟩
theorem qD.drop:∀ {Q:Aa D} {vs:Aa V} (n:Ai),qD K P α Q vs->qD K P α (Q.drop n) (vs.drop n)
 |Q,vs,0,r=>by simpa using r
 |[],vs,n+1,r=>by rw[r.nil_inv];exact .nil
 |d::Q,vs,n+1,r=>by
  obtain⟨w,J,rfl,_,Y⟩:=r.cons_inv;simpa using Y.drop n
theorem qD.take:∀ {Q:Aa D} {vs:Aa V} (n:Ai),qD K P α Q vs->qD K P α (Q.take n) (vs.take n)
 |Q,vs,0,r=>by simpa using qD.nil
 |[],vs,n+1,r=>by rw[r.nil_inv];exact .nil
 |d::Q,vs,n+1,r=>by
  obtain⟨w,U,rfl,J,Y⟩:=r.cons_inv;simpa using qD.cons J (Y.take n)
theorem qD.set {d:D}{v:V}(q:Rep K P α d v):∀ {Q:Aa D} {vs:Aa V} (n:Ai),qD K P α Q vs->qD K P α (Q.set n d) (vs.set n v)
 |[],vs,n,r=>by rw[r.nil_inv];exact .nil
 |e::Q,vs,0,r=>by
  obtain⟨w,U,rfl,J,Y⟩:=r.cons_inv;exact .cons q Y
 |e::Q,vs,n+1,r=>by
  obtain⟨w,U,rfl,J,Y⟩:=r.cons_inv;exact .cons J (Y.set q n)
end
abbrev qF:=Aa (Am D)
def qY (K:Aj)(P:Hp)(α : Aa Af)(σ : _L.St)(env:qF):Prop:=env.length=σ.length/\∀ (i:Ai) (d:D),env[i]? = Ab (Ab d)->∃ v,σ[i]? = Ab (Ab v)/\Rep K P α d v
def KVs (K:Aj)(P:Hp)(α : Aa Af){κ : Type}:Aa (κ × D)->Aa (κ × V)->Prop:=Paired λ(p:κ × D) (q:κ × V)=>p.1=q.1/\Rep K P α p.2 q.2
def MOk (K:Aj)(H P:Hp)(α : Aa Af)(a:Af):MO->Prop
 |.dead=>Oe
 |.lst U=>∃ Q,H a=Ab (.lst Q)/\qD K P α U Q
 |.dct Y=>∃ Q,H a=Ab (.dK Q)/\KVs K P α Y Q
 |.ins C fs=>∃ J Q,H a=Ab (.ins C J Q)/\KVs K P α fs Q
inductive TbAt (x:Ar)(H P:Hp)(α : Aa Af)(T:Af):Prop
 |mk (ps:Ay Ac) (e:H T=Ab (.tbl ps)) (pn:P T=none) (an:T ∉ α) (ok:Mb ps.toList) (cd:∀ pos cv,Pp pos ps.toList=Ab cv->∃ c oc vs t,cv=.ref c/\H c=Ab (.frz oc (.frz oc (.own 0)))/\oc.data=.fields vs/\vs[1]? = Ab (.str (x ++ ".<locals>." ++ "<lambda>") t)):TbAt x H P α T
def o9 (K:Aj)(H P:Hp)(α : Aa Af):Prop:=∀ x∈w9,∀ c T,Dt K x=Ab (c,T)->TbAt x H P α T
def LG (u:HO):Prop:=(∃ Q,u=.tbl Q)\/∃ o,u=.frz o (.frz o (.own 0))
theorem o9.keep {K:Aj}{H G P J:Hp}{α Q:Aa Af}(r:o9 K H P α)(e:∀ b u,H b=Ab u->LG u->G b=Ab u)(hp:∀ b u,H b=Ab u->LG u->P b=none->b ∉ α->J b=none/\b ∉ Q):o9 K G J Q:=λx O c T h =>
 let ⟨L,U,B,E,ok,A⟩:=r x O c T h
 let z:=hp _ _ U (.inl ⟨_,rfl⟩) B E
 ⟨L,e _ _ U (.inl ⟨_,rfl⟩),z.1,z.2,ok,λY C q=>let ⟨c,I,N,t,a,b,d⟩:=A Y C q;⟨c,I,N,t,a,e _ _ b (.inr ⟨_,rfl⟩),d⟩⟩
structure Rel (K:Aj)(H P:Hp)(α : Aa Af)(S:Sto):Prop where
 tb:o9 K H P α
 sub:qE P H
 len:α.length=S.length
 nd:α.Nodup
 sep:∀ (i:Ai) (a:Af) (o:MO),α[i]? = Ab a->S[i]? = Ab o->o≠.dead->P a=none
 at':∀ (i:Ai) (a:Af) (o:MO),α[i]? = Ab a->S[i]? = Ab o->MOk K H P α a o
 own:∀ (i:Ai) (a:Af),α[i]? = Ab a->H a≠none
section
variable {K:Aj}{H P P':Hp}{α α':Aa Af}{S:Sto}
theorem qY.mono {σ : _L.St}{env:qF}(e:qE P P')(h:α<+:α')(r:qY K P α σ env):qY K P' α' σ env:=
 ⟨r.1,λi d q=>let ⟨v,Q,Y⟩:=r.2 i d q;⟨v,Q,Rep.mono e h d v Y⟩⟩
theorem KVs.mono {κ : Type}(e:qE P P')(h:α<+:α'){kvs:Aa (κ × D)}{vs:Aa (κ × V)}(r:KVs K P α kvs vs):KVs K P' α' kvs vs:=by
 refine Paired.mapP r λp q z=>⟨z.1,Rep.mono e h _ _ z.2⟩
theorem MOk.mono {a:Af}(e:qE P P')(h:α<+:α'):∀ {o:MO},MOk K H P α a o->MOk K H P' α' a o
 |.dead,_=>trivial
 |.lst _,⟨Q,q,r⟩=>⟨Q,q,qD.mono e h _ _ r⟩
 |.dct _,⟨Q,q,r⟩=>⟨Q,q,r.mono e h⟩
 |.ins _ _,⟨Y,Q,q,r⟩=>⟨Y,Q,q,r.mono e h⟩
theorem Rel.grow {Y:Hp}(r:Rel K H P α S)(e:qE H Y):Rel K Y P α S where
 tb:=r.tb.keep (λb u q _=>e _ _ q) λ_ _ _ _ p n=>⟨p,n⟩
 sub:=r.sub.trans e
 len:=r.len
 nd:=r.nd
 sep:=r.sep
 at':=λi a o J G=>by
  have m:=r.at' i a o J G;cases o with
  |dead=>trivial
  |lst O=>obtain⟨Q,q,t⟩:=m;exact⟨Q,e _ _ q,t⟩
  |dct U=>obtain⟨Q,q,t⟩:=m;exact⟨Q,e _ _ q,t⟩
  |ins C fs=>obtain⟨N,Q,q,t⟩:=m;exact⟨N,Q,e _ _ q,t⟩
 own:=λi a q=>by
  have m:=r.own i a q;cases z:H a with
  |none=>exact absurd z m
  |some o=>rw[e _ _ z];intro w;cases w
theorem gL {H:Hp}{a:Af}{o:HO}(h:H a=none):qE H (upd H a o):=λb u e=>by rw[qG (qT e h)];exact e
theorem Rel.pure {a:Af}{o:HO}(r:Rel K H P α S)(h:H a=none):Rel K (upd H a o) (upd P a o) α S/\qE P (upd P a o):=by
 have N:P a=none:=by
  cases z:P a with
  |none=>rfl
  |some u=>rw[r.sub _ _ z] at h;cases h
 have U:qE P (upd P a o):=gL N;have G:=r.grow (gL (o:=o) h);refine⟨⟨r.tb.keep (λb u q _=>(qG (qT q h)).trans q) λb u q _ p n=>⟨(qG (qT q h)).trans p,n⟩,λb u e=>?_,r.len,r.nd,λi b u Y J O=>?_,λi b u Y J=>(G.at' i b u Y J).mono U (Bh _),G.own⟩,U⟩
 .by_cases Q:b=a
  .subst Q;rw[qQ] at e ⊢;exact e
  .rw[qG Q] at e ⊢;exact r.sub _ _ e
 .have Q:b≠a:=by rintro rfl;exact r.own i b Y h
  rw[qG Q];exact r.sep i b u Y J O
theorem Rel.new {a:Af}{o:HO}{m:MO}(r:Rel K H P α S)(h:H a=none)(hm:MOk K (upd H a o) P (α ++ [a]) a m):Rel K (upd H a o) P (α ++ [a]) (S++[m]):=by
 have L:P a=none:=by
  cases z:P a with
  |none=>rfl
  |some u=>rw[r.sub _ _ z] at h;cases h
 have U:=r.grow (gL (o:=o) h);have B:α<+:α++[a]:=Fq _ _;have split:∀ (i:Ai) (b:Af),(α++[a])[i]? = Ab b->(i<α.length/\α[i]? = Ab b)\/(i=α.length/\b=a):=λi b q=>by
  by_cases Q:i<α.length
  .rw[Bi Q] at q;exact .inl ⟨Q,q⟩
  .rw[Cw om] at q
   cases G:i-α.length with
   |zero=>rw[G] at q;simp at q;exact .inr ⟨by omega,q.symm⟩
   |succ k=>rw[G] at q;simp at q
 refine⟨r.tb.keep (λb u q _=>(qG (qT q h)).trans q) λb u q _ p n=>⟨p,λz=>(By.mp z).elim n λw=>qT q h (by simpa using w)⟩,U.sub,by simp[r.len],?_,λi b u J Y O=>?_,λi b u J Y=>?_,λi b q=>?_⟩
 .rw[Ho]
  refine⟨r.nd,by simp,λb C c N e=>?_⟩
  simp at N;subst N;subst e;obtain⟨i,Q,e⟩:=Cz.mp C;exact r.own i b (by rw[Ap Q,e]) h
 .rcases split i b J with⟨Q,z⟩|⟨Q,rfl⟩
  .rw[Bi (by rw[<- r.len];exact Q)] at Y
   exact r.sep i b u z Y O
  .exact L
 .rcases split i b J with⟨Q,z⟩|⟨Q,rfl⟩
  .rw[Bi (by rw[<- r.len];exact Q)] at Y
   exact(U.at' i b u z Y).mono (qE.refl _) B
  .rw[Q,r.len,Cw (Av _)] at Y
   simp at Y;subst Y;exact hm
 .rcases split i b q with⟨_,z⟩|⟨_,rfl⟩
  .exact U.own i b z
  .rw[qQ];intro z;cases z
theorem lY {N:Aa Af}(J:N.Nodup){i j:Ai}{x:Af}(a:N[i]? = Ab x)(b:N[j]? = Ab x):i=j:=by
 obtain⟨U,Q⟩:=Aw.mp a;obtain⟨G,Y⟩:=Aw.mp b;exact(Og J).mp (Q.trans Y.symm)
theorem Rel.put {a:Af}{i:Ai}{o:HO}{m m':MO}(r:Rel K H P α S)(N:α[i]? = Ab a)(hs:S[i]? = Ab m)(L:m≠.dead)(hm:MOk K (upd H a o) P α a m'):Rel K (upd H a o) P α (S.set i m'):=by
 have T:=r.sep i a m N hs L;have I:i<S.length:=(Aw.mp hs).1;refine⟨r.tb.keep (λb u q O=>?_) λ_ _ _ _ p n=>⟨p,n⟩,λb u e=>?_,by simp[r.len],r.nd,λj b u J U A=>?_,λj b u J U=>?_,λj b q=>?_⟩
 .refine(qG ?_).trans q
  rintro rfl;have z:=r.at' i _ m N hs;cases m with
  |dead=>exact L rfl
  |lst M=>obtain⟨Q,z,_⟩:=z;rw[q] at z;rcases O with⟨_,rfl⟩|⟨_,rfl⟩ <;> cases z
  |dct B=>obtain⟨Q,z,_⟩:=z;rw[q] at z;rcases O with⟨_,rfl⟩|⟨_,rfl⟩ <;> cases z
  |ins C fs=>obtain⟨E,Q,z,_⟩:=z;rw[q] at z;rcases O with⟨_,rfl⟩|⟨_,rfl⟩ <;> cases z
 .have Y:b≠a:=by rintro rfl;rw[T] at e;cases e
  rw[qG Y];exact r.sub _ _ e
 .by_cases G:j=i
  .subst G;rw[N] at J;cases J;exact T
  .rw[Ce (Gb G)] at U;exact r.sep j b u J U A
 .by_cases G:j=i
  .subst G;rw[N] at J;cases J
   rw[Dd I] at U;cases U;exact hm
  .rw[Ce (Gb G)] at U
   have Y:b≠a:=by rintro rfl;exact G (lY r.nd J N)
   have z:=r.at' j b u J U;cases u with
   |dead=>trivial
   |lst M=>obtain⟨Q,q,t⟩:=z;exact⟨Q,by rw[qG Y];exact q,t⟩
   |dct B=>obtain⟨Q,q,t⟩:=z;exact⟨Q,by rw[qG Y];exact q,t⟩
   |ins C fs=>obtain⟨E,Q,q,t⟩:=z;exact⟨E,Q,by rw[qG Y];exact q,t⟩
 .by_cases Y:b=a
  .subst Y;rw[qQ];intro z;cases z
  .rw[qG Y];exact r.own j b q
end
theorem nn {β : Type}{a:β}{p:Prop}(h:(none:Am β) = Ab a):p:=by cases h
theorem kY {β : Type}{c:Prop}[Jr c]{a b:β}(h:(if c then Ab a else none)=Ab b):c/\a=b:=by
 by_cases z:c
 .rw[Be z] at h;exact⟨z,Cy h⟩
 .rw[Bg z] at h;exact nn h
end _D
end
namespace _D
open PySem PySem.Spec PyProof.Rows _L
variable {more:Aa (Af × Cq)}{us args cs:Aa Ac}{body:Aa EQ}{vs:Aa V}{u vv:Ac}{p C:Af}{od:Am Af}{sl:Ay (Am Ac)}{np:Ev}{R:It->Hp->Prop}{M:Ky}{sp:Sp}{S S1:Sto}{Q:VK}
abbrev DE:=qF->Sto->Res D
abbrev DT:=qF->Sto->Res As
abbrev DA:=qF->Sto->Res (Aa D)
inductive Out where
 |nx (env:qF) (S:Sto)|rt (d:D) (S:Sto)|bk (env:qF) (S:Sto)|ct (env:qF) (S:Sto)|ex (c:Ac) (x:D) (env:qF) (S:Sto)|bad
abbrev DS:=qF->Sto->Out
def Old (X:Cx)(pins:Aa (Af × Cq))(H:Hp)(b:Af):Prop:=
 (∃ o,X.s₀.heap.get? b=Ab o)\/H b≠none\/(∃ p∈X.pn++pins,p.1=b)\/∃ x,X.env.cells.lookup x=Ab b
def Cv (X:Cx)(pins:Aa (Af × Cq))(H:Hp)(B h:Bo):Prop:=∀ b o,h.get? b=Ab o->Old X pins H b->b ∉ frs X.stack->B.get? b=Ab o
inductive FlyX (X:Cx)(pins:Aa (Af × Cq))(H:Hp)(c:Ac)(e:Af)(h:Bo):Prop where
 |new (g:Bo) (args:Aa Ac):Wj g h e c args->g.FunFrames X.base X.stack->(∀ b o,h.get? b=Ab o->Old X pins H b->g.get? b=Ab o)->FlyX X pins H c e h
 |fly (B:Bo) (a0:Ac):Qb B X.stack e c a0 h->Cv X pins H B h->FlyX X pins H c e h
inductive XOk (X:Cx)(P:Hp)(α : Aa Af)(c:Ac)(x:D)(S:Sto)(u:Ac)(s:Ag):Prop
 |mk (e:Af) (pins:Aa (Af × Cq)) (σ : _L.St) (H:Hp) (P':Hp) (α' : Aa Af) (e1:u=.ref e) (I:Inv X pins σ H s) (r:Rel X.K H P' α' S) (q1:qE P P') (q2:α<+:α') (q3:X.ex=[]/\X.stack=X.env::X.outer/\X.env.frame=Ab X.env.locals) (q4:FlyX X pins H c e s.heap):XOk X P α c x S u s
theorem XOk.base {X:Cx}{P P1:Hp}{α Y:Aa Af}{c:Ac}{x:D}{s:Ag}(e:qE P P1)(h:α<+:Y)(k:XOk X P1 Y c x S u s):XOk X P α c x S u s:=by
 obtain⟨a,J,σ,H,G,U,N,I,r,O,T,B,L⟩:=k;exact⟨a,J,σ,H,G,U,N,I,r,e.trans O,h.trans T,B,L⟩
section
variable (X:Cx)
def qI {β:Type}(P:Hp)(α : Aa Af)(r:Res β)(Ok:β->Sto->Prop):Prop:=
 match r with
 |.ok d Y=>Ok d Y
 |.ex c x Y=>∀ u J,XOk X P α c x Y u J->X.xe u J
 |.bad=>Fn
def OkV (P:Hp)(α : Aa Af)(Q:VK)(d:D)(G:Sto):Prop:=∀ v U J Y,Rel X.K U J Y G->qE P J->α<+:Y->Rep X.K J Y d v->Q v U
def OkT (P:Hp)(α : Aa Af)(Q:As->Hp->Prop)(b:As)(G:Sto):Prop:=∀ U J Y,Rel X.K U J Y G->qE P J->α<+:Y->Q b U
def OkA (P:Hp)(α : Aa Af)(Q:Aa V->Hp->Prop)(N:Aa D)(G:Sto):Prop:=∀ vs U J Y,Rel X.K U J Y G->qE P J->α<+:Y->qD X.K J Y N vs->Q vs U
abbrev qS (P:Hp)(α : Aa Af)(r:Res D)(Q:VK):Prop:=qI X P α r (OkV X P α Q)
abbrev yD (P:Hp)(α : Aa Af)(r:Res As)(Q:As->Hp->Prop):Prop:=qI X P α r (OkT X P α Q)
abbrev gZ (P:Hp)(α : Aa Af)(r:Res (Aa D))(Q:Aa V->Hp->Prop):Prop:=qI X P α r (OkA X P α Q)
def qZ (P:Hp)(α : Aa Af)(r:Out)(D:Ends):Prop:=
 match r with
 |.nx U O=>∀ J N G Y,Rel X.K N G Y O->qY X.K G Y J U->qE P G->α<+:Y->D.nx J N
 |.bk U O=>∀ J N G Y,Rel X.K N G Y O->qY X.K G Y J U->qE P G->α<+:Y->D.bk J N
 |.ct U O=>∀ J N G Y,Rel X.K N G Y O->qY X.K G Y J U->qE P G->α<+:Y->D.ct J N
 |.rt d O=>∀ v N G Y,Rel X.K N G Y O->qE P G->α<+:Y->Rep X.K G Y d v->D.rt v N
 |.ex c x _ O=>∀ u B,XOk X P α c x O u B->X.xe u B
 |.bad=>Fn
inductive tD (f:DE)(σ : _L.St)(H:Hp)(Q:VK):Prop
 |mk (P:Hp) (α : Aa Af) (env:qF) (S:Sto) (r:Rel X.K H P α S) (re:qY X.K P α σ env) (af:qS X P α (f env S) Q):tD f σ H Q
inductive tDT (f:DT)(σ : _L.St)(H:Hp)(Q:As->Hp->Prop):Prop
 |mk (P:Hp) (α : Aa Af) (env:qF) (S:Sto) (r:Rel X.K H P α S) (re:qY X.K P α σ env) (af:yD X P α (f env S) Q):tDT f σ H Q
inductive tDA (f:DA)(σ : _L.St)(H:Hp)(Q:Aa V->Hp->Prop):Prop
 |mk (P:Hp) (α : Aa Af) (env:qF) (S:Sto) (r:Rel X.K H P α S) (re:qY X.K P α σ env) (af:gZ X P α (f env S) Q):tDA f σ H Q
inductive tDS (f:DS)(D:Ends)(σ : _L.St)(H:Hp):Prop
 |mk (P:Hp) (α : Aa Af) (env:qF) (S:Sto) (r:Rel X.K H P α S) (re:qY X.K P α σ env) (af:qZ X P α (f env S) D):tDS f D σ H
end
section
variable {X:Cx}{P P1:Hp}{α α1:Aa Af}
theorem qS.base {r:Res D}(e:qE P P1)(h:α<+:α1)(k:qS X P α r Q):qS X P1 α1 r Q:=by
 cases r with
 |ok d S=>exact λv B O Y r U N J=>k v B O Y r (e.trans U) (h.trans N) J
 |ex c x S=>exact λu G q=>k u G (q.base e h)
 |bad=>exact k
theorem yD.base {r:Res As}{Q:As->Hp->Prop}(e:qE P P1)(h:α<+:α1)(k:yD X P α r Q):yD X P1 α1 r Q:=by
 cases r with
 |ok d S=>exact λO U Y r N J=>k O U Y r (e.trans N) (h.trans J)
 |ex c x S=>exact λu G q=>k u G (q.base e h)
 |bad=>exact k
theorem gZ.base {r:Res (Aa D)}{Q:Aa V->Hp->Prop}(e:qE P P1)(h:α<+:α1)(k:gZ X P α r Q):gZ X P1 α1 r Q:=by
 cases r with
 |ok d S=>exact λv B G Y r O U J=>k v B G Y r (e.trans O) (h.trans U) J
 |ex c x S=>exact λu N q=>k u N (q.base e h)
 |bad=>exact k
theorem qZ.base {r:Out}{D:Ends}(e:qE P P1)(h:α<+:α1)(k:qZ X P α r D):qZ X P1 α1 r D:=by
 cases r with
 |nx O S=>exact λv N U Y r B G J=>k v N U Y r B (e.trans G) (h.trans J)
 |bk O S=>exact λv N U Y r B G J=>k v N U Y r B (e.trans G) (h.trans J)
 |ct O S=>exact λv N U Y r B G J=>k v N U Y r B (e.trans G) (h.trans J)
 |rt d S=>exact λv N U Y r G J L=>k v N U Y r (e.trans G) (h.trans J) L
 |ex c x O S=>exact λu T q=>k u T (q.base e h)
 |bad=>exact k
theorem xr {v:V}{H:Hp}{d:D}(k:OkV X P α Q d S)(r:Rel X.K H P α S)(q:Rep X.K P α d v):Q v H:=k v H P α r (qE.refl _) (Bh _) q
end
section
variable {X:Cx}{a b e:Bt}{pos:Ev}
theorem peW {t t':TE}(h:PE X e t)(w:∀ σ H Q,t' σ H Q->t σ H Q):PE X e t':=λY s σ H Q I q=>h Y s σ H Q I (w σ H Q q)
theorem psW {st:EQ}{t t':TS}(h:PS X st t)(w:∀ D σ H,t' D σ H->t D σ H):PS X st t':=λY s σ H D I q=>h Y s σ H D I (w D σ H q)
theorem R9 {st:Aa EQ}{t t':TS}(h:PSs X st t)(w:∀ D σ H,t' D σ H->t D σ H):PSs X st t':=λY s σ H D I q=>h Y s σ H D I (w D σ H q)
theorem paW {es:Aa Bt}{t t':TA}(h:PA X es t)(w:∀ σ H Q,t' σ H Q->t σ H Q):PA X es t':=λpos Y s σ H Q I q=>h pos Y s σ H Q I (w σ H Q q)
structure Got (X:Cx)(pins:Aa (Af × Cq))(σ : _L.St)(env:qF)(P:Hp)(α : Aa Af)(u:Ac)(s1:Ag)(v:V)(H1 P1:Hp)(α1:Aa Af)(d:D)(S1:Sto):Prop where
 inv:Inv X pins σ H1 s1
 val:qK v u
 rel:Rel X.K H1 P1 α1 S1
 env:qY X.K P1 α1 σ env
 rep:Rep X.K P1 α1 d v
 same:qE P P1
 pre:α<+:α1
inductive GotG (X:Cx)(pins:Aa (Af × Cq))(σ : _L.St)(env:qF)(P:Hp)(α : Aa Af)(u:Ac)(s1:Ag){γ : Type}(g:D->Sto->Res γ)(Ok:γ->Sto->Prop):Prop
 |mk (v:V) (H1 P1:Hp) (α1:Aa Af) (d:D) (S1:Sto) (G:Got X pins σ env P α u s1 v H1 P1 α1 d S1) (q:qI X P α (g d S1) Ok):GotG X pins σ env P α u s1 g Ok
inductive GotAG (X:Cx)(pins:Aa (Af × Cq))(σ : _L.St)(env:qF)(P:Hp)(α : Aa Af)(us:Aa Ac)(s1:Ag){γ : Type}(g:Aa D->Sto->Res γ)(Ok:γ->Sto->Prop):Prop
 |mk (vs:Aa V) (H1 P1:Hp) (α1:Aa Af) (ds:Aa D) (S1:Sto) (I:Inv X pins σ H1 s1) (rv:qJ vs us) (r:Rel X.K H1 P1 α1 S1) (re:qY X.K P1 α1 σ env) (rp:qD X.K P1 α1 ds vs) (e1:qE P P1) (e2:α<+:α1) (q:qI X P α (g ds S1) Ok):GotAG X pins σ env P α us s1 g Ok
inductive GotT (X:Cx)(pins:Aa (Af × Cq))(σ : _L.St)(env:qF)(P:Hp)(α : Aa Af)(b:As)(s1:Ag){γ : Type}(g:As->Sto->Res γ)(Ok:γ->Sto->Prop):Prop
 |mk (H1 P1:Hp) (α1:Aa Af) (S1:Sto) (I:Inv X pins σ H1 s1) (r:Rel X.K H1 P1 α1 S1) (re:qY X.K P1 α1 σ env) (e1:qE P P1) (e2:α<+:α1) (q:qI X P α (g b S1) Ok):GotT X pins σ env P α b s1 g Ok
theorem zM {γ:Type}{f:DE}{g:D->Sto->Res γ}{Ok:γ->Sto->Prop}{pins:Aa (Af × Cq)}{s:Ag}{σ:_L.St}{H P:Hp}{α:Aa Af}{env:qF}(he:PE X e (tD X f))(I:Inv X pins σ H s)(r:Rel X.K H P α S)
  (re:qY X.K P α σ env) (U:qI X P α ((f env S).bind g) Ok) :
  Ao (Au X.prog X.w) X.A (eval e X.env) (λu L=>GotG X pins σ env P α u L g Ok) X.xe s:=by
 refine thn (he pins s σ H (λv N=>∃ J Y d S1,Rel X.K N J Y S1/\qY X.K J Y σ env/\Rep X.K J Y d v/\qE P J/\α<+:Y/\qI X P α (g d S1) Ok) I ⟨P,α,env,S,r,re,?_⟩) λu L ⟨v,N,A,i,J,Y,d,S1,w,n,j,m,o,y⟩=>⟨v,N,J,Y,d,S1,⟨A,i,w,n,j,m,o⟩,y⟩;cases q:f env S with
 |bad=>rw[q] at U;exact U
 |ex c x T=>rw[q] at U;exact U
 |ok d T =>
  rw[q] at U;exact λv H' E G h O B rp=>⟨E,G,d,T,h,re.mono O B,rp,O,B,U⟩
theorem wB {γ:Type}{es:Aa Bt}{f:DA}{g:Aa D->Sto->Res γ}{Ok:γ->Sto->Prop}{pins:Aa (Af × Cq)}{s:Ag}{σ:_L.St}{H P:Hp}{α:Aa Af}{env:qF}(he:PA X es (tDA X f))(I:Inv X pins σ H s)(r:Rel X.K H P α S)
  (re:qY X.K P α σ env) (U:qI X P α ((f env S).bind g) Ok) (pos:Ev) :
  Ao (Au X.prog X.w) X.A (spliced (Gh pos (Bm es X.env))) (λus L=>GotAG X pins σ env P α us L g Ok) X.xe s:=by
 refine thn (he pos pins s σ H (λvs N=>∃ J Y E S1,Rel X.K N J Y S1/\qY X.K J Y σ env/\qD X.K J Y E vs/\qE P J/\α<+:Y/\qI X P α (g E S1) Ok) I ⟨P,α,env,S,r,re,?_⟩) λu L ⟨v,N,w,h,J,Y,d,S1,j,i,y,n,m,o⟩=>⟨v,N,J,Y,d,S1,w,h,j,i,y,n,m,o⟩;cases q:f env S with
 |bad=>rw[q] at U;exact U
 |ex c x T=>rw[q] at U;exact U
 |ok d T =>
  rw[q] at U;exact λv H' A G r' O B rp=>⟨A,G,d,T,r',re.mono O B,rp,O,B,U⟩
theorem pE {γ:Type}{f:DT}{g:As->Sto->Res γ}{Ok:γ->Sto->Prop}{pins:Aa (Af × Cq)}{s:Ag}{σ:_L.St}{H P:Hp}{α:Aa Af}{env:qF}{m:Ko As}
  (j:∀ (Q:As->Hp->Prop),tDT X f σ H Q->Ao (Au X.prog X.w) X.A m (TP X pins σ Q) X.xe s) (r:Rel X.K H P α S) (re:qY X.K P α σ env) (J:qI X P α ((f env S).bind g) Ok) :
  Ao (Au X.prog X.w) X.A m (λb L=>GotT X pins σ env P α b L g Ok) X.xe s:=by
 refine thn (j (λb N=>∃ U Y S1,Rel X.K N U Y S1/\qY X.K U Y σ env/\qE P U/\α<+:Y/\qI X P α (g b S1) Ok) ⟨P,α,env,S,r,re,?_⟩) λb L ⟨N,o,U,Y,S1,E,n,A,v,I⟩=>⟨N,U,Y,S1,o,E,n,A,v,I⟩;cases q:f env S with
 |bad=>rw[q] at J;exact J
 |ex c x T=>rw[q] at J;exact J
 |ok d T =>
  rw[q] at J;exact λi y G w O B=>⟨y,G,T,w,re.mono O B,O,B,J⟩
noncomputable def dC (d:D):DE:=λ_ S=>.ok d S
noncomputable def qB (i:Ai):DE:=λY S=>match Y[i]? with
 |some (Ab d)=>.ok d S
 |_=>.bad
theorem N4:PE X (.Constant (.int i) j pos) (tD X (dC (.int i))):=peW SU λσ H Q ⟨P,α,Y,S,r,re,J⟩=>xr J r (by simp only[Rep])
theorem HD:PE X (.Constant (.bool i) j pos) (tD X (dC (.bl i))):=peW AE λσ H Q ⟨P,α,Y,S,r,re,J⟩=>xr J r (by simp only[Rep])
theorem NA:PE X (.Constant (.str i) j pos) (tD X (dC (.str i))):=peW SX λσ H Q ⟨P,α,Y,S,r,re,J⟩=>xr J r (by simp only[Rep])
theorem N7:PE X (.Constant .none j pos) (tD X (dC .non)):=peW SV λσ H Q ⟨P,α,Y,S,r,re,J⟩=>xr J r (by simp only[Rep])
set_option tactic.hygienic true in
theorem MD {i:Ai}{σ:_L.St}{H:Hp}(h:tD X (qB i) σ H Q):E9 i σ H Q:=by
 obtain⟨P,α,G,S,r,re,Y⟩:=h;unfold qB at Y
 split at Y
 .rename_i d q
  obtain⟨v,U,J⟩:=re.2 i d q;exact⟨v,U,xr Y r J⟩
 .exact An Y
theorem dv (i:Ai){x:Ar}(U:X.N[i]? = Ab x:=by rfl)(hv:Vis X.env.scope x:=by first|exact AaP rfl|exact wS (AaP rfl)|exact wS (wS rfl))(J:(x == ("__debug__" : Ar))=false:=by decide)
  (Y:(x == ("__classdict__" : Ar))=false:=by decide):PE X (.Name x pos) (tD X (qB i)):=peW (W5 U hv J Y) λσ H Q h=>MD h
theorem aE {x:Ar}{d:D}{v:V}(U:Gl X x)(hm:X.mg x=Ab u)(r:qK v u)(q:∀ P α,Rep X.K P α d v)(Y:(x == ("__debug__" : Ar))=false:=by decide):PE X (.Name x pos) (tD X (dC d)):=
 peW (F6 U hm r Y) λσ H Q ⟨P,α,G,S,r,re,J⟩=>xr J r (q _ _)
theorem GS {x:Ar}{n:Em}(U:Gl X x)(hm:X.mg x=none)(hv:Gi x=Ab (.type n))(G:x ≠ "__name__":=by decide)(Y:(x == ("__debug__" : Ar))=false:=by decide):PE X (.Name x pos) (tD X (dC (.ty n))):=
 peW (F5 (v:=.ty n) U hm hv rfl G Y) λσ H Q ⟨P,α,N,S,r,re,J⟩=>xr J r (by simp only[Rep])
abbrev G2:=D->D->Sto->Res D
def OpD (X:Cx)(f:Ac->Ac->Ko Ac)(g:G2):Prop:=
 ∀ (Y:Aa (Af × Cq)) (σ : _L.St) (H:Hp) (s:Ag) (P:Hp) (α : Aa Af) (S:Sto) (v u:V) (vv J:Ac) (a b:D) (Q:VK),Inv X Y σ H s->Rel X.K H P α S->qK v vv->qK u J->Rep X.K P α a v->Rep X.K P α b u->qS X P α (g a b S) Q ->
  Ao (Au X.prog X.w) X.A (f vv J) (EP X Y σ Q) X.xe s
theorem OpD.of {f:Ac->Ac->Ko Ac}{r:R2}{g:G2}(h:OpR X f r)(w:∀ H P α S v u a b Q,Rel X.K H P α S->Rep X.K P α a v->Rep X.K P α b u->qS X P α (g a b S) Q->r v u H Q):OpD X f g:=
 λY σ H s P α S v u vv O a b Q I B L U J N G=>h Y s σ H v u vv O Q I L U (w H P α S v u a b Q B J N G)
def UnD (X:Cx)(f:Ac->Ko Ac)(g:D->Sto->Res D):Prop:=
 ∀ (Y:Aa (Af × Cq)) (σ : _L.St) (H:Hp) (s:Ag) (P:Hp) (α : Aa Af) (S:Sto) (v:V) (vv:Ac) (a:D) (Q:VK),Inv X Y σ H s->Rel X.K H P α S->qK v vv->Rep X.K P α a v->qS X P α (g a S) Q ->
  Ao (Au X.prog X.w) X.A (f vv) (EP X Y σ Q) X.xe s
def IxD (X:Cx)(g:G2):Prop:=
 ∀ (U Y:Bt) (J:Aa (Af × Cq)) (σ : _L.St) (H:Hp) (s:Ag) (P:Hp) (α : Aa Af) (S:Sto) (v u:V) (vv G:Ac) (a b:D) (Q:VK),Inv X J σ H s->Rel X.K H P α S->qK v vv->qK u G->Rep X.K P α a v->Rep X.K P α b u->qS X P α (g a b S) Q ->
  subscripted Y false vv G=operate [vv,G] (Lm vv G)->Ao (Au X.prog X.w) X.A (Sd U Y vv G) (EP X J σ Q) X.xe s
def xQ (X:Cx)(f:Ac)(g:Aa D->Sto->Res D):Prop:=
 ∀ (Y:Aa (Af × Cq)) (σ : _L.St) (H:Hp) (s:Ag) (P:Hp) (α : Aa Af) (S:Sto) (vs:Aa V) (us:Aa Ac) (J:Aa D) (Q:VK),Inv X Y σ H s->Rel X.K H P α S->qJ vs us->qD X.K P α J vs->qS X P α (g J S) Q ->
  Ao (Au X.prog X.w) X.A (call f us) (EP X Y σ Q) X.xe s
noncomputable def d2 (g:G2)(J G:DE):DE:=λY S=>(J Y S).bind λx S1=>(G Y S1).bind λy U=>g x y U
noncomputable def d1 (g:D->Sto->Res D)(J:DE):DE:=λY S=>(J Y S).bind g
variable {fa fb:DE}
theorem rC {g:G2}{f:Ac->Ac->Ko Ac}{pins:Aa (Af × Cq)}{s:Ag}{σ:_L.St}{H:Hp}(c:OpD X f g)(A:PE X a (tD X fa))(E:PE X b (tD X fb))(I:Inv X pins σ H s)(h:tD X (d2 g fa fb) σ H Q) :
  Ao (Au X.prog X.w) X.A (eval a X.env) (λv G=>Ao (Au X.prog X.w) X.A (eval b X.env) (λu J=>Ao (Au X.prog X.w) X.A (f v u) (EP X pins σ Q) X.xe J) X.xe G) X.xe s:=by
 obtain⟨P,α,q,S,r,re,o⟩:=h;refine thn (zM A I r re o) λvv s1 ⟨v,x,T,U,d,S1,Y,N⟩=>?_;refine thn (zM E Y.inv Y.rel Y.env (P:=T) (α:=U) (Ok:=OkV X T U Q) (g:=λy B=>g d y B) ?_) λi n ⟨u,m,w,O,j,B,G2,L⟩=>?_
 .exact qS.base Y.same Y.pre N
 .exact c pins σ m n w O B v u vv i d j Q G2.inv G2.rel Y.val G2.val (Rep.mono G2.same G2.pre _ _ Y.rep) G2.rep (qS.base G2.same G2.pre L)
theorem HH {op:Operator}{g:G2}(G:OpD X (Ei op) g)(U:PE X a (tD X fa))(J:PE X b (tD X fb)):PE X (.BinOp a op b pos) (tD X (d2 g fa fb)):=
 λY s σ H Q I h=>wpAny_BinOp (rC G U J I h)
theorem N1 {op:Xc}{g:G2}(G:OpD X (Df op) g)(U:PE X a (tD X fa))(J:PE X b (tD X fb))(hm:Ma op b=false:=by first|exact kA _|with_unfolding_all rfl):PE X (.Compare a [op] [b] pos) (tD X (d2 g fa fb)):=
 λY s σ H Q I h=>wpAny_Compare1 (rC G U J I h) hm
theorem HI {op:UnaryOp}{g:D->Sto->Res D}(E:UnD X (sB op) g)(N:PE X a (tD X fa)):PE X (.UnaryOp op a pos) (tD X (d1 g fa)):=by
 intro J s σ H Q I h;obtain⟨P,α,B,S,r,re,T⟩:=h;exact UnaryOp_ (thn (zM N I r re T) λvv A ⟨v,L,O,U,d,S1,Y,G⟩=>E J σ L A O U S1 v vv d Q Y.inv Y.rel Y.val Y.rep (qS.base Y.same Y.pre G))
theorem HG {g:G2}(ho:IxD X g)(ha:PE X a (tD X fa))(i:PE X b (tD X fb))(hs:tK b:=by intro _ _;rfl):PE X (.Subscript a b pos) (tD X (d2 g fa fb)):=by
 intro G s σ H Q I h;obtain⟨P,α,Y,S,r,re,U⟩:=h;have B:IxR X (λx y H Q=>∃ P α S a b,Rel X.K H P α S/\Rep X.K P α a x/\Rep X.K P α b y/\qS X P α (g a b S) Q):=λN O G s σ H x y v u Q I rx ry ⟨P,α,S,a,b,r,p1,p2,U⟩ f =>
  ho N O G σ H s P α S x y v u a b Q I r rx ry p1 p2 U f
 refine peW (AF B ha i hs) (t':=tD X (d2 g fa fb)) (λσ H Q h=>?_) G s σ H Q I ⟨P,α,Y,S,r,re,U⟩;obtain⟨P,α,Y,S,r,re,U⟩:=h;refine⟨P,α,Y,S,r,re,?_⟩;unfold d2 at U;cases q:fa Y S with
 |bad=>rw[q] at U;exact U
 |ex c x S'=>rw[q] at U;exact U
 |ok d S1 =>
  rw[q] at U;intro v H1 P1 T r1 L j rp;refine⟨P1,T,Y,S1,r1,re.mono L j,?_⟩;have J:qS X P α ((fb Y S1).bind λy A=>g d y A) Q:=U;cases o:fb Y S1 with
  |bad=>rw[o] at J;exact J
  |ex c x S'=>rw[o] at J;exact λu s' z=>J u s' (z.base L j)
  |ok d' A =>
   rw[o] at J;intro u H2 P2 E r2 m n w;exact⟨P2,E,A,d,d',r2,Rep.mono m n _ _ rp,w,qS.base (L.trans m) (j.trans n) J⟩
noncomputable def qC:DA:=λ_ S=>.ok [] S
noncomputable def qA (f:DE)(g:DA):DA:=λY S=>(f Y S).bind λx S1=>(g Y S1).bind λU J=>.ok (x::U) J
theorem TU:PA X [] (tDA X qC):=paW SS λσ H Q ⟨P,α,Y,S,r,re,J⟩=>J [] H P α r (qE.refl _) (Bh _) .nil
theorem GR {es:Aa Bt}{g:DA}(E:PE X e (tD X fa))(o:PA X es (tDA X g))(hs:Bm (e::es) X.env=(false,eval e X.env)::Bm es X.env:=by rfl):PA X (e::es) (tDA X (qA fa g)):=by
 intro pos T s σ H Q I h;obtain⟨P,α,A,S,r,re,f⟩:=h;rw[hs];show Ao _ _ (spliced ((false,eval e X.env)::Gh pos (Bm es X.env))) _ _ s;refine Mw (thn (zM E I r re f) λu s1 ⟨x,H1,B,J,d,S1,Y,N⟩=>?_);refine thn (wB o Y.inv Y.rel Y.env (P:=B) (α:=J) (Ok:=OkA X B J Q) (gZ.base Y.same Y.pre N) pos) λus s2 ⟨c,y,n,j,ds,i,m,q,v,w,U,O,L,G⟩=>?_;exact⟨x::c,y,m,.cons Y.val q,G _ _ _ _ v O L (.cons (Rep.mono O L _ _ Y.rep) U)⟩
noncomputable def lim:Ai:=16777216
theorem zH:lim=sizeLine:=Fb.symm
noncomputable def zA (f:DA):DE:=λY S=>(f Y S).bind λJ S1=>if J.length<=lim then .ok (.tup J) S1 else .bad
noncomputable def xB (f:DA):DE:=λY S=>(f Y S).bind λJ S1=>if J.length<=lim then .ok (.lst J) S1 else .bad
noncomputable def jE (f:DA):DE:=λY S=>(f Y S).bind λJ S1=>if J.length<=lim then .ok (.loc S1.length) (S1++[.lst J]) else .bad
theorem bO {K:Aj}{P:Hp}{α:Aa Af}{a:Af}{Y:Aa D}(h:SqT K P a vs)(r:qD K P α Y vs):Rep K P α (.tup Y) (.ref a):=by simp only[Rep];exact⟨a,vs,rfl,h,r⟩
theorem nX {K:Aj}{P:Hp}{α:Aa Af}{a:Af}{Y:Aa D}(h:SqX K P a vs)(r:qD K P α Y vs):Rep K P α (.lst Y) (.ref a):=by simp only[Rep];exact⟨a,vs,rfl,h,r⟩
theorem gI {H P:Hp}{α:Aa Af}{J:Aa D}(r:Rel X.K H P α S)(hp:H p=none)(G:qD X.K P α J vs)(U:OkV X P α Q (.tup J) S):Q (.ref p) (upd H p (.tup vs)):=by
 obtain⟨N,Y⟩:=r.pure (o:=.tup vs) hp;exact U _ _ _ α N Y (Bh _) (bO (.of qQ) (qD.mono Y (Bh _) _ _ G))
theorem wA {H P:Hp}{α:Aa Af}{J:Aa D}(r:Rel X.K H P α S)(hp:H p=none)(G:qD X.K P α J vs)(U:OkV X P α Q (.lst J) S):Q (.ref p) (upd H p (.lst vs)):=by
 obtain⟨N,Y⟩:=r.pure (o:=.lst vs) hp;exact U _ _ _ α N Y (Bh _) (nX (.inl (.inl qQ)) (qD.mono Y (Bh _) _ _ G))
theorem bG {H P:Hp}{α:Aa Af}{J:Aa D}(r:Rel X.K H P α S)(hp:H p=none)(G:qD X.K P α J vs)(U:OkV X P α Q (.loc S.length) (S++[.lst J])):Q (.ref p) (upd H p (.lst vs)):=by
 have Y:α<+:α++[p]:=Fq _ _;have N:=r.new (o:=.lst vs) (m:=.lst J) hp ⟨vs,qQ,qD.mono (qE.refl _) Y _ _ G⟩;refine U _ _ _ _ N (qE.refl _) Y ?_;simp only[Rep];exact⟨p,rfl,by rw[<- r.len];simp⟩
theorem tS {f:DA}{σ:_L.St}{H:Hp}{G:Aa D->Sto->Res D}{mk:Aa V->HO}(h:tD X (λenv S=>(f env S).bind λxs S1=>if xs.length<=lim then G xs S1 else .bad) σ H Q)
  (k:∀ N P1 J S1 O vs p,Rel X.K N P1 J S1->N p=none->qD X.K P1 J O vs->qS X P1 J (G O S1) Q->Q (.ref p) (upd N p (mk vs))) :
  tDA X f σ H λvs N=>vs.length<=sizeLine/\∀ p,N p=none->Q (.ref p) (upd N p (mk vs)):=by
 obtain⟨P,α,env,S,r,re,E⟩:=h;refine⟨P,α,env,S,r,re,?_⟩;have Y:qS X P α ((f env S).bind λxs S1=>if xs.length<=lim then G xs S1 else .bad) Q:=E
 cases q:f env S with
 |bad=>rw[q] at Y;exact Y
 |ex c x j=>rw[q] at Y;exact Y
 |ok O S1 =>
  rw[q] at Y;intro vs N P1 J I A w L;have U:qS X P α (if O.length<=lim then G O S1 else .bad) Q:=Y
  by_cases B:O.length<=lim
  .rw[Be B] at U
   exact⟨by rw[<- L.length,<- zH];exact B,λp T=>k N P1 J S1 O vs p I T L (qS.base A w U)⟩
  .rw[Bg B] at U;exact An U
theorem NB {es:Aa Bt}{f:DA} {x1} (h:PA X es (tDA X f)):PE X (.Tuple es x1 pos) (tD X (zA f)):=
 peW (SY h) λσ H Q q=>tS (G:=λY S1=>.ok (.tup Y) S1) (mk:=.tup) q λT B U S1 L vs p r J O N=>gI r J O N
theorem N6 {es:Aa Bt}{f:DA}(h:PA X es (tDA X f)):PE X (.List es pos) (tD X (xB f)):=
 peW (W4 h) λσ H Q q=>tS (G:=λY S1=>.ok (.lst Y) S1) (mk:=.lst) q λT B U S1 L vs p r J O N=>wA r J O N
theorem GX {es:Aa Bt}{f:DA}(h:PA X es (tDA X f)):PE X (.List es pos) (tD X (jE f)):=
 peW (W4 h) λσ H Q q=>tS (G:=λY S1=>.ok (.loc S1.length) (S1++[MO.lst Y])) (mk:=.lst) q λT B U S1 L vs p r J O N=>bG r J O N
end
section
variable {X:Cx}{a b c e:Bt}{pos:Ev}{fa fb fc:DE}{ta tb:DT}
noncomputable def xO:D->Sto->Am As
 |.non,_=>Ab false
 |.bl b,_=>Ab b
 |.int i,_=>Ab (i != 0)
 |.str x,_=>if x.length<=lim then Ab ((x.length:Ak) != 0) else none
 |.tup Y,_=>Ab (!Y.isEmpty)
 |.lst Y,_=>Ab (!Y.isEmpty)
 |.dct0,_=>Ab false
 |.loc i,S=>match S[i]? with
  |some (.lst Y)=>Ab (!Y.isEmpty)
  |some (.dct J)=>Ab (!J.isEmpty)
  |_=>none
 |_,_=>none
theorem qD.isEmpty {K:Aj}{P:Hp}{α:Aa Af}{Y:Aa D}(r:qD K P α Y vs):(!Y.isEmpty)=!vs.isEmpty:=by
 cases Y with
 |nil=>rw[r.nil_inv];rfl
 |cons d Y=>obtain⟨w,J,rfl,_,_⟩:=r.cons_inv;rfl
theorem xH {K:Aj}{H P:Hp}(e:qE P H){a:Af}{xs:Aa V}(h:SqT K P a xs):SqT K H a xs:=yN e h
theorem uG {H P:Hp}{α:Aa Af}{v:V}{d:D}{k:As}(r:Rel X.K H P α S)(p:Rep X.K P α d v)(h:xO d S=Ab k):oA X.K v H k:=by
 cases d with
 |non=>simp only[Rep] at p;subst p;cases h;rfl
 |bl b=>simp only[Rep] at p;subst p;cases h;rfl
 |int i=>simp only[Rep] at p;subst p;cases h;rfl
 |str x =>
  simp only[Rep] at p;subst p;obtain⟨U,rfl⟩:=kY h;exact⟨by rw[<- zH];exact U,rfl⟩
 |tup J =>
  simp only[Rep] at p;obtain⟨a,vs,rfl,q,t⟩:=p;cases h;exact .inr (.inl ⟨vs,xH r.sub q,t.isEmpty⟩)
 |lst J =>
  simp only[Rep] at p;obtain⟨a,vs,rfl,q,t⟩:=p;cases h;exact .inl ⟨vs,(xD r.sub q).l,t.isEmpty⟩
 |dct0 =>
  simp only[Rep] at p;obtain⟨a,rfl,q⟩:=p;cases h;exact .inr (.inr ⟨[],r.sub _ _ q,rfl⟩)
 |loc i =>
  simp only[Rep] at p;obtain⟨a,rfl,q⟩:=p;have h:(match S[i]? with|some (.lst J)=>Ab (!J.isEmpty)|some (.dct Y)=>Ab (!Y.isEmpty)|_=>none)=Ab k:=h
  cases hs:S[i]? with
  |none=>rw[hs] at h;exact nn h
  |some m =>
   rw[hs] at h;cases m with
   |lst J =>
    cases h;obtain⟨vs,z,t⟩:=r.at' i a _ q hs;exact .inl ⟨vs,.of z,t.isEmpty⟩
   |dct Y =>
    cases h;obtain⟨vs,z,t⟩:=r.at' i a _ q hs;refine .inr (.inr ⟨vs,z,?_⟩);cases t <;> rfl
   |_=>exact nn h
 |ty n=>exact nn h
 |obj a=>exact nn h
 |exn c=>exact nn h
 |fd N G=>exact nn h
 |clo a vs G=>exact nn h
theorem G6 {pins:Aa (Af × Cq)}{s:Ag}{σ:_L.St}{H P:Hp}{α:Aa Af}{v:V}{d:D}{k:As}{Q:As->Hp->Prop}(I:Inv X pins σ H s)(r:Rel X.K H P α S)(Y:qK v vv)(p:Rep X.K P α d v)(h:xO d S=Ab k)(q:Q k H) :
  Ao (Au X.prog X.w) X.A (truthy vv) (TP X pins σ Q) X.xe s:=pV pins s σ H v vv Q I Y ⟨k,uG r p h,q⟩
noncomputable def jS (o:Am As)(S:Sto):Res As:=match o with
 |some b=>.ok b S
 |none=>.bad
noncomputable def dTr (f:DE):DT:=λY S=>(f Y S).bind λd S1=>jS (xO d S1) S1
theorem nZ {o:Am As}{P:Hp}{α:Aa Af}{Ok:As->Sto->Prop}(h:qI X P α (jS o S) Ok):∃ b,o=Ab b/\Ok b S:=by
 cases o with
 |none=>exact An h
 |some b=>exact⟨b,rfl,h⟩
theorem NS (O:PE X a (tD X fa))(w:∀ Y,isTrue a X.env Y=(do let v <- Y;Sg a.pos;holding [v] (truthy v)):=by intro _;rfl):PT X a (tDT X (dTr fa)):=by
 intro N s σ H Q I h;obtain⟨P,α,T,S,r,re,A⟩:=h;refine isTrue_plain (thn (zM O I r re A) λvv j ⟨v,E,B,U,d,S1,J,G⟩=>?_) (w _);obtain⟨k,L,q⟩:=nZ G;exact G6 J.inv J.rel J.val J.rep L (q E B U J.rel J.same J.pre)
theorem NQ {op:Xc}{g:G2}(ho:OpD X (Df op) g)(E:PE X a (tD X fa))(T:PE X b (tD X fb))(hm:Ma op b=false:=by first|exact kA _|with_unfolding_all rfl):PT X (.Compare a [op] [b] pos) (tDT X (dTr (d2 g fa fb))):=by
 intro U s σ H Q I h;obtain⟨P,α,J,S,r,re,af⟩:=h;refine wpAny_isTrue_Compare1 ?_ hm;have B:tD X (d2 g fa fb) σ H (λv G=>∃ k,oA X.K v G k/\Q k G):=by
  refine⟨P,α,J,S,r,re,?_⟩;have Y:qI X P α ((d2 g fa fb J S).bind λd S1=>jS (xO d S1) S1) (OkT X P α Q):=af;cases q:d2 g fa fb J S with
  |bad=>rw[q] at Y;exact Y
  |ex c x S'=>rw[q] at Y;exact Y
  |ok d S1 =>
   rw[q] at Y;obtain⟨k,A,O⟩:=nZ (X:=X) Y;exact λv G i N L e3 e4 rp=>⟨k,uG L rp A,O G i N L e3 e4⟩
 exact thn (rC ho E T I B) λv s1 m=>thn m λu s2 w=>thn w λx n ⟨y,f,o,r3,k,j,O⟩=>pV U n σ f y x Q o r3 ⟨k,j,O⟩
noncomputable def wL (g g':G2)(fa fb fc:DE):DE:=λY S=>(fa Y S).bind λx S1=>(fb Y S1).bind λy U=>(g x y U).bind λz J =>
 match xO z J with
 |some true=>(fc Y J).bind λw G=>g' y w G
 |some false=>.ok z J
 |none=>.bad
inductive GotO (X:Cx)(pins:Aa (Af × Cq))(σ : _L.St)(P:Hp)(α : Aa Af)(w:Ac)(s1:Ag){γ : Type}(k:D->Sto->Res γ)(Ok:γ->Sto->Prop):Prop
 |mk (y:V) (H1 P1:Hp) (α1:Aa Af) (d:D) (S1:Sto) (I:Inv X pins σ H1 s1) (rv:qK y w) (r:Rel X.K H1 P1 α1 S1) (rp:Rep X.K P1 α1 d y) (e1:qE P P1) (e2:α<+:α1) (q:qI X P α (k d S1) Ok):GotO X pins σ P α w s1 k Ok
theorem eI {γ:Type}{f:Ac->Ac->Ko Ac}{g:G2}{k:D->Sto->Res γ}{Ok:γ->Sto->Prop}{pins:Aa (Af × Cq)}{σ:_L.St}{H:Hp}{s:Ag}{P:Hp}{α:Aa Af}{v u:V}{O:Ac}{a b:D}(ho:OpD X f g)(I:Inv X pins σ H s)(r:Rel X.K H P α S)
  (o:qK v vv) (ru:qK u O) (pa:Rep X.K P α a v) (pb:Rep X.K P α b u) (J:qI X P α ((g a b S).bind k) Ok) :
  Ao (Au X.prog X.w) X.A (f vv O) (λw B=>GotO X pins σ P α w B k Ok) X.xe s:=by
 refine thn (ho pins σ H s P α S v u vv O a b (λy N=>∃ U Y d S1,Rel X.K N U Y S1/\Rep X.K U Y d y/\qE P U/\α<+:Y/\qI X P α (k d S1) Ok) I r o ru pa pb ?_) λw B ⟨y,N,i,r1,U,Y,d,S1,E,q2,A,j,q5⟩=>⟨y,N,U,Y,d,S1,i,r1,E,q2,A,j,q5⟩;cases q:g a b S with
 |bad=>rw[q] at J;exact J
 |ex c x L=>rw[q] at J;exact J
 |ok d L =>
  rw[q] at J;exact λv H' n G m T h rp=>⟨n,G,d,L,m,rp,T,h,J⟩
theorem qI.base' {β:Type}{P P1:Hp}{α Y:Aa Af}{r:Res β}{Ok J:β->Sto->Prop}(e:qE P P1)(h:α<+:Y)(G:∀ d S,Ok d S->J d S)(k:qI X P α r Ok):qI X P1 Y r J:=by
 cases r with
 |ok d S=>exact G d S k
 |ex c x S=>exact λu U q=>k u U (q.base e h)
 |bad=>exact k
theorem YU {op G:Xc}{g g':G2}(ho:OpD X (Df op) g)(A:OpD X (Df G) g')(ha:PE X a (tD X fa))(hb:PE X b (tD X fb))(hc:PE X c (tD X fc))
  (hm:Zn [op,G] [b,c]=false:=by with_unfolding_all rfl):PE X (.Compare a [op,G] [b,c] pos) (tD X (wL g g' fa fb fc)):=by
 intro U s σ H Q I h;obtain⟨P,α,zb,S,r,re,af⟩:=h;refine Compare_chain (thn (zM ha I r re af) λvv s1 ⟨v,H1,P1,za,d,S1,N,m⟩=>chain_link (thn (zM hb N.inv N.rel N.env (qS.base N.same N.pre m)) λuu s2 ⟨u,H2,P2,zc,d',S2,G2,f⟩ =>
  thn (eI ho G2.inv G2.rel N.val G2.val (Rep.mono G2.same G2.pre _ _ N.rep) G2.rep (qS.base G2.same G2.pre f)) λw s3 ⟨y,i,P3,o,z,S3,I3,x,O,B,L,T,Y⟩=>?_)) hm
 cases j:xO z S3 with
 |none=>simp only[j] at Y;exact An Y
 |some k =>
  simp only[j] at Y;have tv:=uG O B j;refine thn (pV U s3 σ i y w (λq H'=>q=k/\H'=i) I3 x ⟨k,tv,rfl,rfl⟩) λq s4 ⟨H4,I4,hk,hH⟩=>?_;subst hk;subst hH;cases q with
  |false=>exact ite_ff ⟨y,H4,I4,x,Y y H4 P3 o O L T B⟩
  |true =>
   refine ite_tt (chain_last (thn (zM hc I4 O (G2.env.mono L T) (qS.base L T Y)) λww s5 ⟨w',H5,P5,E,d5,S5,J,n⟩=>?_));exact A U σ H5 s5 P5 E S5 u w' uu ww d' d5 Q J.inv J.rel G2.val J.val (Rep.mono (L.trans J.same) (T.trans J.pre) _ _ G2.rep) J.rep (qS.base J.same J.pre n)
theorem V5 {op O:Xc}{g g':G2}(ho:OpD X (Df op) g)(za:OpD X (Df O) g')(ha:PE X a (tD X fa))(hb:PE X b (tD X fb))(hc:PE X c (tD X fc))
  (hm:Zn [op,O] [b,c]=false:=by with_unfolding_all rfl):PT X (.Compare a [op,O] [b,c] pos) (tDT X (dTr (wL g g' fa fb fc))):=by
 intro f s σ H Q I h;obtain⟨P,α,Y,S,r,re,af⟩:=h;have j:qI X P α ((wL g g' fa fb fc Y S).bind λd S1=>jS (xO d S1) S1) (OkT X P α Q):=af;have L:(wL g g' fa fb fc Y S).bind (λd S1=>jS (xO d S1) S1)=(fa Y S).bind λx S1=>(fb Y S1).bind λy E=>(g x y E).bind λz J =>
   match xO z J with
   |some true=>((fc Y J).bind λw G=>g' y w G).bind λd S1=>jS (xO d S1) S1
   |some false=>.ok false J
   |none=>.bad:=by
  unfold wL;cases fa Y S with
  |bad=>rfl
  |ex _ _ _=>rfl
  |ok x S1 =>
   show Res.bind (Res.bind (fb Y S1) _) _=Res.bind (fb Y S1) _;cases fb Y S1 with
   |bad=>rfl
   |ex _ _ _=>rfl
   |ok y E =>
    show Res.bind (Res.bind (g x y E) _) _=Res.bind (g x y E) _;cases g x y E with
    |bad=>rfl
    |ex _ _ _=>rfl
    |ok z J =>
     show Res.bind (match xO z J with|some true=>(fc Y J).bind λw G=>g' y w G|some false=>.ok z J|none=>.bad) _=_
     cases A:xO z J with
     |none=>simp only[A,Res.bind]
     |some k=>cases k <;> simp only[A,Res.bind,jS]
 rw[L] at j;refine isTrue_chain (thn (zM ha I r re j) λvv s1 ⟨v,H1,P1,zj,d,S1,B,zg⟩=>test_link (thn (zM hb B.inv B.rel B.env (yD.base B.same B.pre zg)) λuu s2 ⟨u,H2,P2,o,d',E,G2,ze⟩ =>
  thn (eI ho G2.inv G2.rel B.val G2.val (Rep.mono G2.same G2.pre _ _ B.rep) G2.rep (yD.base G2.same G2.pre ze)) λw s3 ⟨y,H3,P3,zd,z,J,I3,r3,T,zf,m,n,U⟩=>?_)) hm
 cases A:xO z J with
 |none=>simp only[A] at U;exact An U
 |some k =>
  simp only[A] at U;have tv:=uG T zf A;refine thn (pV f s3 σ H3 y w (λk' H'=>k'=k/\H'=H3) I3 r3 ⟨k,tv,rfl,rfl⟩) λk' s4 ⟨H4,I4,hk,hH⟩=>?_;subst hk;subst hH;cases k' with
  |false=>exact ite_ff ⟨H4,I4,U H4 P3 zd T m n⟩
  |true =>
   have zi:qI X P2 o ((fc Y J).bind λw G=>(g' d' w G).bind λd S1=>jS (xO d S1) S1) (OkT X P2 o Q):=by
    have e:((fc Y J).bind λw G=>(g' d' w G).bind λd S1=>jS (xO d S1) S1)=(((fc Y J).bind λw G=>g' d' w G).bind λd S1=>jS (xO d S1) S1):=by
     cases fc Y J <;> rfl
    rw[e];exact U
   refine ite_tt (test_last (thn (zM hc I4 T (G2.env.mono m n) (yD.base m n zi)) λww s5 ⟨w',H5,P5,zk,d5,S5,N,zh⟩ =>
    thn (eI za N.inv N.rel G2.val N.val (Rep.mono (m.trans N.same) (n.trans N.pre) _ _ G2.rep) N.rep (yD.base N.same N.pre zh)) λx6 s6 ⟨y6,H6,P6,zb,d6,S6,I6,r6,q,i,e5,e6,zc⟩=>?_))
   obtain⟨k6,q6,z6⟩:=nZ zc;exact G6 I6 q r6 i q6 (z6 H6 P6 zb q e5 e6)
noncomputable def yH (t:DT):DT:=λY S=>(t Y S).bind λb S1=>.ok (!b) S1
noncomputable def dQ (t u:DT):DT:=λY S=>(t Y S).bind λb S1=>if b then u Y S1 else .ok false S1
noncomputable def kO (t u:DT):DT:=λY S=>(t Y S).bind λb S1=>if b then .ok true S1 else u Y S1
theorem NR (N:PT X a (tDT X ta)):PT X (.UnaryOp .Not a pos) (tDT X (yH ta)):=by
 intro Y s σ H Q I h;obtain⟨P,α,A,S,r,re,j⟩:=h;refine isTrue_not (thn (pE (λE q=>N Y s σ H E I q) r re j) λb o ⟨G,O,J,S1,L,y,w,B,T,U⟩=>⟨G,L,U G O J y B T⟩)
def PWD (X:Cx)(e:Bt)(t:DT):Prop:=PW X e (tDT X t)
theorem PWD.pt {t:DT}(h:PWD X e t):PT X e (tDT X t):=h _
theorem PQ (Y:PT X a (tDT X ta)):PWD X (.BoolOp .And [a] pos) ta:=FG Y
theorem NU (Y:PT X a (tDT X ta)):PWD X (.BoolOp .Or [a] pos) ta:=RB Y
theorem NT {J:Aa Bt}(y:PT X a (tDT X ta))(j:PWD X (.BoolOp .And (b::J) pos) tb):PWD X (.BoolOp .And (a::b::J) pos) (dQ ta tb):=by
 intro o Y s σ H Q I h;obtain⟨P,α,B,S,r,re,g⟩:=h;refine isTrue_and (thn (pE (λv q=>y Y s σ H v I q) r re g) λk d ⟨O,L,U,S1,E,w,N,T,A,G⟩=>?_);cases k with
 |true=>exact j o Y d σ O Q E ⟨L,U,B,S1,w,N,yD.base T A G⟩
 |false=>exact⟨O,E,G O L U w T A⟩
theorem HN {J:Aa Bt}(y:PT X a (tDT X ta))(j:PWD X (.BoolOp .Or (b::J) pos) tb):PWD X (.BoolOp .Or (a::b::J) pos) (kO ta tb):=by
 intro o Y s σ H Q I h;obtain⟨P,α,B,S,r,re,g⟩:=h;refine isTrue_or (thn (pE (λv q=>y Y s σ H v I q) r re g) λk d ⟨O,L,U,S1,E,w,N,T,A,G⟩=>?_);cases k with
 |true=>exact⟨O,E,G O L U w T A⟩
 |false=>exact j o Y d σ O Q E ⟨L,U,B,S1,w,N,yD.base T A G⟩
noncomputable def pC (f g:DE):DE:=λY S=>(f Y S).bind λx S1=>match xO x S1 with
 |some true=>g Y S1
 |some false=>.ok x S1
 |none=>.bad
noncomputable def YS (f:DE):DE:=λY S=>(f Y S).bind λx S1=>match xO x S1 with
 |some b=>.ok (.bl (!b)) S1
 |none=>.bad
theorem N9  (h:PE X a (tD X fa)):PE X (.BoolOp op [a] pos) (tD X fa):=SW h
theorem EB {pins:Aa (Af × Cq)}{s:Ag}{σ:_L.St}{H:Hp}{v:V}{k:As}{R:As->Ag->Prop}(I:Inv X pins σ H s)(B:qK v vv)(t:oA X.K v H k)(h:∀ s',Inv X pins σ H s'->R k s') :
  Ao (Au X.prog X.w) X.A (truthy vv) R X.xe s:=thn (pV pins s σ H v vv (λY N=>Y=k/\N=H) I B ⟨k,t,rfl,rfl⟩) λY O ⟨L,U,G,J⟩=>by subst G;subst J;exact h O U
theorem TX {U:Aa Bt}(w:PE X a (tD X fa))(A:PE X (.BoolOp .And (b::U) pos) (tD X fb)):PE X (.BoolOp .And (a::b::U) pos) (tD X (pC fa fb)):=by
 intro N s σ H Q I h;obtain⟨P,α,L,S,r,re,j⟩:=h;refine BoolOp_and (thn (zM w I r re j) λvv q ⟨v,O,T,G,d,S1,Y,J⟩=>?_);cases B:xO d S1 with
 |none=>simp only[B] at J;exact An J
 |some k =>
  simp only[B] at J;refine EB Y.inv Y.val (uG Y.rel Y.rep B) λy E=>?_;cases k with
  |true=>exact A N y σ O Q E ⟨T,G,L,S1,Y.rel,Y.env,qS.base Y.same Y.pre J⟩
  |false=>exact⟨v,O,E,Y.val,J v O T G Y.rel Y.same Y.pre Y.rep⟩
theorem N8 (B:PE X a (tD X fa)):PE X (.UnaryOp .Not a pos) (tD X (YS fa)):=by
 intro O s σ H Q I h;obtain⟨P,α,T,S,r,re,E⟩:=h;refine UnaryOp_ (thn (zM B I r re E) λvv w ⟨v,N,L,G,d,S1,J,Y⟩=>?_);cases U:xO d S1 with
 |none=>simp only[U] at Y;exact An Y
 |some k =>
  simp only[U] at Y;exact not_of (EB J.inv J.val (uG J.rel J.rep U) λj A=>⟨.bl (!k),N,A,rfl,Y (.bl (!k)) N L G J.rel J.same J.pre (by simp only[Rep])⟩)
noncomputable def dIf (t:DT)(f g:DE):DE:=λY S=>(t Y S).bind λb S1=>if b then f Y S1 else g Y S1
theorem HF (g:PT X c (tDT X ta))(y:PE X a (tD X fa))(j:PE X b (tD X fb)):PE X (.IfExp c a b pos) (tD X (dIf ta fa fb)):=by
 intro Y s σ H Q I h;obtain⟨P,α,G,S,r,re,d⟩:=h;refine wpAny_IfExp (thn (pE (λo q=>g Y s σ H o I q) r re d) λk A ⟨E,O,J,S1,L,w,N,B,T,U⟩=>?_);cases k with
 |true=>exact y Y A σ E Q L ⟨O,J,G,S1,w,N,qS.base B T U⟩
 |false=>exact j Y A σ E Q L ⟨O,J,G,S1,w,N,qS.base B T U⟩
end
@[inline] def Res.toS {β:Type}(env:qF)(r:Res β)(k:β->Sto->Out):Out:=
 match r with
 |.ok d S=>k d S
 |.ex c x S=>.ex c x env S
 |.bad=>.bad
section
variable {X:Cx}{a b c e:Bt}{pos:Ev}{fa fb fc:DE}{ta tb:DT}{f g:DS}{st:EQ}{rest:Aa EQ}
noncomputable def zV:DS:=λY S=>.nx Y S
noncomputable def qN (f g:DS):DS:=λJ S=>match f J S with
 |.nx Y S1=>g Y S1
 |o=>o
theorem NK:PSs X [] (tDS X zV):=R9 FD λD σ H ⟨P,α,J,S,r,re,Y⟩=>Y σ H P α r re (qE.refl _) (Bh _)
theorem PH (h1:PS X st (tDS X f))(h2:PSs X rest (tDS X g)):PSs X (st::rest) (tDS X (qN f g)):=R9 (UN h1 h2) λD σ H ⟨P,α,U,S,r,re,J⟩=>by
 refine⟨P,α,U,S,r,re,?_⟩;unfold qN at J;cases q:f U S with
 |nx Y S1 =>
  rw[q] at J;exact λT I O G E N B L=>⟨O,G,Y,S1,E,N,qZ.base B L J⟩
 |rt d S1=>rw[q] at J;exact J
 |bk Y S1=>rw[q] at J;exact J
 |ct Y S1=>rw[q] at J;exact J
 |ex c x Y S1=>rw[q] at J;exact J
 |bad=>rw[q] at J;exact J
theorem NL (h1:PS X st (tDS X f)):PSs X [st] (tDS X f):=FE h1
theorem w5 {β:Type}{P:Hp}{α:Aa Af}{env:qF}{r:Res β}{k:β->Sto->Out}{D:Ends}(h:qZ X P α (r.toS env k) D):qI X P α r λd S=>qZ X P α (k d S) D:=by
 cases r with
 |ok d S=>exact h
 |ex c x S=>exact h
 |bad=>exact h
inductive GotS (X:Cx)(pins:Aa (Af × Cq))(σ : _L.St)(env:qF)(P:Hp)(α : Aa Af)(u:Ac)(s1:Ag)(k:D->Sto->Out)(E:Ends):Prop
 |mk (v:V) (H1 P1:Hp) (α1:Aa Af) (d:D) (S1:Sto) (G:Got X pins σ env P α u s1 v H1 P1 α1 d S1) (q:qZ X P1 α1 (k d S1) E):GotS X pins σ env P α u s1 k E
theorem mG {k:D->Sto->Out}{pins:Aa (Af × Cq)}{s:Ag}{σ:_L.St}{H P:Hp}{α:Aa Af}{env:qF}{D:Ends}(L:PE X e (tD X fa))(I:Inv X pins σ H s)(r:Rel X.K H P α S)
  (re:qY X.K P α σ env) (B:qZ X P α ((fa env S).toS env k) D) :
  Ao (Au X.prog X.w) X.A (eval e X.env) (λu U=>GotS X pins σ env P α u U k D) X.xe s:=by
 have J:qI X P α ((fa env S).bind λd S=>.ok d S) λd S=>qZ X P α (k d S) D:=by
  have:=w5 B;cases q:fa env S <;> rw[q] at this <;> exact this
 exact thn (zM L I r re J) λu U ⟨v,O,N,Y,d,S1,G,q⟩=>⟨v,O,N,Y,d,S1,G,qZ.base G.same G.pre q⟩
noncomputable def xY (f:DE):DS:=λY S=>(f Y S).toS Y λ_ S1=>.nx Y S1
theorem PL (L:PE X e (tD X fa))(hs:Nq e none pos.line X.env=pure false:=by rfl):PS X (.Expr e pos) (tDS X (xY fa)):=by
 intro U s σ H D I h;obtain⟨P,α,O,S,r,re,B⟩:=h;exact wpAny_Expr_any (thn (mG L I r re B) λv T ⟨x,J,N,Y,d,S1,G,q⟩=>⟨σ,J,G.inv,q σ J N Y G.rel G.env (qE.refl _) (Bh _)⟩) I.quiet hs
noncomputable def z9 (f:DE):DS:=λY S=>(f Y S).toS Y λd S1=>.rt d S1
theorem NN (L:PE X e (tD X fa)):PS X (.Return (Ab e) pos) (tDS X (z9 fa)):=by
 intro U s σ H D I h;obtain⟨P,α,O,S,r,re,B⟩:=h;exact wpAny_Return_some (thn (mG L I r re B) λv T ⟨x,J,N,Y,d,S1,G,q⟩=>⟨x,σ,J,G.inv,G.val,q x J N Y G.rel (qE.refl _) (Bh _) G.rep⟩)
noncomputable def sIf (t:DT)(f g:DS):DS:=λY S=>(t Y S).toS Y λb S1=>if b then f Y S1 else g Y S1
theorem HL {T bs:Aa EQ}(i:PT X c (tDT X ta))(v:PSs X T (tDS X f))(o:PSs X bs (tDS X g)):PS X (.If c T bs pos) (tDS X (sIf ta f g)):=by
 intro J s σ H D I h;obtain⟨P,α,Y,S,r,re,m⟩:=h;have O:qI X P α ((ta Y S).bind λd S=>.ok d S) λb S=>qZ X P α (if b then f Y S else g Y S) D:=by
  have:=w5 m;cases q:ta Y S <;> rw[q] at this <;> exact this
 refine wpAny_If (thn (pE (λn q=>i J s σ H n I q) r re O) λk A ⟨L,B,G,S1,w,y,U,E,j,N⟩=>?_);cases k with
 |true=>exact v J A σ L D w ⟨B,G,Y,S1,y,U,qZ.base E j N⟩
 |false=>exact o J A σ L D w ⟨B,G,Y,S1,y,U,qZ.base E j N⟩
abbrev DG:=D->qF->Sto->Res qF
abbrev DGs:=Aa D->qF->Sto->Res qF
def OkE (X:Cx)(P:Hp)(α : Aa Af)(Q:_L.St->Hp->Prop)(env':qF)(N:Sto):Prop:=∀ J G U Y,Rel X.K G U Y N->qY X.K U Y J env'->qE P U->α<+:Y->Q J G
def tDG (X:Cx)(g:DG):TG:=λv σ H Q=>∃ P α Y S d,Rel X.K H P α S/\qY X.K P α σ Y/\Rep X.K P α d v/\qI X P α (g d Y S) (OkE X P α Q)
def c8 (X:Cx)(g:DGs):TGs:=λvs σ H Q=>∃ P α Y S J,Rel X.K H P α S/\qY X.K P α σ Y/\qD X.K P α J vs/\qI X P α (g J Y S) (OkE X P α Q)
theorem qY.set {K:Aj}{P:Hp}{α:Aa Af}{σ:_L.St}{env:qF}{d:D}{v:V}(re:qY K P α σ env)(i:Ai)(G:Rep K P α d v):qY K P α (σ.set i (Ab v)) (env.set i (Ab d)):=by
 refine⟨by simp[re.1],λj U e=>?_⟩
 by_cases Y:i=j
 .subst Y
  by_cases J:i<env.length
  .rw[Dd J] at e
   cases e;exact⟨v,by rw[Dd (by rw[<- re.1];exact J)],G⟩
  .rw[Op (by simp;omega)] at e;cases e
 .rw[Ce Y] at e ⊢
  exact re.2 j U e
noncomputable def gNm (i:Ai):DG:=λd Y S=>.ok (Y.set i (Ab d)) S
theorem P8 {i:Ai}{x:Ar}(O:X.N.Nodup)(hi:X.N[i]? = Ab x:=by rfl)(J:Loc X.env.scope x:=by first|exact AaP rfl|exact wS rfl)(N:X.fn x=true\/X.env.scope.names.lookup x=Ab .local:=by first|exact .inl rfl|exact .inr rfl|assumption):PG X (.Name x pos) (tDG X (gNm i)):=by
 intro Y s σ H v u Q I G h;obtain⟨P,α,U,S,d,r,re,L,B⟩:=h;exact F7 O hi J N Y s σ H v u Q I G (B _ H P α r (re.set i L) (qE.refl _) (Bh _))
noncomputable def yJ:DGs:=λJ Y S=>match J with
 |[]=>.ok Y S
 |_=>.bad
noncomputable def zP (g:DG)(G:DGs):DGs:=λU J S=>match U with
 |d::r=>(g d J S).bind λY S1=>G r Y S1
 |[]=>.bad
theorem P9:PGs X [] (c8 X yJ):=by
 intro Y s σ H vs us Q I N h;obtain⟨P,α,G,S,U,r,re,O,J⟩:=h;cases U with
 |nil=>exact F8 Y s σ H vs us Q I N ⟨O.nil_inv,J σ H P α r re (qE.refl _) (Bh _)⟩
 |cons d U=>exact An J
theorem YX {es:Aa Bt}{g:DG}{y:DGs}(h1:PG X e (tDG X g))(h2:PGs X es (c8 X y))(hs:(Hd (e::es) X.env).map (·.2)=assign e X.env::(Hd es X.env).map (·.2):=by rfl):PGs X (e::es) (c8 X (zP g y)):=by
 intro G s σ H vs us Q I rv h;obtain⟨P,α,U,S,N,r,re,rp,v⟩:=h;cases N with
 |nil=>exact An v
 |cons d N =>
  obtain⟨w,ws,rfl,p1,n⟩:=rp.cons_inv;refine UK h1 h2 hs G s σ H _ us Q I rv ⟨w,ws,rfl,P,α,U,S,d,r,re,p1,?_⟩;have Y:qI X P α ((g d U S).bind λJ S1=>y N J S1) (OkE X P α Q):=v;cases q:g d U S with
  |bad=>rw[q] at Y;exact Y
  |ex c x S'=>rw[q] at Y;exact Y
  |ok J S1 =>
   rw[q] at Y;intro za H' P' O r' A B j;refine⟨P',O,J,S1,N,r',A,qD.mono B j _ _ n,qI.base' B j (λo S' ok E i m L r2 T e3 e4=>ok E i m L r2 T (B.trans e3) (j.trans e4)) Y⟩
noncomputable def gTp (n:Ai)(U:DGs):DG:=λd Y S=>match d with
 |.tup J=>if J.length=n then U J Y S else .bad
 |_=>.bad
set_option tactic.hygienic true in
theorem NF {es:Aa Bt}{k:Ai}{N:DGs}{n:Ai}(A:X.calm=true)(h:PGs X es (c8 X N))(E:(Hd es X.env).length=n:=by rfl)(U:(Hd es X.env).findIdx? (·.1)=none:=by rfl):PG X (.Tuple es k pos) (tDG X (gTp n N)):=by
 intro J s σ H v u Q I T B;obtain⟨P,α,G,S,d,r,re,O,Y⟩:=B;cases d with
 |tup L =>
  simp only[Rep] at O;obtain⟨a,vs,rfl,q,t⟩:=O;simp only[gTp] at Y
  split at Y
  .rename_i w
   exact SZ A h E U J s σ H _ u Q I T ⟨a,vs,rfl,xH r.sub q,by rw[<- t.length];exact w,P,α,G,S,L,r,re,t,Y⟩
  .exact An Y
 |_=>exact An Y
abbrev G3:=D->D->D->Sto->Res Qf
def OkU (X:Cx)(P:Hp)(α : Aa Af)(Q:Hp->Prop)(_:Qf)(G:Sto):Prop:=∀ U J Y,Rel X.K U J Y G->qE P J->α<+:Y->Q U
def sJ (X:Cx)(g:G3):MY:=λo i v H Q=>∃ P α S a b d,Rel X.K H P α S/\Rep X.K P α a o/\Rep X.K P α b i/\Rep X.K P α d v/\qI X P α (g a b d S) (OkU X P α Q)
noncomputable def gSb (G J:DE)(g:G3):DG:=λd Y S=>(G Y S).bind λo S1=>(J Y S1).bind λi U=>(g o i d U).bind λ_ N=>.ok Y N
theorem ND {o i:Bt}{fo fi:DE}{g:G3}(ho:PE X o (tD X fo))(hi:PE X i (tD X fi))(hs:sN X (sJ X g))
  (ha:∀ v,assign (.Subscript o i pos) X.env v=(do
   let G <- holding [v] (eval o X.env)
   let O <- holding [v,G] (eval i X.env)
   Sg pos
   holding [v,G,O] (setItem G O v)
   release [v,G,O] []):=by intro _;rfl):PG X (.Subscript o i pos) (tDG X (gSb fo fi g)):=by
 intro B s σ H v u Q I rv h;obtain⟨P,α,zb,S,d,r,re,rp,af⟩:=h;rw[ha];refine Ad (Ed (thn (zM ho I r re af) λG s1 ⟨x,H1,P1,N,d1,S1,J,E⟩=>?_));refine Ad (Ed (thn (zM hi J.inv J.rel J.env (P:=P1) (α:=N) (Ok:=OkE X P1 N Q) (qI.base' J.same J.pre (λza S' ok m n L U r2 A e3 e4=>ok m n L U r2 A (J.same.trans e3) (J.pre.trans e4)) E)) λO s2 ⟨y,n,L,U,d2,S2,G2,Y⟩=>?_));refine Ad (Oh (Ad (Ed (thn (hs B s2 σ n x y v G O u (λj=>Q σ j) G2.inv J.val G2.val rv ⟨L,U,S2,d1,d2,d,G2.rel,Rep.mono G2.same G2.pre _ _ J.rep,G2.rep,Rep.mono (J.same.trans G2.same) (J.pre.trans G2.pre) _ _ rp,?_⟩) λ_ s3 ⟨j,I3,q3⟩=>?_))))
 .cases q:g d1 d2 d S2 with
  |bad=>rw[q] at Y;exact Y
  |ex c x S'=>rw[q] at Y;exact λu s' z=>Y u s' (z.base G2.same G2.pre)
  |ok w S3 =>
   rw[q] at Y;exact λH' P' T r' e1 e2=>Y σ H' P' T r' (G2.env.mono e1 e2) (G2.same.trans e1) (G2.pre.trans e2)
 .exact wpAny_release ⟨σ,j,I3,q3⟩
noncomputable def qV (f:DE)(g:DG):DS:=λY S=>(f Y S).toS Y λd S1=>(g d Y S1).toS Y λJ U=>.nx J U
theorem Z7 {g:DG}{d:D}{env:qF}{P:Hp}{α:Aa Af}{J:Ends}(h:qZ X P α ((g d env S).toS env λenv' U=>.nx env' U) J):qI X P α (g d env S) (OkE X P α J.nx):=by
 cases q:g d env S with
 |bad=>rw[q] at h;exact h
 |ex c x G=>rw[q] at h;exact h
 |ok Y S1=>rw[q] at h;exact h
theorem NI {Y:Bt}{g:DG}(A:PE X e (tD X fa))(E:PG X Y (tDG X g))(hs:Lz [Y] e pos.line X.env=pure false:=by rfl)(hw:Ly [Y] e X.env=pure none:=by rfl)
  (h1:(Hd [Y] X.env).map (·.2)=[assign Y X.env]:=by rfl):PS X (.Assign [Y] e pos) (tDS X (qV fa g)):=by
 intro J s σ H D I h;obtain⟨P,α,N,S,r,re,L⟩:=h;refine wpAny_Assign_stores (thn (mG A I r re L) λv T ⟨x,B,O,U,d,S1,G,q⟩=>?_) hs hw;rw[h1];exact thn (E J T σ B x v _ G.inv G.val ⟨O,U,N,S1,d,G.rel,G.env,G.rep,Z7 q⟩) λ_ w q=>q
theorem NO {i:Ai}{x:Ar}{Y:Ev}(A:X.N.Nodup)(L:PE X e (tD X fa))(hi:X.N[i]? = Ab x:=by rfl)(O:Loc X.env.scope x:=by first|exact AaP rfl|exact wS rfl)(hs:Nq e (Ab (.Name x Y)) pos.line X.env=pure false:=by rfl)
  (E:X.fn x=true\/X.env.scope.names.lookup x=Ab .local:=by first|exact .inl rfl|exact .inr rfl|assumption):PS X (.Assign [.Name x Y] e pos) (tDS X (qV fa (gNm i))):=by
 intro N s σ H D I h;obtain⟨P,α,B,S,r,re,w⟩:=h;refine wpAny_Assign_Name (thn (mG L I r re w) λv o ⟨y,U,T,J,d,S1,G,q⟩=>?_) hs;exact j7 G.inv A hi O G.val (λm j=>⟨_,U,j,q _ U T J G.rel (G.env.set i G.rep) (qE.refl _) (Bh _)⟩) E
noncomputable def W3 (i j:Ai)(env:qF)(S1:Sto):Aa D->Out
 |[x,y]=>.nx ((env.set i (Ab x)).set j (Ab y)) S1
 |_=>.bad
noncomputable def pQ (i j:Ai)(f:DA):DS:=λY S=>(f Y S).toS Y λJ S1=>W3 i j Y S1 J
theorem NM {i j:Ai}{x y:Ar}{f:DA}{N L pt:Ev} {kt k2 pt2} (h:X.calm=true) (hN:X.N.Nodup) (I:PA X [a,b] (tDA X f)) (hi:X.N[i]? = Ab x:=by rfl) (hj:X.N[j]? = Ab y:=by rfl) (B:i≠j:=by decide)
  (A:X.env.scope.names.lookup x=Ab .local:=by rfl) (s:X.env.scope.names.lookup y=Ab .local:=by rfl)
  (hw:Ly [.Tuple [.Name x N,.Name y L] kt pt] (.Tuple [a,b] k2 pt2) X.env=pure (Ab [x,y]):=by rfl)
  (hs:Lz [.Tuple [.Name x N,.Name y L] kt pt] (.Tuple [a,b] k2 pt2) pos.line X.env=pure false:=by rfl) :
  PS X (.Assign [.Tuple [.Name x N,.Name y L] kt pt] (.Tuple [a,b] k2 pt2) pos) (tDS X (pQ i j f)):=psW (R8 h hN hi hj B A s I hw hs) λD σ H ⟨P,α,U,S,r,re,af⟩=>by
 refine⟨P,α,U,S,r,re,?_⟩;have Y:=w5 af;cases q:f U S with
 |bad=>rw[q] at Y;exact Y
 |ex c x S'=>rw[q] at Y;exact Y
 |ok G S1 =>
  rw[q] at Y;intro vs H' v O r' T E rp;have J:qZ X P α (W3 i j U S1 G) D:=Y;cases G with
  |nil=>exact An J
  |cons d G=>cases G with
   |nil=>exact An J
   |cons d' G=>cases G with
    |cons _ _=>exact An J
    |nil =>
     obtain⟨w,ws,rfl,o,t⟩:=rp.cons_inv;obtain⟨w',m,rfl,n,t⟩:=t.cons_inv;rw[t.nil_inv];exact⟨w,w',rfl,J _ _ v O r' (((re.mono T E).set i o).set j n) T E⟩
end
structure ItD (K:Aj)(J:It)(P:Hp)(α : Aa Af)(ds:Aa D):Prop where
 go:∀ i H P1 α1 S,i<ds.length->Rel K H P1 α1 S->qE P P1->α<+:α1->J.go i H
 yld:∀ i H x H' P1 α1 S,i<ds.length->Rel K H P1 α1 S->qE P P1->α<+:α1->J.yld i H x H'->∃ P2 d,ds[i]? = Ab d/\Rel K H' P2 α1 S/\qE P1 P2/\Rep K P2 α1 d x
 stop:∀ i H P1 α1 S,ds.length<=i->Rel K H P1 α1 S->qE P P1->α<+:α1->J.stop i H
abbrev DI:=qF->Sto->Res (Aa D)
def OkI (X:Cx)(P:Hp)(α : Aa Af)(R:It->Hp->Prop)(O:Aa D)(N:Sto):Prop:=∀ J G U Y,Rel X.K G U Y N->qE P U->α<+:Y->ItD X.K J U Y O->R J G
inductive tDI (X:Cx)(f:DI)(σ : _L.St)(H:Hp)(R:It->Hp->Prop):Prop
 |mk (P:Hp) (α : Aa Af) (env:qF) (S:Sto) (r:Rel X.K H P α S) (re:qY X.K P α σ env) (af:qI X P α (f env S) (OkI X P α R)):tDI X f σ H R
noncomputable def vK {β:Type}(o:Am β)(S:Sto):Res β:=match o with
 |some b=>.ok b S
 |none=>.bad
theorem vL {X:Cx}{β:Type}{o:Am β}{P:Hp}{α:Aa Af}{Ok:β->Sto->Prop}(h:qI X P α (vK o S) Ok):∃ b,o=Ab b/\Ok b S:=by
 cases o with
 |none=>exact An h
 |some b=>exact⟨b,rfl,h⟩
theorem x9 {X:Cx}{β:Type}{c:Prop}[Jr c]{r:Res β}{P:Hp}{α : Aa Af}{Ok:β->Sto->Prop}(h:qI X P α (if c then r else .bad) Ok):c/\qI X P α r Ok:=by
 by_cases z:c
 .rw[Be z] at h;exact⟨z,h⟩
 .rw[Bg z] at h;exact An h
theorem eG {X:Cx}{β:Type}{Y:Aa D}{g:D->Res β}{P:Hp}{α:Aa Af}{Ok:β->Sto->Prop}(h:qI X P α (match Y with|[d]=>g d|_=>.bad) Ok):∃ d,Y=[d]/\qI X P α (g d) Ok:=by
 cases Y with
 |nil=>exact An h
 |cons d Y =>
  cases Y with
  |nil=>exact⟨d,rfl,h⟩
  |cons _ _=>exact An h
theorem nR {β:Type}{i:Ai}{f:Aa D->Am β}{g:Aa (Key × D)->Am β}{b:β}(h:(match S[i]? with|some (.lst xs)=>f xs|some (.dct kvs)=>g kvs|_=>none)=Ab b):(∃ xs,S[i]? = Ab (.lst xs)/\f xs=Ab b)\/∃ kvs,S[i]? = Ab (.dct kvs)/\g kvs=Ab b:=by
 cases e:S[i]? with
 |none=>rw[e] at h;exact nn h
 |some m =>
  rw[e] at h;cases m with
  |lst xs=>exact .inl ⟨xs,rfl,h⟩
  |dct kvs=>exact .inr ⟨kvs,rfl,h⟩
  |_=>exact nn h
theorem D3 {β:Type}{i:Ai}{f:Aa D->Am β}{b:β}(h:(match S[i]? with|some (.lst xs)=>f xs|_=>none)=Ab b):∃ xs,S[i]? = Ab (.lst xs)/\f xs=Ab b:=by
 cases e:S[i]? with
 |none=>rw[e] at h;exact nn h
 |some m =>
  rw[e] at h;cases m with
  |lst xs=>exact⟨xs,rfl,h⟩
  |_=>exact nn h
inductive ItV (d:D)(xs:Aa D):Prop
 |tup (e:d=.tup xs)
 |lst (e:d=.lst xs)
noncomputable def bJ {β:Type}(S:Sto)(n:Ai)(f:Aa D->Res β) : Res β:=match S[n]? with
 |some (.lst Y)=>f Y
 |_=>.bad
theorem uW {X:Cx}{β:Type}{n:Ai}{f:Aa D->Res β}{P:Hp}{α:Aa Af}{Ok:β->Sto->Prop}(h:qI X P α (bJ S n f) Ok):∃ xs,S[n]? = Ab (.lst xs)/\qI X P α (f xs) Ok:=by
 unfold bJ at h;cases e:S[n]? with
 |none=>rw[e] at h;exact An h
 |some m =>
  rw[e] at h;cases m with
  |lst xs=>exact⟨xs,rfl,h⟩
  |_=>exact An h
noncomputable def zW:D->Am (Aa D)
 |.tup Y=>Ab Y
 |.lst Y=>Ab Y
 |_=>none
theorem itV {d:D}{xs:Aa D}(h:zW d=Ab xs):ItV d xs:=by
 cases d with
 |tup Y=>exact .tup (congrArg D.tup (Cy h))
 |lst Y=>exact .lst (congrArg D.lst (Cy h))
 |_=>exact nn h
noncomputable def uM (f:DE):DI:=λY S=>(f Y S).bind λd S1=>vK (zW d) S1
section
variable {X:Cx}{K:Aj}{tg e:Bt}{fa:DE}{pos:Ev}
theorem VS {P:Hp}{α:Aa Af}{a:Af}{N:Aa D}(q:SqL K P a vs)(t:qD K P α N vs):ItD K (Itl K a) P α N where
 go:=λi H U J S Y r e _=>⟨vs,vs[i]'(by rw[<- t.length];exact Y),(e.trans r.sub).seq q,by simp⟩
 yld:=λi H x T U J S Y r e L y=>by
  obtain⟨rfl,y⟩:=y;have O:=y vs ((e.trans r.sub).seq q);obtain⟨v,G,B⟩:=t.get (Ap Y);rw[O] at G;cases G;exact⟨U,_,Ap Y,r,qE.refl _,Rep.mono e L _ _ B⟩
 stop:=λi H U J S Y r e _=>⟨vs,(e.trans r.sub).seq q,by rw[<- t.length];exact Y⟩
theorem BD {P:Hp}{α:Aa Af}{a:Af}{N:Aa D}(q:SqT K P a vs)(t:qD K P α N vs):ItD K (Itt K a) P α N where
 go:=λi H U J S Y r e _=>⟨vs,vs[i]'(by rw[<- t.length];exact Y),yN (e.trans r.sub) q,by simp⟩
 yld:=λi H x T U J S Y r e L y=>by
  obtain⟨rfl,y⟩:=y;have O:=y vs (yN (e.trans r.sub) q);obtain⟨v,G,B⟩:=t.get (Ap Y);rw[O] at G;cases G;exact⟨U,_,Ap Y,r,qE.refl _,Rep.mono e L _ _ B⟩
 stop:=λi H U J S Y r e _=>⟨vs,yN (e.trans r.sub) q,by rw[<- t.length];exact Y⟩
theorem rY {pins:Aa (Af × Cq)}{σ:_L.St}{H P:Hp}{α:Aa Af}{s:Ag}{v:V}{d:D}{O:Aa D}(I:Inv X pins σ H s)(r:Rel X.K H P α S)(J:qK v vv)(U:Rep X.K P α d v)(N:zW d=Ab O)
  (q:OkI X P α R O S):Ao (Au X.prog X.w) X.A (Ol vv) (PIE X pins σ tg R) X.xe s:=by
 cases d with
 |tup B =>
  cases N;simp only[Rep] at U;obtain⟨a,vs,rfl,sq,t⟩:=U;cases J;obtain⟨Y,J,p,L⟩:=I.tuple (xH r.sub sq);refine Ha (show s.heap.IsTuple a Y.toArray from p) ?_
  refine⟨s.heap.objs.size,[s.heap.objs.size],_,_,H,rfl,I.kept (t':=s.toks) λb o e=>Ah _ e,QY a _,⟨_,Bc _ rfl,rfl,rfl⟩,λb G=>?_,q _ _ P α r (qE.refl _) (Bh _) (BD sq t)⟩;have e:b=s.heap.objs.size:=by simpa using G
  subst e;exact I.fpOk (Av _) (I.hok.fresh (Av _))
 |lst B =>
  cases N;simp only[Rep] at U;obtain⟨a,vs,rfl,sq,t⟩:=U;cases J;obtain⟨Y,J,p,L⟩:=I.list ((xD r.sub sq).l);refine Gs p.isList ?_;refine⟨s.heap.objs.size,[s.heap.objs.size],_,_,H,rfl,I.kept (t':=s.toks) λb o e=>Ah _ e,dG a _,⟨_,Bc _ rfl,rfl,rfl⟩,λb G=>?_,q _ _ P α r (qE.refl _) (Bh _) (VS sq.l t)⟩;have e:b=s.heap.objs.size:=by simpa using G
  subst e;exact I.fpOk (Av _) (I.hok.fresh (Av _))
 |_=>cases N
theorem OkI.base {P P1:Hp}{α Y:Aa Af}{G:Aa D}(e:qE P P1)(h:α<+:Y)(k:OkI X P α R G S):OkI X P1 Y R G S:=λJ T B U r L O N=>k J T B U r (e.trans L) (h.trans O) N
theorem NG (G:PE X e (tD X fa)):PI X tg e (tDI X (uM fa)):=by
 intro U s σ H R I h;obtain⟨P,α,B,S,r,re,L⟩:=h;refine thn (zM G I r re L) λvv A ⟨v,E,T,O,d,S1,Y,J⟩=>?_;obtain⟨w,N,q⟩:=vL J;exact rY Y.inv Y.rel Y.val Y.rep N (q.base Y.same Y.pre)
noncomputable def wU (lo:Ak)(n:Ai):Aa D:=(Cu n).map λ(i:Ai)=>D.int (lo+(i:Ak))
theorem gJ (lo:Ak)(n:Ai):(wU lo n).length=n:=by simp[wU]
theorem lR {P:Hp}{α:Aa Af}{lo:Ak}{n:Ai}:ItD K (Itr lo n) P α (wU lo n) where
 go:=λi H U J S Y r e _=>by rw[gJ] at Y;exact Y
 yld:=λi H x N U J S Y r e G y=>by
  obtain⟨rfl,rfl⟩:=y;rw[gJ] at Y;exact⟨U,.int (lo+i),by simp[wU,Y],r,qE.refl _,by simp only[Rep]⟩
 stop:=λi H U J S Y r e _=>by rw[gJ] at Y;exact Y
noncomputable def pO (Y:Aa D):Am (Aa D):=match Y with
 |[.int j]=>if -(2 ^ 62)<=j/\j<2 ^ 62 then Ab (wU 0 j.toNat) else none
 |[.int i,.int j]=>if -(2 ^ 62)<=i/\i<2 ^ 62 /\ -(2 ^ 62)<=j/\j<2 ^ 62 then Ab (wU i (j-i).toNat) else none
 |_=>none
noncomputable def yL (f:DA):DI:=λY S=>(f Y S).bind λJ S1=>vK (pO J) S1
noncomputable def asI:D->Am Ak
 |.int i=>Ab i
 |_=>none
theorem fD {d:D}{i:Ak}(h:asI d=Ab i):d=.int i:=by
 cases d with
 |int k=>exact congrArg D.int (Cy h)
 |_=>exact nn h
inductive RngV:Aa D->Aa D->Prop
 |one (j:Ak) (h : -(2 ^ 62)<=j/\j<2 ^ 62):RngV [.int j] (wU 0 j.toNat)
 |two (i j:Ak) (h : -(2 ^ 62)<=i/\i<2 ^ 62 /\ -(2 ^ 62)<=j/\j<2 ^ 62):RngV [.int i,.int j] (wU i (j-i).toNat)
theorem AM (d:D):pO [d]=(asI d).bind λj=>if -(2 ^ 62)<=j/\j<2 ^ 62 then Ab (wU 0 j.toNat) else none:=by cases d <;> rfl
theorem AN (d d':D):pO [d,d']=(asI d).bind λi=>(asI d').bind λj=>if -(2 ^ 62)<=i/\i<2 ^ 62 /\ -(2 ^ 62)<=j/\j<2 ^ 62 then Ab (wU i (j-i).toNat) else none:=by
 cases d with
 |int i=>cases d' <;> rfl
 |_=>rfl
theorem FW {Y its:Aa D}(h:pO Y=Ab its):RngV Y its:=by
 cases Y with
 |nil=>exact nn h
 |cons d Y =>
  cases Y with
  |nil =>
   obtain⟨j,e,h⟩:=Ex.mp ((AM d).symm.trans h);obtain⟨c,rfl⟩:=kY h;rw[fD e];exact .one j c
  |cons U Y =>
   cases Y with
   |nil =>
    obtain⟨i,e,h⟩:=Ex.mp ((AN d U).symm.trans h);obtain⟨j,G,h⟩:=Ex.mp h;obtain⟨c,rfl⟩:=kY h;rw[fD e,fD G];exact .two i j c
   |cons _ _ =>
    have N:∀ J t,pO (d::U::J::t)=none:=λJ t=>by cases d <;> first|rfl|(cases U <;> rfl)
    exact nn ((N _ _).symm.trans h)
theorem nY {P:Hp}{α:Aa Af}{i:Ak}{J:Aa D}(r:qD K P α (.int i::J) vs):∃ Y,vs=.int i::Y/\qD K P α J Y:=by
 obtain⟨w,Y,rfl,p,t⟩:=r.cons_inv;exact⟨Y,congrArg (· :: Y) (by simpa only [Rep] using p),t⟩
theorem PI.weak {Y:Bt}{t t':TI}(h:PI X tg Y t)(w:∀ σ H R,t' σ H R->t σ H R):PI X tg Y t':=λJ s σ H R I q=>h J s σ H R I (w σ H R q)
end
section
variable {X:Cx}{tg a b:Bt}{f:DA}{p pos:Ev}
theorem YZ {e:Bt}{es:Aa Bt}(n:Gl X "range")(hm:X.mg "range" = none)(o:PA X (e::es) (tDA X f))(hs:Bm (e::es) X.env=(false,eval e X.env)::Bm es X.env:=by rfl)(U:(Gh pos (Bm es X.env)).any (·.1)=false:=by rfl) :
  PI X tg (.Call (.Name "range" p) (e::es) [] pos) (tDI X (yL f)):=by
 intro A s σ H R I h;obtain⟨P,α,d,S,r,re,af⟩:=h;refine Call_ (vT I n hm boot_range (Hl (thn (wB o I r re af pos) λus s1 ⟨vs,O,L,Y,ds,S1,T,B,y,m,w,N,E,G⟩=>?_) hs U));obtain⟨za,v,q⟩:=vL G;cases FW v with
 |one j c =>
  obtain⟨x,rfl,J⟩:=nY w;cases J.nil_inv;obtain⟨u,rfl,t,rfl⟩:=jM B;refine call_range_1 (eV T om om c.1 c.2 ?_);have z:=q (Itr 0 j.toNat) O L Y y N E lR;rw[Int.sub_zero];exact z
 |two i j c =>
  obtain⟨x,rfl,J⟩:=nY w;obtain⟨g,rfl,t2⟩:=nY J;cases t2.nil_inv;obtain⟨u,u',rfl,⟨t,rfl⟩,t',rfl⟩:=sL B;exact call_range_2 (eV T c.1 c.2.1 c.2.2.1 c.2.2.2 (q (Itr i (j-i).toNat) O L Y y N E lR))
noncomputable def uA (g:DG)(f:DS):Aa D->qF->Sto->Out
 |[],J,S=>.nx J S
 |d::N,J,S=>(g d J S).toS J λG S1=>match f G S1 with
  |.nx Y U=>uA g f N Y U
  |.ct Y U=>uA g f N Y U
  |.bk Y U=>.nx Y U
  |o=>o
noncomputable def u4 (J:DI)(g:DG)(f:DS):DS:=λY S=>(J Y S).toS Y λU S1=>uA g f U Y S1
inductive LoopW (X:Cx)(P1:Hp)(α1:Aa Af)(g:DG)(f:DS)(ds:Aa D)(D:Ends)(i m:Ai)(σ : _L.St)(H:Hp):Prop
 |mk (hi:i<=ds.length) (hm:m=ds.length-i) (P2:Hp) (α2:Aa Af) (env2:qF) (S2:Sto) (r:Rel X.K H P2 α2 S2) (re:qY X.K P2 α2 σ env2) (e1:qE P1 P2) (e2:α1<+:α2) (af:qZ X P2 α2 (uA g f (ds.drop i) env2 S2) D):LoopW X P1 α1 g f ds D i m σ H
theorem NJ {B:Bt}{fi:DI}{g:DG}{f:DS}(hp:Pm (Au X.prog X.w) X.A X.env X.xe)(hc:X.calm=true)(hi:PI X tg B (tDI X fi))(hg:PG X tg (tDG X g))(hb:PSs X body (tDS X f))
  (hs:∀ x,Gc B X.env x=pure x:=by intro _;rfl):PS X (.For tg B body [] pos) (tDS X (u4 fi g f)):=psW (R7 hp hc hi hg hb hs) λD σ H ⟨P,α,T,S,r,re,af⟩=>by
 refine⟨P,α,T,S,r,re,?_⟩;have N:=w5 af;cases q:fi T S with
 |bad=>rw[q] at N;exact N
 |ex c x S'=>rw[q] at N;exact N
 |ok E S1 =>
  rw[q] at N;have ze:qZ X P α (uA g f E T S1) D:=N;intro J H1 P1 o r1 e1 e2 it;refine⟨LoopW X P1 o g f E D,
   ⟨E.length,Hk _,rfl,P1,o,T,S1,r1,re.mono e1 e2,qE.refl _,Bh _,qZ.base e1 e2 ze⟩,?_⟩
  rintro i m zd H2 ⟨hi,rfl,P2,L,j,S2,r2,za,e3,e4,I⟩;by_cases G:i<E.length
  .refine .inr ⟨it.go i H2 P2 L S2 G r2 e3 e4,LoopW X P1 o g f E D (i+1) (E.length-(i+1)),λzh H' w=>⟨_,?_,w⟩,λx H3 y=>?_⟩
   .omega
   .obtain⟨P3,d,hd,r3,e5,rp⟩:=it.yld i H2 x H3 P2 L S2 G r2 e3 e4 y
    have e:E.drop i=d::E.drop (i+1):=by
     rw[Hy G];rw[Ap G] at hd;rw[Cy hd]
    rw[e] at I;have O:=w5 (qZ.base e5 (Bh _) I);refine⟨P3,L,j,S2,d,r3,za.mono e5 (Bh _),rp,?_⟩;cases q2:g d j S2 with
    |bad=>rw[q2] at O;exact O
    |ex c x S'=>rw[q2] at O;exact O
    |ok A S3 =>
     rw[q2] at O;intro zg H4 P4 zf r4 zb e6 e7;refine⟨P4,zf,A,S3,r4,zb,?_⟩;have Y:=qZ.base e6 e7 O;cases s:f A S3 with
     |bad=>simp only[s] at Y;exact Y
     |ex c x U h=>simp only[s] at Y;exact Y
     |rt d4 h=>simp only[s] at Y;exact Y
     |bk U h=>simp only[s] at Y;exact Y
     |nx U h =>
      simp only[s] at Y;exact λzc H5 P5 v r5 n e8 e9=>⟨G,rfl,P5,v,U,h,r5,n,((e3.trans e5).trans e6).trans e8,(e4.trans e7).trans e9,qZ.base e8 e9 Y⟩
     |ct U h =>
      simp only[s] at Y;exact λzc H5 P5 v r5 n e8 e9=>⟨G,rfl,P5,v,U,h,r5,n,((e3.trans e5).trans e6).trans e8,(e4.trans e7).trans e9,qZ.base e8 e9 Y⟩
  .have e:E.drop i=[]:=Nz om
   rw[e] at I;exact .inl ⟨it.stop i H2 P2 L S2 om r2 e3 e4,I zd H2 P2 L r2 za (qE.refl _) (Bh _)⟩
end
abbrev DF:=Aa D->Sto->Res D
section
variable {X:Cx}{x:Ar}{p pos:Ev}{e:Bt}{es:Aa Bt}{F:DF}{fa:DA}
noncomputable def qL (F:DF)(fa:DA):DE:=λY S=>(fa Y S).bind λJ S1=>F J S1
theorem lH {pins:Aa (Af × Cq)}{U:Ag}{σ:_L.St}{J P P1:Hp}{α Y:Aa Af}{G:Aa D}(B:xQ X u F)(T:Inv X pins σ J U)(E:Rel X.K J P1 Y S1)(N:qJ vs us)
  (L:qD X.K P1 Y G vs) (e1:qE P P1) (e2:α<+:Y) (O:qI X P α (F G S1) (OkV X P α Q)):Ao (Au X.prog X.w) X.A (call u us) (EP X pins σ Q) X.xe U:=B pins σ J U P1 Y S1 vs us G Q T E N L (qS.base e1 e2 O)
theorem YT {id:Em}(E:xQ X (.builtin id) F)(o:Gl X x)(hm:X.mg x=none)(hv:Gi x=Ab (.builtin id))(N:PA X (e::es) (tDA X fa))(L:x ≠ "__name__":=by decide)(U:(x == ("__debug__" : Ar))=false:=by decide)
  (d:Bm (e::es) X.env=(false,eval e X.env)::Bm es X.env:=by rfl) (Y:(Gh pos (Bm es X.env)).any (·.1)=false:=by rfl):PE X (.Call (.Name x p) (e::es) [] pos) (tD X (qL F fa)):=by
 intro G s σ H Q I h;obtain⟨P,α,w,S,r,re,y⟩:=h;refine Hb (vT I o hm hv ?_ L U);exact Pd (thn (wB N I r re y pos) λus n ⟨vs,m,v,A,f,S1,B,g,q,j,c,O,T,J⟩=>lH E B q g c O T J) d Y
theorem ZT {T:Em}(A:xQ X (.type T) F)(g:Gl X x)(hm:X.mg x=none)(hv:Gi x=Ab (.type T))(N:PA X (e::es) (tDA X fa))(L:x ≠ "__name__":=by decide)(U:(x == ("__debug__" : Ar))=false:=by decide)
  (v:Bm (e::es) X.env=(false,eval e X.env)::Bm es X.env:=by rfl) (Y:(Gh pos (Bm es X.env)).any (·.1)=false:=by rfl):PE X (.Call (.Name x p) (e::es) [] pos) (tD X (qL F fa)):=by
 intro G s σ H Q I h;obtain⟨P,α,j,S,r,re,q⟩:=h;refine Hb (vT I g hm hv ?_ L U);exact Hl (thn (wB N I r re q pos) λus i ⟨vs,n,f,w,m,S1,B,c,o,y,d,O,E,J⟩=>lH A B o c d O E J) v Y
end
theorem zC.there {P:Bf}{w:Bx}{H:Hp}{h:Bo}{a:Af}{o:HO}(x:zC P w H h a o):∃ J,h.get? a=Ab J:=by
 cases o with
 |lst U=>obtain⟨_,_,_,_,e⟩:=x;exact⟨_,e⟩
 |tup U=>obtain⟨_,_,_,J,e,_⟩:=x;exact⟨_,e⟩
 |dK Y=>obtain⟨_,_,_,_,o,_,_,e,_⟩:=x;exact⟨_,e⟩
 |dT Y=>obtain⟨_,_,_,_,o,_,_,e,_⟩:=x;exact⟨_,e⟩
 |set S n=>obtain⟨o,_,_,_,e,_⟩:=x;exact⟨_,e⟩
 |ins C N fs=>obtain⟨_,_,_,e,_⟩:=x;exact⟨_,e⟩
 |own y=>obtain⟨_,e⟩:=x;exact⟨_,e⟩
 |xd fs=>obtain⟨_,⟨_,_,_,e,_⟩,_⟩:=x;exact⟨_,e⟩
 |rng lo O=>obtain⟨_,_,_,e⟩:=x;exact⟨_,e⟩
 |frz J u=>obtain⟨e,_⟩:=x;exact⟨_,e⟩
 |tbl G=>exact⟨_,show h.get? a=Ab _ from x⟩
 |met f y=>exact⟨_,show h.get? a=Ab _ from x⟩
 |ext φ => obtain⟨_,e,_⟩:=x;exact e
section
variable {X:Cx}{pins:Aa (Af × Cq)}{σ : _L.St}{H:Hp}{s:Ag}{B h':Bo}
abbrev Fn1 (X:Cx):Prop:=X.ex=[]/\X.stack=X.env::X.outer/\X.env.frame=Ab X.env.locals
theorem Fn1.mem (F:Fn1 X){b:Af}:b∈frs X.stack↔b=X.env.locals\/b∈X.fs:=by
 rw[F.2.1];unfold frs;rw[Gp,F.2.2];exact Az
theorem Old.there (I:Inv X pins σ H s)(F:Fn1 X){b:Af}(o:Old X pins H b):∃ Y,s.heap.get? b=Ab Y:=by
 rcases o with⟨o,e⟩|e|⟨p,J,rfl⟩|⟨x,e⟩
 .exact I.base.there b o e (by rw[F.1];simp)
 .cases q:H b with
  |none=>exact absurd q e
  |some u=>exact zC.there (I.hok b u q)
 .exact⟨_,(I.pin p J).1⟩
 .obtain⟨v,Y,U,_⟩:=I.cell x b e
  exact⟨Y,U⟩
theorem Inv.fly (I:Inv X pins σ H s)(F:Fn1 X)(cv:Cv X pins H B s.heap)(st:B.StaysIn h')(up:s.heap.UpToSlots h'):Inv X pins σ H { s with heap:=h' } /\ Cv X pins H B h':=by
 have T:∀ b o,s.heap.get? b=Ab o->Old X pins H b->b ∉ frs X.stack->h'.get? b=Ab o:=λb o e q n=>st b o (cv b o e q n);have j:∀ b o,X.s₀.heap.get? b=Ab o->b≠X.env.locals:=λb o e=>Cp (Bd (Ba e) I.ok.above);have nofr:∀ b o,X.s₀.heap.get? b=Ab o->b ∉ X.fs->b ∉ frs X.stack:=λb o e n z=>(F.mem.mp z).elim (j b o e) n;have nx:∀ b,b ∉ X.ex:=λb=>by rw[F.1];simp
 have N:∀ b,b∈frs X.stack->∀ o,s.heap.get? b=Ab o->∃ sl,h'.get? b=Ab { o with slots:=sl }:=λb hb o e=>by
  obtain⟨_,w,y,L⟩:=I.stack.mem hb;rw[e] at y;cases y;exact up b o e L
 have Y:∀ x c,X.env.cells.lookup x=Ab c->∀ v,s.heap.IsCell c v->h'.IsCell c v:=λx c e v ⟨o,ho,hd⟩=>by
  obtain⟨sl,q⟩:=up c o ho λvs z=>by rw[hd] at z;cases z
  exact⟨_,q,hd⟩
 refine⟨⟨I.ok,I.os,I.bare,⟨λb o e n hb G=>?_,λb o e n hb G=>?_,I.base.free,λb o e G=>?_,I.base.tups,I.base.frzs,I.base.tbls⟩,?_,λx c e=>?_,I.free,I.freeC,λp h=>?_,λa o e=>?_,I.len⟩,λb o e q n=>?_⟩
 .exact T b o (I.base.keep b o e n hb G) (.inl ⟨o,e⟩) (nofr b o e hb)
 .obtain⟨sl,J⟩:=I.base.slot b o e n hb G
  obtain⟨A,U⟩:=N b (F.mem.mpr (.inr hb)) _ J;exact⟨A,U⟩
 .obtain⟨w,J⟩:=I.base.there b o e G
  by_cases hb:b∈frs X.stack
  .obtain⟨sl,U⟩:=N b hb _ J
   exact⟨_,U⟩
  .exact⟨w,T b w J (.inl ⟨o,e⟩) hb⟩
 .obtain⟨m,O,hl⟩:=I.loc
  refine⟨m,up.ns O,λi x v J U E=>?_⟩;obtain⟨u,r,l⟩:=hl i x v J U E;refine⟨u,r,?_⟩;rcases l with l|⟨k,c,e,z⟩
  .exact .inl l
  .exact .inr ⟨k,c,e,Y x c e _ z⟩
 .obtain⟨v,z⟩:=I.cell x c e
  exact⟨v,Y x c e v z⟩
 .obtain⟨e,n,f,L,d⟩:=I.pin p h
  exact⟨T p.1 p.2 e (.inr (.inr (.inl ⟨p,h,rfl⟩))) λz=>(F.mem.mp z).elim f L,n,f,L,d⟩
 .refine(I.hok a o e).stay (λb u hb q=>?_) (λ_ q=>q) λ_ _ q=>q
  have O:H b≠none:=by
   rcases hb with rfl|hb
   .rw[e];intro z;cases z
   .rw[hb];intro z;cases z
  exact T b u q (.inr (.inl O)) λz=>O (I.stkFree b z)
 .obtain⟨g,J⟩:=Old.there I F q
  have U:=cv b g J q n;have E:=st b g U;rw[e] at E;cases E;exact U
theorem XW {c:Ac}{e:Af}{g:Bo}(I:Inv X pins σ H s)(hm:Wj g s.heap e c args)(G:g.FunFrames X.base X.stack)(U:∀ b o,s.heap.get? b=Ab o->Old X pins H b->g.get? b=Ab o) :
  (Pl g (frs X.stack)).StaysIn g/\g.FunFrames (Pl g (frs X.stack)) X.stack/\Cv X pins H (Pl g (frs X.stack)) s.heap:=
 ⟨λb o q=>Yd _ q,PySem.W.funFrames_hide G λY N a J=>Gz.mpr ⟨Y,N,J⟩,λb o e q n=>Xa _ (U b o e q) n⟩
theorem XH {M:Ky}{A:Br}{E:Ac->Ag->Prop}{c:Ac}{e:Af}{Q:Qf->Ag->Prop}(I:Inv X pins σ H s)(F:Fn1 X)(U:A.frames=Ab X.stack)(f:FlyX X pins H c e s.heap)
  (O:∀ h' B a0,Qb B X.outer e c a0 h'->Inv X pins σ H { s with heap:=h' } -> Cv X pins H B h'->Q () { s with heap:=h' }) : Ao M A (leaving X.env (.ref e)) Q E s:=by
 cases f with
 |new g args N y j =>
  obtain⟨o,q,v⟩:=XW I N y j;rw[F.2.1] at U;refine wpAny_leaves_madeW U F.2.2 o (by rw[<- F.2.1];exact q) N λh' t J L r d=>?_
  obtain⟨G,Y⟩:=Inv.fly I F v J.1 d;exact O h' _ _ J G Y
 |fly B a0 T w =>
  rw[F.2.1] at U;refine wpAny_leaves_onW U F.2.2 (by rw[<- F.2.1];exact T) λh' J L=>?_
  obtain⟨G,Y⟩:=Inv.fly I F w J.1 L;exact O h' _ _ J G Y
end
def CXd (P:Bf)(w:Bx):CXT:=λY H s E u J =>
 ∃ e c U B G,u=.ref e/\J.os=s.os/\Of J.gens/\Un (frs Y) [] H U s.heap J.heap/\HOk P w U J.heap/\Qb B Y e c G J.heap /\
  (∀ b o,J.heap.get? b=Ab o->((∃ o,s.heap.get? b=Ab o)\/U b≠none)->b ∉ frs Y->B.get? b=Ab o)/\E c none U
section
variable {X:Cx}{pins:Aa (Af × Cq)}{σ : _L.St}{H:Hp}{s s':Ag}
theorem L4 {E:XK}(I:Inv X pins σ H s)(F:Fn1 X)(h:CXd X.prog X.w X.stack H s E u s'):∃ e c Y,u=.ref e/\Inv X pins σ Y s'/\FlyX X pins Y c e s'.heap/\E c none Y:=by
 obtain⟨e,c,Y,B,T,rfl,os,J,un,G,O,U,q⟩:=h;have w:Inv X pins σ Y s':=Inv.call' I os un G J (ch:=[]) λb z=>absurd z (by simp)
 refine⟨e,c,Y,rfl,w,.fly B T O λb o eb N n=>U b o eb ?_ n,q⟩;rcases N with⟨o,z⟩|z|⟨p,L,rfl⟩|⟨x,z⟩
 .exact .inl (I.base.there b o z (by rw[F.1];simp))
 .exact .inr z
 .exact .inl ⟨_,(I.pin p L).1⟩
 .obtain⟨v,j,A,_⟩:=I.cell x b z
  exact .inl ⟨j,A⟩
end
structure RoomC (cm:As)(k:Ai)(A:Br):Prop where
 hd:cm=true->A.handled=none
 dp:A.depth+3*k+5<Qs
 un:A.units+16*k+200<Fk
 gd:A.guards=Ab []
theorem RoomC.mono {cm:As}{j k:Ai}{A:Br}(r:RoomC cm k A)(h:j<=k:=by decide):RoomC cm j A:=⟨r.hd,by have:=r.dp;omega,by have:=r.un;omega,r.gd⟩
theorem RoomC.deeper {cm:As}{k:Ai}{A:Br}(r:RoomC cm (k+1) A)(env:Il):RoomC cm k (A.deeper env):=
 ⟨r.hd,by have:=r.dp;show A.depth+1+3*k+5<_;omega,by have:=r.un;show A.units+3+16*k+200<_;omega,r.gd⟩
theorem RoomC.depth {cm:As}{k:Ai}{A:Br}(r:RoomC cm k A):A.depth<Qs:=by have:=r.dp;omega
theorem RoomC.units {cm:As}{k:Ai}{A:Br}(r:RoomC cm k A):A.units+64<Fk:=by have:=r.un;omega
theorem RoomC.of {k:Ai}{A:Br}(r:Room k A):RoomC true k A:=⟨λ_=>r.hd,r.dp,r.un,r.gd⟩
theorem RoomC.any {cm:As}{k:Ai}{A:Br}(r:RoomC cm k A):RoomC false k A:=⟨(λz=>nomatch z),r.dp,r.un,r.gd⟩
theorem RoomC.mark {cm:As}{k:Ai}{A:Br}(r:RoomC cm k A)(h:Am Ac):RoomC false k (A.mark h):=⟨(λz=>nomatch z),r.dp,r.un,r.gd⟩
abbrev Cx.re (X:Cx)(A:Br)(cm:As)(E:Ac->Ag->Prop):Cx:={ X with A:=A,calm:=cm,xe:=E }
theorem Inv.re {X:Cx}{pins:Aa (Af × Cq)}{σ:_L.St}{H:Hp}{s:Ag}(I:Inv X pins σ H s)(A:Br)(cm:As)(E:Ac->Ag->Prop)(Y:A.frames=Ab X.stack)(J:cm=true->A.handled=none):Inv (Cx.re X A cm E) pins σ H s:=
 ⟨⟨I.ok.mod,I.ok.kind,I.ok.glob,I.ok.blt,I.ok.above,I.ok.inj,I.ok.has,I.ok.cab,J,Y,I.ok.stk,I.ok.exf,I.ok.bs,I.ok.bsz,I.ok.noex,I.ok.exfs,I.ok.funs,I.ok.frf⟩,I.os,I.bare,I.base,I.loc,I.cell,I.free,I.freeC,I.pin,I.hok,I.len⟩
theorem Inv.unre {X:Cx}{pins:Aa (Af × Cq)}{σ:_L.St}{H:Hp}{s:Ag}{A:Br}{cm:As}{E:Ac->Ag->Prop}(I:Inv (Cx.re X A cm E) pins σ H s)(Y:X.A.frames=Ab X.stack)(J:X.calm=true->X.A.handled=none):Inv X pins σ H s:=
 ⟨⟨I.ok.mod,I.ok.kind,I.ok.glob,I.ok.blt,I.ok.above,I.ok.inj,I.ok.has,I.ok.cab,J,Y,I.ok.stk,I.ok.exf,I.ok.bs,I.ok.bsz,I.ok.noex,I.ok.exfs,I.ok.funs,I.ok.frf⟩,I.os,I.bare,I.base,I.loc,I.cell,I.free,I.freeC,I.pin,I.hok,I.len⟩
structure FnX (P:Bf)(w:Bx)(K:Aj)(mg:Ar->Am Ac)(base:Bo)(cm:As)(k:Ai)(f:Af)(fd:Fu)(ps:Aa Ar)(sp:Sp):Prop where
 len:∀ vs H Q E,sp vs H Q E->vs.length=ps.length
 run:∀ (A:Br) (outer:Aa Il) (s:Ag) (H:Hp) (args:Args) (us:Aa Ac) (vs:Aa V) (Q:VK) (E:XK),RoomC cm k A->Env0 P w K mg base A outer s H->Om s fd args (ps.zip us)->qJ vs us->sp vs H Q E ->
  Ih (Au P w) A (.call (.ref f) args) (CR (CXd P w) outer P w H s Q E) s
theorem FnX.ok {P:Bf}{w:Bx}{K:Aj}{mg:Ar->Am Ac}{base:Bo}{k:Ai}{f:Af}{fd:Fu}{ps:Aa Ar}(F:FnX P w K mg base true k f fd ps sp):FnOk P w K mg base (CXd P w) k f fd ps sp:=
 ⟨F.len,λA Y s H args us vs Q E J=>F.run A Y s H args us vs Q E (.of J)⟩
theorem FnX.any {P:Bf}{w:Bx}{K:Aj}{mg:Ar->Am Ac}{base:Bo}{cm:As}{k:Ai}{f:Af}{fd:Fu}{ps:Aa Ar}(F:FnX P w K mg base false k f fd ps sp):FnX P w K mg base cm k f fd ps sp:=
 ⟨F.len,λA Y s H args us vs Q E J=>F.run A Y s H args us vs Q E J.any⟩
theorem FnX.imp {P:Bf}{w:Bx}{K:Aj}{mg:Ar->Am Ac}{base:Bo}{cm:As}{k:Ai}{f:Af}{fd:Fu}{ps:Aa Ar}{J:Sp}(F:FnX P w K mg base cm k f fd ps sp)
  (h:∀ vs H Q E,J vs H Q E->sp vs H Q E):FnX P w K mg base cm k f fd ps J:=
 ⟨λvs H Q E q=>F.len vs H Q E (h _ _ _ _ q),λA Y s H args us vs Q E N G U hv hs=>F.run A Y s H args us vs Q E N G U hv (h _ _ _ _ hs)⟩
noncomputable def cxC (cm:As)(P:Bf)(w:Bx)(K:Aj)(mg:Ar->Am Ac)(base:Bo)(N:Aa Ar)(Y:Ar)(scope:El)(f:Af)(cd:Ac)(A:Br)(outer:Aa Il)(s:Ag)(H:Hp)(E:XK):Cx where
 prog:=P
 w:=w
 K:=K
 mg:=mg
 base:=base
 A:=A.deeper (Go Y scope s.heap.objs.size f cd)
 N:=N
 s₀:=s
 H₀:=H
 env:=Go Y scope s.heap.objs.size f cd
 outer:=outer
 stack:=Go Y scope s.heap.objs.size f cd::outer
 ex:=[]
 calm:=cm
 fn:=λ_=>true
 pn:=[]
 xe:=λe U=>Ao (Au P w) (A.deeper (Go Y scope s.heap.objs.size f cd)) (leaving (Go Y scope s.heap.objs.size f cd) e) (λ_ J=>CXd P w outer H s E e J) (λG J=>CXd P w outer H s E G J) U
section
variable {P:Bf}{w:Bx}{K:Aj}{mg:Ar->Am Ac}{base:Bo}{cm:As}{N:Aa Ar}{qual:Ar}{scope:El}{f:Af}{cd:Ac}{A:Br}{outer:Aa Il}{s:Ag}{H:Hp}{E:XK}
theorem YQ:Pm (Au P w) (A.deeper (Go qual scope s.heap.objs.size f cd)) (Go qual scope s.heap.objs.size f cd) (cxC cm P w K mg base N qual scope f cd A outer s H E).xe:=PassesOwn.leaving (Q₁:=λe Y=>CXd P w outer H s E e Y)
abbrev xeL (P:Bf)(w:Bx)(A:Br)(env:Il)(outer:Aa Il)(H:Hp)(s:Ag)(E:XK):Ac->Ag->Prop:=λe U=>Ao (Au P w) (A.deeper env) (leaving env e) (λ_ Y=>CXd P w outer H s E e Y) (λJ Y=>CXd P w outer H s E J Y) U
theorem rB {X:Cx}{T:Hp}{α:Aa Af}{c:Ac}{x:D}{s':Ag}(hA:X.A=A.deeper X.env)(k:XOk X T α c x S u s')
  (q:∀ L O J,Rel X.K L O J S->qE T O->α<+:J->E c none L):xeL X.prog X.w A X.env X.outer X.H₀ X.s₀ E u s':=by
 obtain⟨e,y,σ,j,d,U,rfl,I,r,m,e2,F,g⟩:=k;unfold xeL;rw[<- hA];refine XH I F I.ok.frames g λh' B h i Y v=>?_;refine⟨e,c,j,B,h,rfl,Y.os,Y.bare,by have z:=Y.base;rw[F.1] at z;exact z,Y.hok,i,λb o eb G n=>v b o eb ?_ λz=>?_,q j d U r m e2⟩
 .rcases G with z|z
  .exact .inl z
  .exact .inr (.inl z)
 .rcases (Fn1.mem F).mp z with z|z
  .subst z
   rcases G with⟨o',e'⟩|z
   .exact absurd (Ba e') (NE.mpr Y.ok.above)
   .exact z Y.free
  .exact n z
theorem oU {ps:Aa Ar}{U:Ag}(S:FnScope N ps scope)(G:cm=true->A.handled=none)(Y:Env0 P w K mg base A outer s H)(O:vs.length=ps.length)(r:qJ vs us)
  (x:InCallC s s.heap.objs.size (Xe (Go qual scope s.heap.objs.size f cd).kindOf (ps.zip us) λ_=>none) (Hw (s.heap.objs.size+1) scope.names []) (Xf (Go qual scope s.heap.objs.size f cd).kindOf (ps.zip us) λ_=>none) U) :
  Inv (cxC cm P w K mg base N qual scope f cd A outer s H E) [] (_L.xU N vs) H U:=by
 have I:=lQ (CX:=CXd P w) (E:=E) (A:={ A with handled:=none }) S rfl ⟨Y.frames,Y.mod,Y.bs,Y.bsz,Y.funs,Y.frf,Y.hok,Y.bare⟩ O r x
 have J:=Inv.re I (A.deeper (Go qual scope s.heap.objs.size f cd)) cm (cxC cm P w K mg base N qual scope f cd A outer s H E).xe (Pg Y.frames) G;exact J
end
theorem X3 {P:Bf}{w:Bx}{K:Aj}{mg:Ar->Am Ac}{base:Bo}{cm:As}{k:Ai}{f:Af}{U:Ar}{G:Po}{scope:El}{oc:Ac}{an:Am Af}{i:Ay (Am Ac)}{x:Ar}{kV g pm O ct:Ac}{N ps:Aa Ar}
  {A:Br} {Y:Aa Il} {s:Ag} {H:Hp} {args:Args} {us:Aa Ac} {vs:Aa V} {Q:VK} {E:XK} (lk:K.lookup f=Ab ⟨oc,od,.func (Gw x U G body scope .none kV g pm an O ct),i⟩) (d:Ll K O U=true) (S:FnScope N ps scope) (hl:vs.length=ps.length) (hr:RoomC cm (k+1) A)
  (c:Env0 P w K mg base A Y s H) (hb:Om s (Gw x U G body scope .none kV g pm an O ct) args (ps.zip us)) (r:qJ vs us)
  (T:∃ t,PSs (cxC cm P w K mg base N U scope f O A Y s H E) body t/\t { nx:=λ_ L=>Q .non L,rt:=Q } (_L.xU N vs) H) :
  Ih (Au P w) A (.call (.ref f) args) (CR (CXd P w) Y P w H s Q E) s:=by
 have KX:K.In s.heap:=c.mod.kin.keeps λb o e=>(c.bs b o e).1;have lim:s.heap.NoLimit:=c.mod.nolimit.keeps λb o e=>(c.bs b o e).1;have j:∀ y∈ps.zip us,scope.names.lookup y.1=Ab .local \/ (scope.names.lookup y.1=Ab .cell/\((Hw (s.heap.objs.size+1) scope.names []).lookup y.1).isSome=true):=λ⟨n,v⟩ hy=>by
  rcases S.par n (Mj hy).1 with q|q
  .exact .inl q
  .exact .inr ⟨q,Kr _ _ _ (.inl q)⟩
 refine Vr hr.depth (KX _ _ lk) rfl S.co S.gen rfl (Ye KX d) (hb _ _ _ _ ?_);refine Ro S.kind j λza he s1 x=>?_;subst he;refine⟨lim.keeps x.toInCall.keep,codeAny_func ?_⟩;obtain⟨t,ht,hq⟩:=T;have I:Inv (cxC cm P w K mg base N U scope f O A Y s H E) [] (_L.xU N vs) H s1:=oU S hr.hd c hl r x;refine Gm (ht [] s1 (_L.xU N vs) H _ I hq) (λfl m hs=>?_) λe m hs=>hs;have fin:∀ {B : _L.St} {L:Hp} {v:V} {u:Ac},Inv (cxC cm P w K mg base N U scope f O A Y s H E) [] B L m->qK v u->Q v L->CE Y P w H s Q u m:=
  λ{B L v u} J h q=>⟨v,L,J.os,J.bare,J.base,J.hok,h,q⟩
 cases fl with
 |ret u =>
  obtain⟨v,B,L,J,h,q⟩:=hs;exact fin J h q
 |next =>
  obtain⟨B,L,J,q⟩:=hs;exact fin (v:=V.non) (u:=Dk) J rfl q
 |brk =>
  obtain⟨_,_,_,q⟩:=hs;exact An q
 |cont =>
  obtain⟨_,_,_,q⟩:=hs;exact An q
def kJ (K:Aj)(x:Ar)(Y:Ac):Prop:=∀ c T,Dt K x=Ab (c,T)->Y=.ref c
theorem L5 {P:Bf}{w:Bx}{K:Aj}{mg:Ar->Am Ac}{base:Bo}{cm:As}{k:Ai}{f:Af}{x U:Ar}{st:EQ}{fd:Fu}{N ps:Aa Ar}(F:Fun K x U st f fd)(S:FnScope N ps (qH st))
  (O:∀ vs H Q E,sp vs H Q E->vs.length=ps.length)
  (G:∀ (J:Ac) (A:Br) (Y:Aa Il) (s:Ag) (H:Hp) (vs:Aa V) (Q:VK) (E:XK),fd.code=J/\Mod K mg base->RoomC cm k (A.deeper (Go U (qH st) s.heap.objs.size f J))->sp vs H Q E ->
   ∃ t,PSs (cxC cm P w K mg base N U (qH st) f J A Y s H E) (zL st) t/\t { nx:=λ_ q=>Q .non q,rt:=Q } (_L.xU N vs) H) :
  FnX P w K mg base cm (k+1) f fd ps sp:=by
 obtain⟨v,od,kV,y,c,d,J,m,g,rfl,o,L⟩:=F.ex;exact⟨O,λA Y s H args us vs Q E I T j r B=>X3 o L S (O _ _ _ _ B) I T j r (G J A Y s H vs Q E ⟨rfl,T.mod⟩ (I.deeper _) B)⟩
noncomputable def v8 (n:Ai)(Y:Aa D):qF:=Y.map Ab++Dg (n-Y.length) none
noncomputable def OY:Out->Res D
 |.rt d S=>.ok d S
 |.nx _ S=>.ok .non S
 |.ex c x _ S=>.ex c x S
 |_=>.bad
noncomputable def qP (n:Ai)(g:DS):DF:=λY S=>OY (g (v8 n Y) S)
def spR (K:Aj)(P:Hp)(α : Aa Af)(R:Res D)(Q:VK)(E:XK):Prop:=match R with
 |.ok d G=>∀ v U J Y,Rel K U J Y G->qE P J->α<+:Y->Rep K J Y d v->Q v U
 |.ex c _ G=>∀ U J Y,Rel K U J Y G->qE P J->α<+:Y->E c none U
 |.bad=>Fn
def spD (K:Aj)(n:Ai)(F:DF):Sp:=λvs H Q E=>vs.length=n/\∃ P α Y S,Rel K H P α S/\qD K P α Y vs/\spR K P α (F Y S) Q E
theorem QH {K:Aj}{P:Hp}{α:Aa Af}{N:Aa Ar}{Y:Aa D}(r:qD K P α Y vs):qY K P α (_L.xU N vs) (v8 N.length Y):=by
 refine⟨by simp[v8,_L.xU,r.length],λi d e=>?_⟩
 unfold v8 at e;unfold _L.xU;by_cases J:i<Y.length
 .rw[Bi (by simpa using J),Dn] at e
  rw[Bi (by rw[Aq,<- r.length];exact J),Dn]
  cases q:Y[i]? with
  |none=>rw[q] at e;cases e
  |some O =>
   rw[q] at e;cases e;obtain⟨v,U,G⟩:=r.get q;exact⟨v,by rw[U];rfl,G⟩
 .rw[Cw (by simpa using J),Nc] at e
  split at e <;> cases e
section
variable {P:Bf}{w:Bx}{K:Aj}{mg:Ar->Am Ac}{base:Bo}{cm:As}
theorem sS {G:Ar}{scope:El}{f:Af}{O:Ac}{A:Br}{Y:Aa Il}{s:Ag}{H m:Hp}{E:XK}{N:Aa Ar}{g:DS}{α:Aa Af}{o:Aa D}{n:Sto}(i:PSs (cxC cm P w K mg base N G scope f O A Y s H E) body (tDS (cxC cm P w K mg base N G scope f O A Y s H E) g))
  (r:Rel K H m α n) (rp:qD K m α o vs) (J:spR K m α (qP N.length g o n) Q E):∃ t,PSs (cxC cm P w K mg base N G scope f O A Y s H E) body t/\t { nx:=λ_ L=>Q .non L,rt:=Q } (_L.xU N vs) H:=by
 refine⟨_,i,m,α,v8 N.length o,n,r,QH rp,?_⟩;unfold qP at J;cases q:g (v8 N.length o) n with
 |rt d S1=>rw[q] at J;exact λv L I U y T j h=>J v L I U y T j h
 |nx B S1=>rw[q] at J;exact λza L I U y e T j=>J .non L I U y T j (by simp only[Rep])
 |bk B S1=>rw[q] at J;exact An J
 |ct B S1=>rw[q] at J;exact An J
 |ex c x B S1=>rw[q] at J;exact λu s' z=>rB (A:=A) rfl z λL I U y T j=>J L I U y T j
 |bad=>rw[q] at J;exact An J
theorem fnX {x J:Ar}{st:EQ}{f:Af}{fd:Fu}{N ps:Aa Ar}{k:Ai}{g:DS}(F:Fun K x J st f fd)(S:FnScope N ps (qH st))
  (G:∀ (U:Ac) (A:Br) (Y:Aa Il) (s:Ag) (H:Hp) (E:XK),fd.code=U/\Mod K mg base->RoomC cm k (A.deeper (Go J (qH st) s.heap.objs.size f U)) ->
   PSs (cxC cm P w K mg base N J (qH st) f U A Y s H E) (zL st) (tDS (cxC cm P w K mg base N J (qH st) f U A Y s H E) g)) :
  FnX P w K mg base cm (k+1) f fd ps (spD K ps.length (qP N.length g)):=by
 refine L5 F S (λvs H Q E h=>h.1) λU A Y s H vs Q E O L h=>?_;obtain⟨y,I,α,j,q,r,T,B⟩:=h;exact sS (G U A Y s H E O L) r T B
end
section
variable {X:Cx}{cm:As}{k:Ai}{f:Af}{fd:Fu}{ps:Aa Ar}{F:DF}{x:Ar}{p pos:Ev}{e:Bt}{es:Aa Bt}{fa:DA}{n:Ai}
noncomputable def qM (n:Ai)(F:DF)(fa:DA):DE:=λY S=>(fa Y S).bind λJ S1=>if J.length=n then F J S1 else .bad
def EX (X:Cx)(P:Hp)(α : Aa Af)(R:Res D):XK:=λc _ N=>match R with
 |.ex G _ U=>c=G/\∃ J Y,Rel X.K N J Y U/\qE P J/\α<+:Y
 |_=>Fn
theorem c5 {P:Hp}{α:Aa Af}{R:Res D}(J:qS X P α R Q):spR X.K P α R Q (EX X P α R):=by
 cases R with
 |ok d U=>exact J
 |ex c x U=>exact λL O Y B N G=>⟨rfl,O,Y,B,N,G⟩
 |bad=>exact J
theorem fG {pins:Aa (Af × Cq)}{σ:_L.St}{H:Hp}{s:Ag}{P:Hp}{α:Aa Af}{R:Res D}(B:(∃ c x G,R=.ex c x G)->Fn1 X)(I:Inv X pins σ H s)(N:qS X P α R Q)
  (h:Ih (Au X.prog X.w) X.A (.call u ⟨us,[]⟩) (CR (CXd X.prog X.w) X.stack X.prog X.w H s Q (EX X P α R)) s):Ao (Au X.prog X.w) X.A (call u us) (EP X pins σ Q) X.xe s:=by
 refine Qh (Kj h λr E Y=>?_);cases r with
 |error u =>
  have Y:CXd X.prog X.w X.stack H s (EX X P α R) u E:=Y;cases R with
  |ok d G=>obtain⟨_,_,_,_,_,_,_,_,_,_,_,_,q⟩:=Y;exact An q
  |bad=>exact An N
  |ex o g G =>
   have O:=B ⟨_,_,_,rfl⟩;obtain⟨a,c,w,rfl,j,J,rfl,L,U,y,T,A⟩:=L4 I O Y;exact N _ _ ⟨a,pins,σ,w,L,U,rfl,j,y,T,A,O,J⟩
 |ok J =>
  cases J with
  |ret u=>exact I.after Y
  |next=>exact An Y
  |brk=>exact An Y
  |cont=>exact An Y
theorem FY {pins:Aa (Af × Cq)}{σ:_L.St}{H:Hp}{s:Ag}{P:Hp}{α:Aa Af}{U:Aa D}(G:FnX X.prog X.w X.K X.mg X.base cm k f fd ps (spD X.K n F))(w:RoomC cm k X.A)(L:vN X.K fd ps [])(A:Fn1 X)
  (I:Inv X pins σ H s) (r:Rel X.K H P α S) (O:qJ vs us) (B:qD X.K P α U vs) (T:U.length=n) (N:qS X P α (F U S) Q):Ao (Au X.prog X.w) X.A (call (.ref f) us) (EP X pins σ Q) X.xe s:=by
 have J:spD X.K n F vs H Q (EX X P α (F U S)):=⟨by rw[<- B.length];exact T,P,α,U,S,r,B,c5 N⟩
 have E:us.length=ps.length:=by rw[<- O.length];exact G.len _ _ _ _ J
 have Y:=L s us I.kIn (by rw[Fv];exact E)
 rw[Fv] at Y;exact fG (λ_=>A) I N (G.run X.A X.stack s H ⟨us,[]⟩ us vs Q _ w I.env0 Y O J)
theorem lK {env:qF}{S:Sto}{P:Hp}{α:Aa Af}{Y:Aa D}{Ok:D->Sto->Prop}(h:qI X P α (if Y.length=n then F Y S1 else .bad) Ok):Y.length=n/\qI X P α (F Y S1) Ok:=by
 by_cases J:Y.length=n
 .rw[Be J] at h;exact⟨J,h⟩
 .rw[Bg J] at h;exact An h
theorem GT (G:FnX X.prog X.w X.K X.mg X.base cm k f fd ps (spD X.K n F))(m:RoomC cm k X.A)(q:Fn1 X)(d:Gl X x)(hm:X.mg x=Ab (.ref f))(E:Fi X.K (.ref f)=true)(L:vN X.K fd ps [])
  (T:PA X (e::es) (tDA X fa)) (U:(x == ("__debug__" : Ar))=false:=by decide) (he:Bm (e::es) X.env=(false,eval e X.env)::Bm es X.env:=by rfl) (Y:(Gh pos (Bm es X.env)).any (·.1)=false:=by rfl) :
  PE X (.Call (.Name x p) (e::es) [] pos) (tD X (qM n F fa)):=by
 intro B s σ H Q I h;obtain⟨P,α,env,S,r,re,g⟩:=h;refine Hb (uF I d hm ?_ U);refine Rh (h₀:=X.base) I.ok.mod.kin E (thn (wB T I r re g pos) λus s1 ⟨vs,H1,P1,y,ds,S1,O,v,c,o,i,A,w,J⟩=>⟨O.kIn,?_⟩) he Y;obtain⟨j,N⟩:=lK (env:=env) (S:=S) J;exact FY G m L q O c v i j (qS.base A w N)
end
noncomputable abbrev sR:Aa Ac:=[.type "ValueError",.type "Exception",.type "BaseException",.type "object"]
noncomputable def HY:Ac->As
 |.str _ _=>true
 |_=>false
noncomputable def kG (K:Aj)(N:Af):As:=(match Oq N K with
 |some o=>match o.data with
  |.dict Y _=>Y.toList.all λe=>HY e.key
  |_=>false
 |none=>false)&&decide (Dw K N "__init__" = Ab none)
theorem y7 {K:Aj}{N:Af}(h:kG K N=true):AaL K N=true/\Dw K N "__init__" = Ab none:=by
 unfold kG at h;rw[Ax,Ch] at h;refine⟨?_,h.2⟩;have Y:=h.1;unfold AaL;cases e:Oq N K with
 |none=>rw[e] at Y;cases Y
 |some o =>
  rw[e] at Y;obtain⟨O,od,U,sl⟩:=o;cases U with
  |dict J G =>
   simp only at Y ⊢;rw[Array.all_toList] at Y;refine Eq.trans (congrArg (λf=>Array.all J f) (funext λe=>?_)) Y;cases e.key <;> rfl
  |_=>cases Y
noncomputable def sG (K:Aj)(C:Af)(f:Ac->Zo->Ay (Am Ac)->As):As:=match Oq C K with
 |some o=>(match o.data with|.cls Y=>f o.cls Y o.slots|_=>false)
 |none=>false
theorem eF {K:Aj}{f:Ac->Zo->Ay (Am Ac)->As}(h:sG K C f=true):∃ Y od cd sl,Oq C K=Ab ⟨Y,od,.cls cd,sl⟩/\f Y cd sl=true:=by
 unfold sG at h;cases e:Oq C K with
 |none=>rw[e] at h;exact Ja h
 |some o =>
  rw[e] at h;obtain⟨Y,od,J,sl⟩:=o;cases J with
  |cls cd=>exact⟨Y,od,cd,sl,rfl,h⟩
  |_=>exact Ja h
noncomputable def fH (K:Aj)(C A:Af):As:=sG K C λU Y sl=>sG K A λ_ J _=>decide (U=.type "type")&&(decide (Y.mro=.ref C::.ref A::sR)&&(!Y.hasDel&&(kG K Y.ns&&(kG K J.ns&&(decide (sl.toList.length=6)&&decide (sl.toList[4]? = Ab (Ab (.builtin "ValueError.__new__"))))))))
inductive ExcO (h:Bo)(C:Af):Prop
 |mk (nm q:Ar) (N:Af) (bs bm:Aa Ac) (hdct:As) (sn:Aa Ar) (sub:Aa Ac) (ab:As) (col:Am As) (dd:Am Af) (k0 k1 k2 k3 k5:Am Ac) (mN:Ar->Am Ac) (hC:h.get? C=Ab (excClassObj nm q C N bs bm hdct sn sub ab col dd k0 k1 k2 k3 k5 "ValueError.__new__")) (hN:h.Ns N mN) (hni:mN "__init__" = none) (T:OwnTail h sR bm):ExcO h C
theorem nV {β:Type}{l:Aa β}{n:Ai}(h:l.length=n+1):∃ a t,l=a::t/\t.length=n:=by
 cases l with
 |nil=>exact Nat.noConfusion h
 |cons a t=>exact⟨a,t,rfl,Nat.succ.inj h⟩
theorem six {β:Type}{l:Aa β}(h:l.length=6):∃ a b c d e f,l=[a,b,c,d,e,f]:=by
 obtain⟨a,t,Y,h⟩:=nV h;obtain⟨b,E,J,h⟩:=nV h;obtain⟨c,L,G,h⟩:=nV h;obtain⟨d,T,N,h⟩:=nV h;obtain⟨e,I,U,h⟩:=nV h;obtain⟨f,B,O,h⟩:=nV h;exact⟨a,b,c,d,e,f,by rw[Y,J,G,N,U,O,Kk.mp h]⟩
theorem DX {cd:Zo}{Y:Aa Ac}{k0 k1 k2 k3 U k5:Am Ac}{n:Em}(hm:cd.mro=.ref C::Y)(G:cd.hasDel=false)(hs:sl.toList=[k0,k1,k2,k3,U,k5])(J:sl.toList[4]? = Ab (Ab (.builtin n))) :
  (⟨.type "type",od,.cls cd,sl⟩:Cq)=excClassObj cd.name cd.qualname C cd.ns cd.bases Y cd.hasDict cd.slotNames cd.subclasses cd.abstract cd.collection od k0 k1 k2 k3 k5 n:=by
 rw[hs] at J;cases J;cases cd;cases sl;cases hm;cases G;cases hs;rfl
theorem PU {K:Aj}{h:Bo}{A:Af}{cd:Zo}(KI:K.In h)(e:Oq C K=Ab ⟨.type "type",od,.cls cd,sl⟩)(h2:cd.mro=.ref C::.ref A::sR)(h3:cd.hasDel=false)(Y:kG K cd.ns=true)(B:sl.toList.length=6)(U:sl.toList[4]? = Ab (Ab (.builtin "ValueError.__new__")))(T:OwnTail h sR (.ref A::sR)):ExcO h C:=by
 obtain⟨L,G,O,E,x,N,J⟩:=six B;exact⟨_,_,_,_,_,_,_,_,_,_,_,L,G,O,E,N,_,(KI _ _ e).trans (congrArg Ab (DX h2 h3 J U)),.of_isNs (Yi KI (y7 Y).1),Tf KI (y7 Y).1 (y7 Y).2,T⟩
theorem PV {K:Aj}{h:Bo}{A:Af}(KI:K.In h)(z:fH K C A=true):ExcO h C:=by
 obtain⟨I,od,H,sl,e,z⟩:=eF z;obtain⟨w,L,T,E,B,z⟩:=eF z;have O:=Fo.mp z;have U:=Fo.mp O.2;have N:=Fo.mp U.2;have J:=Fo.mp N.2;have Y:=Fo.mp J.2;have G:=Fo.mp Y.2;rw[Bv O.1] at e;exact PU KI e (Bv U.1) (Nr _▸N.1) J.1 (Bv G.1) (Bv G.2) (.own (KI _ _ B) (.of_isNs (Yi KI (y7 Y.1).1)) (Tf KI (y7 Y.1).1 (y7 Y.1).2) .base)
section
variable {X:Cx}{pos:Ev}{fa:DA}
noncomputable def uY (c:Ac)(fa:DA):DS:=λY S=>(fa Y S).toS Y λJ S1=>if J.length<=lim then .ex c .non Y S1 else .bad
inductive GotAS (X:Cx)(pins:Aa (Af × Cq))(σ : _L.St)(env:qF)(P:Hp)(α : Aa Af)(us:Aa Ac)(s1:Ag)(k:Aa D->Sto->Out)(E:Ends):Prop
 |mk (vs:Aa V) (H1 P1:Hp) (α1:Aa Af) (ds:Aa D) (S1:Sto) (I:Inv X pins σ H1 s1) (rv:qJ vs us) (r:Rel X.K H1 P1 α1 S1) (re:qY X.K P1 α1 σ env) (rp:qD X.K P1 α1 ds vs) (e1:qE P P1) (e2:α<+:α1) (q:qZ X P1 α1 (k ds S1) E):GotAS X pins σ env P α us s1 k E
theorem GQ {es:Aa Bt}{k:Aa D->Sto->Out}{pins:Aa (Af × Cq)}{s:Ag}{σ:_L.St}{H P:Hp}{α:Aa Af}{env:qF}{D:Ends}(o:PA X es (tDA X fa))(I:Inv X pins σ H s)(r:Rel X.K H P α S)
  (re:qY X.K P α σ env) (E:qZ X P α ((fa env S).toS env k) D) (pos:Ev) :
  Ao (Au X.prog X.w) X.A (spliced (Gh pos (Bm es X.env))) (λus O=>GotAS X pins σ env P α us O k D) X.xe s:=by
 have J:qI X P α ((fa env S).bind λd S=>.ok d S) λd S=>qZ X P α (k d S) D:=by
  have:=w5 E;cases q:fa env S <;> rw[q] at this <;> exact this
 exact thn (wB o I r re J pos) λu O ⟨vs,T,B,Y,y,S1,L,w,A,U,j,G,N,q⟩=>⟨vs,T,B,Y,y,S1,L,w,A,U,j,G,N,qZ.base G N q⟩
theorem V3 {x:Ar}{Ae:Af}{J:Bt}{Y:Aa Bt}{np U:Ev}(hc:X.calm=true)(v:Fn1 X)(hg:Gl X x)(hm:X.mg x=Ab (.ref C))(n:fH X.K C Ae=true)(m:PA X (J::Y) (tDA X fa))
  (w:(x == ("__debug__" : Ar))=false:=by decide) (g:Bm (J::Y) X.env=(false,eval J X.env)::Bm Y X.env:=by rfl) (j:(Gh U (Bm Y X.env)).any (·.1)=false:=by rfl) :
  PS X (.Raise (Ab (.Call (.Name x np) (J::Y) [] U)) none pos) (tDS X (uY (.ref C) fa)):=by
 intro O s σ H D I h;obtain⟨P,α,i,S,r,re,af⟩:=h;obtain⟨nm,qn,N,bs,tl,hdct,sn,sub,ab,col,dd,k0,k1,k2,k3,k5,mN,hC,hN,E,T⟩:=PV I.mod.kin n;refine wpAny_Raise_call_subT (C:=C) (nm:=nm) (q:=qn) (N:=N) (bs:=bs) (bm:=tl) (hdct:=hdct) (sn:=sn) (sub:=sub) (ab:=ab) (col:=col) (dd:=dd) (k0:=k0) (k1:=k1) (k2:=k2) (k3:=k3) (k5:=k5)
  Rq (mN:=mN) (T.hasType Rq.hasBase) (I.ok.hd hc) (by rw[g];show (false||(Gh U (Bm Y X.env)).any (·.1))=false;rw[j];rfl) E (uF I hg hm ⟨rfl,?_⟩ w)
 have run:=GQ m I r re af U;rw[g] at run ⊢;refine Wv (thn run λus c ⟨vs,H1,P1,L,d,S1,G,rv,r1,za,rp,e1,e2,q⟩=>?_);have hl:us.length=d.length:=by rw[rp.length,rv.length]
 by_cases B:d.length<=lim
 .rw[Be B] at q
  refine⟨rfl,by rw[hl,<- zH];exact B,G.bk _ _ hC,hN.keeps G.bk,T.keeps G.bk,λh' e hm=>q _ _ ⟨e,O,σ,H1,P1,L,rfl,G.kept (t':=c.toks) hm.keeps,r1,qE.refl _,Bh _,v,.new c.heap us hm G.stack λb o eb A=>?_⟩⟩
  obtain⟨o1,y⟩:=Old.there G v A;have f:=hm.keeps b o1 y;rw[eb] at f;cases f;exact y
 .rw[Bg B] at q;exact An q
end
section
variable {X:Cx}{pins:Aa (Af × Cq)}{σ : _L.St}{H:Hp}{s:Ag}
theorem Q3 {M:Ky}{A:Br}{E:Ac->Ag->Prop}{base h:Bo}{env:Il}{Y:Aa Il}{L e:Af}{N:Ac}{Q:Qf->Ag->Prop}
  (O:A.frames=Ab (env::Y)) (B:env.frame=Ab L) (G:base.StaysIn h) (d:h.FunFrames base (env::Y)) (U:Wj h s.heap e N args)
  (f:∀ h' a0,Heap.HeldW base (env::Y) e N a0 L h'->s.heap.UpToSlots h'->Q () { s with heap:=h' }) : Ao M A (Sh (.ref e) env) Q E s:=by
 obtain⟨t,T,y,r⟩:=U.there;have fresh:∀ b,h.get? b=none->base.get? b=none:=λb J=>by
  cases q:base.get? b with
  |none=>rfl
  |some w=>have z:=G b w q;rw[J] at z;cases z
 unfold Sh;simp only[B];refine Ad (Dx T rfl (x:=.none) rfl ?_);rw[Bg (by decide)]
 refine wpAny_entryW O (d.of_keeps λb o J _=>⟨o,U.keeps b o J,rfl⟩) B T (λb o J=>U.keeps b o (G b o J)) (fresh e U.new) rfl (by simp) (a0:=.ref t) rfl λh' g=>?_
 obtain⟨j,v,c,I⟩:=g;exact f h' (.ref t) ⟨j,fresh e U.new,v,c⟩ I
theorem U1 {M:Ky}{A:Br}{E:Ac->Ag->Prop}{c:Ac}{e:Af}{Q:Qf->Ag->Prop}(I:Inv X pins σ H s)(F:Fn1 X)(G:A.frames=Ab X.stack)(f:FlyX X pins H c e s.heap)
  (i:∀ h' B a0,Qb B X.stack e c a0 h'->Inv X pins σ H { s with heap:=h' } -> Cv X pins H B h'->Q () { s with heap:=h' }) :
  Ao M A (Sh (.ref e) X.env) (λ_ J=>Ao M A (Zp (.ref e) none) Q E J) E s:=by
 have Y:∀ (B:Bo) (a0:Ac) (U:Bo),Cv X pins H B s.heap->Heap.HeldW B X.stack e c a0 X.env.locals U->s.heap.UpToSlots U->Ao M A (Zp (.ref e) none) Q E { s with heap:=U }:=λB a0 U N n up=>by
  refine wpAny_landsW (s:={ s with heap:=U }) n λd w v=>?_
  obtain⟨x,L⟩:=Inv.fly I F N w.1 (up.trans v);exact i d B a0 w x L
 cases f with
 |new g args j o q =>
  obtain⟨m,r,h⟩:=XW I j o q;rw[F.2.1] at G;exact Q3 G F.2.2 m (by rw[<- F.2.1];exact r) j λh' a0 O T=>Y _ a0 h' h (F.2.1▸O) T
 |fly B a0 y N =>
  rw[F.2.1] at G;exact wpAny_looks_onW G F.2.2 (by rw[<- F.2.1];exact y) λh' O T=>Y B a0 h' N (by rw[F.2.1];exact O) T
theorem aJ {B:Bo}{c a0:Ac}{e:Af}(I:Inv X pins σ H s)(F:Fn1 X)(J:Qb B X.stack e c a0 s.heap)(L:Cv X pins H B s.heap):¬ Old X pins H e/\e ∉ frs X.stack/\∃ N,s.heap.get? e=Ab N/\N.cls=c:=by
 obtain⟨G,vs,Y,A,T,_⟩:=J.first
 have O:e ∉ frs X.stack:=λz=>by
  obtain⟨_,o,U,E⟩:=I.stack.mem z;rw[Y] at U;cases U;exact E vs T
 refine⟨λz=>?_,O,G,Y,A⟩;have q:=L e G Y z O;rw[J.2.1] at q;cases q
theorem Inv.track {e:Af}{c:Ac}{G:Cq}(I:Inv X pins σ H s)(F:Fn1 X)(U:¬ Old X pins H e)(y:e ∉ frs X.stack)(B:s.heap.get? e=Ab G)(j:G.cls=c):Inv X pins σ (upd H e (rL e c)) s:=by
 have Y:H e=none:=by
  cases q:H e with
  |none=>rfl
  |some u=>exact absurd (.inr (.inl (by rw[q];intro z;cases z))) U
 have f:e≠X.env.locals:=λz=>y (F.mem.mpr (.inl z));have T:∀ b o,X.s₀.heap.get? b=Ab o->b≠e:=λb o q z=>U (.inl ⟨o,z▸q⟩);refine⟨I.ok,I.os,I.bare,⟨I.base.keep,I.base.slot,λb o q n L=>?_,I.base.there,λb J q=>?_,λb o J q=>?_,λb g q=>?_⟩,I.loc,I.cell,?_,λx k q=>?_,λp O=>?_,λb u q=>?_,I.len⟩
 .rw[qG (T b o q)];exact I.base.free b o q n L
 .have z:=I.base.tups b J q
  rw[qG (qT z Y)];exact z
 .have z:=I.base.frzs b o J q
  rw[qG (qT z Y)];exact z
 .obtain⟨m,z⟩:=I.base.tbls b g q
  exact⟨m,by rw[qG (qT z Y)];exact z⟩
 .rw[qG (Gb f)];exact I.free
 .have z:k≠e:=λz=>U (.inr (.inr (.inr ⟨x,z▸q⟩)))
  rw[qG z];exact I.freeC x k q
 .obtain⟨E,v,i,A,r⟩:=I.pin p O
  have z:p.1≠e:=λz=>U (.inr (.inr (.inl ⟨p,O,z⟩)));exact⟨E,by rw[qG z];exact v,i,A,r⟩
 .by_cases N:b=e
  .subst N
   rw[qQ] at q;cases q;refine⟨⟨G,B,j⟩,⟨G,B⟩,λh1 h ⟨o,w,d⟩ k=>⟨o,k o w,d⟩⟩
  .rw[qG N] at q
   exact(I.hok b u q).stay (λ_ _ _ z=>z) (λk z=>by rw[qG (qT z Y)];exact z) λk J z=>by rw[qG (qT z Y)];exact z
theorem Inv.gone {i t':Ai}{n:Ar}{h':Bo}(I:Inv X pins σ H s)(f:X.N.Nodup)(hi:X.N[i]? = Ab n){m:Ar->Am Ac}{v:Am Ac}(h:∀ (j:Ai) (y:Ar) (w:V),X.N[j]? = Ab y->σ[j]? = Ab (Ab w)->Vis X.env.scope y->∃ u,qK w u/\MX X.env s.heap m y u)(hv:h'.Ns X.env.locals λy=>if y=n then v else m y)(O:Ew X.env.locals s.heap h') :
  Inv X pins (σ.set i none) H { s with heap:=h',toks:=t' }:=by
 have Y:∀ b o,X.s₀.heap.get? b=Ab o->b≠X.env.locals:=λb o e=>Cp (Bd (Ba e) I.ok.above);have G:∀ b o,b≠X.env.locals->s.heap.get? b=Ab o->h'.get? b=Ab o:=λb o n e=>(O.2 b n).trans e;refine⟨I.ok,I.os,I.bare,⟨λb o e n N U=>G b o (Y b o e) (I.base.keep b o e n N U),λb o e n N U=>?_,I.base.free,λb o e U=>?_,I.base.tups,I.base.frzs,I.base.tbls⟩,⟨_,hv,λj y w B J e3=>?_⟩,λx c e=>?_,I.free,I.freeC,λp g=>?_,λb u q=>?_,by simpa using I.len⟩
 .obtain⟨sl,q⟩:=I.base.slot b o e n N U
  exact⟨sl,G b _ (Y b o e) q⟩
 .obtain⟨T,q⟩:=I.base.there b o e U
  exact⟨T,G b T (Y b o e) q⟩
 .have E:i≠j:=λz=>by
   subst z;by_cases hs:i<σ.length
   .rw[Dd hs] at J;cases J
   .rw[Op (by simp;omega)] at J;cases J
  rw[Ce E] at J;obtain⟨u,r,l⟩:=h j y w B J e3;refine⟨u,r,?_⟩;rcases l with⟨k,z⟩|⟨k,c,z,zc⟩
  .refine .inl ⟨k,?_⟩
   have:y≠n:=λz=>E (fT f hi (z▸B));simp[this,z]
  .exact .inr ⟨k,c,z,zc.sameBut O (I.cne y c z)⟩
 .obtain⟨w,z⟩:=I.cell x c e
  exact⟨w,z.sameBut O (I.cne x c e)⟩
 .obtain⟨e,n,L,A,d⟩:=I.pin p g
  exact⟨G p.1 p.2 L e,n,L,A,d⟩
 .refine(I.hok b u q).stay (λc w hc z=>G c w ?_ z) (λ_ z=>z) λ_ _ z=>z
  rintro rfl;rcases hc with rfl|hc
  .rw[I.free] at q;cases q
  .rw[I.free] at hc;cases hc
theorem aM {A:Br}{E:Ac->Ag->Prop}{i:Ai}{n:Ar}{Y:Ev}{Q:Qf->Ag->Prop}(I:Inv X pins σ H s)(N:X.N.Nodup)(hi:X.N[i]? = Ab n)(J:X.env.scope.names.lookup n=Ab .local)
  (h:∀ s',Inv X pins (σ.set i none) H s'->Q () s'):Ao M A (do XV X.env n .none;unbindBehindTheSuite X.env n Y) Q E s:=by
 obtain⟨m,G,O⟩:=id I.loc;exact wpAny_nameGoes_keeps J G (by rw[I.ok.kind];rfl) λB v hv U=>h _ (Inv.gone I N hi O hv U)
end
abbrev Cx.tryIn (X:Cx)(E:Ac->Ag->Prop)(pn:Aa (Af × Cq)):Cx:={ X with xe:=E,pn:=pn }
abbrev Cx.suite (X:Cx)(e:Af):Cx:=Cx.re X (X.A.mark (Ab (.ref e))) false λ_ _=>Fn
noncomputable def fW (N i:Ai)(cs:Aa Ac)(f g:DS):DS:=λU S=>match f U S with
 |.ex c x G S1=>if cs.contains c then (match g ((Dg N none).set i (Ab (.exn c))) S1 with
   |.rt d J=>.rt d J
   |.nx Y J=>.nx (Y.set i none) J
   |_=>.bad) else .bad
 |o=>o
section
variable {X:Cx}{pins:Aa (Af × Cq)}{σ : _L.St}{H:Hp}{s:Ag}
theorem Inv.inTry (I:Inv X pins σ H s)(E:Ac->Ag->Prop):Inv (Cx.tryIn X E (X.pn++pins)) [] σ H s:=
 ⟨⟨I.ok.mod,I.ok.kind,I.ok.glob,I.ok.blt,I.ok.above,I.ok.inj,I.ok.has,I.ok.cab,I.ok.hd,I.ok.frames,I.ok.stk,I.ok.exf,I.ok.bs,I.ok.bsz,I.ok.noex,I.ok.exfs,I.ok.funs,I.ok.frf⟩,I.os,I.bare,I.base,I.loc,I.cell,I.free,I.freeC,λp Y=>I.pin p (by simpa using Y),I.hok,I.len⟩
theorem Inv.outTry {E:Ac->Ag->Prop}(I:Inv (Cx.tryIn X E (X.pn++pins)) more σ H s):Inv X pins σ H s:=
 ⟨⟨I.ok.mod,I.ok.kind,I.ok.glob,I.ok.blt,I.ok.above,I.ok.inj,I.ok.has,I.ok.cab,I.ok.hd,I.ok.frames,I.ok.stk,I.ok.exf,I.ok.bs,I.ok.bsz,I.ok.noex,I.ok.exfs,I.ok.funs,I.ok.frf⟩,I.os,I.bare,I.base,I.loc,I.cell,I.free,I.freeC,λp Y=>I.pin p (Dh _ Y),I.hok,I.len⟩
theorem SP.outTry {E:Ac->Ag->Prop}{D:Ends}{f:Flow}{s':Ag}(h:SP (Cx.tryIn X E (X.pn++pins)) [] D f s'):SP X pins D f s':=by
 cases f with
 |next=>obtain⟨Y,J,I,q⟩:=h;exact⟨Y,J,Inv.outTry I,q⟩
 |brk=>obtain⟨Y,J,I,q⟩:=h;exact⟨Y,J,Inv.outTry I,q⟩
 |cont=>obtain⟨Y,J,I,q⟩:=h;exact⟨Y,J,Inv.outTry I,q⟩
 |ret u=>obtain⟨v,Y,J,I,r,q⟩:=h;exact⟨v,Y,J,Inv.outTry I,r,q⟩
theorem FlyX.outTry {E:Ac->Ag->Prop}{c:Ac}{e:Af}{h:Bo}(f:FlyX (Cx.tryIn X E (X.pn++pins)) more H c e h):FlyX X pins H c e h:=by
 have Y:∀ b,Old X pins H b->Old (Cx.tryIn X E (X.pn++pins)) more H b:=λb o=>by
  rcases o with o|o|⟨p,U,z⟩|o
  .exact .inl o
  .exact .inr (.inl o)
  .exact .inr (.inr (.inl ⟨p,Dh _ U,z⟩))
  .exact .inr (.inr (.inr o))
 cases f with
 |new g args O L N=>exact .new g args O L λb o e q=>N b o e (Y b q)
 |fly B T J G=>exact .fly B T J λb o e q n=>G b o e (Y b q) n
theorem WS {K:Aj}{P:Hp}{α:Aa Af}{n:Ai}(h:σ.length=n):qY K P α σ (Dg n none):=by
 refine⟨by simp[h],λi d e=>?_⟩
 rw[Nc] at e
 split at e <;> cases e
theorem qY.unset {K:Aj}{P:Hp}{α:Aa Af}{env:qF}(re:qY K P α σ env)(i:Ai):qY K P α (σ.set i none) (env.set i none):=by
 refine⟨by simp[re.1],λj d e=>?_⟩
 by_cases Y:i=j
 .subst Y
  by_cases J:i<env.length
  .rw[Dd J] at e;cases e
  .rw[Op (by simp;omega)] at e;cases e
 .rw[Ce Y] at e ⊢
  exact re.2 j d e
end
section
variable {X:Cx}{pos:Ev}{f g:DS}
theorem L9 {pins:Aa (Af × Cq)}{D:Ends}{c:Ac}{e C0:Af}{s':Ag}{σ:_L.St}{H P:Hp}{α:Aa Af}{x n:Ar}{i:Ai}{L:EQ}{suite:Aa EQ}{m:Ev}
  (F:Fn1 X) (hg:Gl X x) (hm:X.mg x=Ab (.ref C0)) (zi:∀ c∈cs,Ka X.K c (.ref C0)=Ab true) (hN:X.N.Nodup) (hi:X.N[i]? = Ab n) (N:X.env.scope.names.lookup n=Ab .local)
  (hs:∀ e,PSs (Cx.suite X e) (L::suite) (tDS (Cx.suite X e) g)) (hc:cs.contains c=true) (I:Inv X pins σ H s') (r:Rel X.K H P α S1) (fl:FlyX X pins H c e s'.heap)
  (J:qZ X P α (match g ((Dg X.N.length none).set i (Ab (.exn c))) S1 with|.rt d O=>.rt d O|.nx Y O=>.nx (Y.set i none) O|_=>.bad) D) (zf:(x == ("__debug__" : Ar))=false) :
  Ao (Au X.prog X.w) X.A (Sh (.ref e) X.env) (λ_ j=>Ao (Au X.prog X.w) X.A (Zp (.ref e) none) (λ_ E =>
   Ao (Au X.prog X.w) X.A (handleBy (.ref e) X.env [.ExceptHandler (Ab (.Name x np)) (Ab n) (L::suite) m]) (SP X pins D) X.xe E) X.xe j) X.xe s':=by
 have w:Ka X.K c (.ref C0)=Ab true:=zi c (by simpa using hc)
 have Z:∀ {σ : _L.St} {H:Hp} {s:Ag},Inv X pins σ H s->Inv (Cx.suite X e) pins σ H s:=λI=>Inv.re I _ false _ I.ok.frames λz=>nomatch z;refine U1 I F I.ok.frames fl λh5 B a0 f5 I5 h=>?_;refine wpAny_handleBy_cons (codeAny_handlers_test (A:=X.A.mark (Ab (.ref e))) (uF (X:=Cx.suite X e) (Z I5) hg hm ?_ zf)) (by intro q;cases q)
 obtain⟨zm,zk,zn,zh,zc⟩:=aJ I5 F f5 h;refine(PySem.W.exm_one I5.kIn (by subst zc;exact(PySem.W.Looks.ld zh).andThen .now) w).at ?_
 refine codeAny_handlers_suite_as ?_;refine lands_againW (s:={ s' with heap:=h5 }) f5 λh6 f6 u6=>?_
 obtain⟨I6,ze⟩:=Inv.fly I5 F h f6.1 u6;obtain⟨y,zd,zl,za,zj⟩:=aJ I6 F f6 ze;have J6:Inv X pins σ (upd H e (rL e c)) { s' with heap:=h6 }:=Inv.track I6 F y zd za zj
 have hn:H e=none:=by
  cases q:H e with
  |none=>rfl
  |some u=>exact absurd (.inr (.inl (by rw[q];intro z;cases z))) y
 obtain⟨r1,sP⟩:=r.pure (o:=rL e c) hn;refine j7 (X:=Cx.suite X e) (v:=.ref e) (Z J6) hN hi (.inl N) rfl (λs7 I7=>?_) (.inr N);have zb:qY X.K (upd P e (rL e c)) α (σ.set i (Ab (.ref e))) ((Dg X.N.length none).set i (Ab (.exn c))):=(WS I.len).set i (by simp only[Rep];exact⟨e,rfl,qQ⟩)
 refine Gm (hs e pins s7 _ _ { nx:=λU G=>D.nx (U.set i none) G,rt:=D.rt } I7 ⟨_,α,_,S1,r1,zb,?_⟩) (λfl s8 q=>?_) λ_ _ z=>An z
 .cases q:g ((Dg X.N.length none).set i (Ab (.exn c))) S1 with
  |rt d O=>rw[q] at J;exact λv G P' T r' e1 e2 rp=>J v G P' T r' (sP.trans e1) e2 rp
  |nx Y O=>rw[q] at J;exact λU G P' T r' zg e1 e2=>J _ G P' T r' (qY.unset zg i) (sP.trans e1) e2
  |bk Y O=>rw[q] at J;exact An J
  |ct Y O=>rw[q] at J;exact An J
  |ex c' x' Y O=>rw[q] at J;exact An J
  |bad=>rw[q] at J;exact An J
 .cases fl with
  |next =>
   obtain⟨U,G,I8,q⟩:=q;exact aM (Inv.unre I8 I.ok.frames I.ok.hd) hN hi N λs9 I9=>⟨_,G,I9,q⟩
  |brk =>
   obtain⟨_,_,_,q⟩:=q;exact An q
  |cont =>
   obtain⟨_,_,_,q⟩:=q;exact An q
  |ret u =>
   obtain⟨v,U,G,I8,rv,q⟩:=q;exact aM (Inv.unre I8 I.ok.frames I.ok.hd) hN hi N λs9 I9=>⟨v,_,G,I9,rv,q⟩
set_option tactic.hygienic true in
theorem NP {x n:Ar}{m:Af}{i:Ai}{J:EQ}{suite:Aa EQ}{np G:Ev}(F:Fn1 X)(hb:∀ E pn,Pm (Au X.prog X.w) X.A X.env E->PSs (Cx.tryIn X E pn) body (tDS (Cx.tryIn X E pn) f))
  (hs:∀ e,PSs (Cx.suite X e) (J::suite) (tDS (Cx.suite X e) g)) (hg:Gl X x) (hm:X.mg x=Ab (.ref m)) (y:∀ c∈cs,Ka X.K c (.ref m)=Ab true) (hN:X.N.Nodup) (hi:X.N[i]? = Ab n:=by rfl) (o:X.env.scope.names.lookup n=Ab .local:=by rfl)
  (v:(x == ("__debug__" : Ar))=false:=by decide):PS X (.Try body [.ExceptHandler (Ab (.Name x np)) (Ab n) (J::suite) G] [] [] pos) (tDS X (fW X.N.length i cs f g)):=by
 intro N s σ H D I h;obtain⟨P,α,L,S,r,re,Y⟩:=h;refine wpAny_Try_except ?_;refine Gm (hb _ (X.pn++N) (PassesOwn.looking (K:=λe B=>Ao (Au X.prog X.w) X.A (Zp e none) (λ_ O=>Ao (Au X.prog X.w) X.A (handleBy e X.env [.ExceptHandler (Ab (.Name x np)) (Ab n) (J::suite) G]) (SP X N D) X.xe O) X.xe B) (E₁:=X.xe))
  [] s σ H D (Inv.inTry I _) ⟨P,α,L,S,r,re,?_⟩) (λw s1 q=>?_) λ_ _ z=>z
 .unfold fW at Y
  cases q:f L S with
  |rt d T=>rw[q] at Y;exact Y
  |nx U T=>rw[q] at Y;exact Y
  |bk U T=>rw[q] at Y;exact Y
  |ct U T=>rw[q] at Y;exact Y
  |bad=>rw[q] at Y;exact Y
  |ex c x' U T =>
   rw[q] at Y;dsimp only at Y;intro u s' k;obtain⟨e,j,zb,H',P',za,rfl,I',r',e1,e2,F',w⟩:=k
   split at Y
   .rename_i hc
    exact L9 F hg hm y hN hi o hs hc (Inv.outTry I') r' (FlyX.outTry w) (qZ.base e1 e2 Y) v
   .exact An Y
 .have A:=SP.outTry q
  cases w with
  |next=>exact Mi A
  |brk=>exact A
  |cont=>exact A
  |ret u=>exact A
end
end _D
namespace _D
open PySem PySem.Spec PyProof.Rows _L PySem.W
variable {R:Ya->Ag->Prop}
structure ExnK (K:Aj)(C:Af):Prop where
 ga:findIn K (.ref C) "__getattribute__" = Ab (Ab (.builtin "BaseException.__getattribute__"))
 hk:findIn K (.ref C) "__getattr__" = Ab none
 cl:findIn K (.ref C) "__class__" = Ab (Ab (.builtin "object.__class__"))
 sp:specialIn K (.builtin "object.__class__") "__get__" = Ab (Ab (.builtin "getset_descriptor.__get__"))
 tk:takesIn K (.builtin "object.__class__")=Ab true
 mo:mroIn K C (.type "object")=Ab true
 mb:mroIn K C (.type "BaseException")=Ab true
 isC:(clsIn K C).isSome=true
section
variable {prog:Bf}{w:Bx}{A:Br}{E:Ac->Ag->Prop}{s:Ag}{K:Aj}{x C:Af}
abbrev vO (x C:Af)(h:Bo):Prop:=∃ Q,h.get? x=Ab Q/\Q.cls=.ref C
theorem vO.type {M:Ky}{h:Bo}(I:vO x C h):Looks M h (typeOf (.ref x)) (.ref C):=by
 obtain⟨Q,e,c⟩:=I;rw[<- c];exact(Looks.ld e).andThen .now
theorem VB {M:Ky}{h:Bo}(X:K.In h)(Z:ExnK K C):Looks M h (Ab5 (.ref x) (.ref C) "__class__") (.bind (.builtin "getset_descriptor.__get__") (.builtin "object.__class__")):=by
 have U:=Ys (M:=M) X Z.cl;have Q:Looks M h (Ab2 (Ab (.builtin "object.__class__"))) (Ab (.builtin "getset_descriptor.__get__")):=looks_specialIn X Z.sp;have J:=looks_takesIn (M:=M) X Z.tk;have Y:Looks M h (Yt (Ab (.builtin "object.__class__")) (Ab (.builtin "getset_descriptor.__get__"))) (Ab (.builtin "getset_descriptor.__get__",.builtin "object.__class__")):=J.andThen .now;exact U.andThen (Q.andThen (Y.andThen (Looks.tag .now)))
theorem PX {tp:Ac}(X:K.In s.heap)(Z:ExnK K C)(I:vO x C s.heap)(h:R (.ok (.ret (.ref C))) s) :
  Ih (Au prog w) A (.call (.builtin "getset_descriptor.__get__") ⟨[.builtin "object.__class__",.ref x,tp],[]⟩) R s:=by
 have LT:=vO.type (M:=Au prog w) I;have Q:=looks_mroIn (M:=Au prog w) X Z.mo;cases s;refine Lu KF.slot_gs.plain KF.entry_gs (KF.slot_gs.check _ _ _ _ _ _ _ _ KF.type_class (KF.args_gs _ _ _) ?_);unfold Ik.«getset_descriptor.__get__» Yu;rw[dga_obj];refine Ad (Al ?_);unfold Xn Us Va isInstance;simp only[KF.owner_class]
 repeat lk
 refine⟨Ri _ (by decide +kernel),Io KF.entry_class ?_⟩
 unfold Ik.«object.__class__» shownTypeOf
 repeat lk
 exact h
theorem L0 {tk:Te}(X:K.In s.heap)(Z:ExnK K C)(I:vO x C s.heap)(h:R (.ok (.ret (.ref C))) s) :
  Ih (Au prog w) A (.call (.builtin "BaseException.__getattribute__") ⟨[.ref x,.str "__class__" tk],[]⟩) R s:=by
 have LT:=vO.type (M:=Au prog w) I;have U:=looks_mroIn (M:=Au prog w) X Z.mb;have N:=VB (M:=Au prog w) (x:=x) X Z;have G:builtinKind "BaseException.__getattribute__" = Ab .slot:=by decide +kernel
 have Y:splitId "BaseException.__getattribute__" = Ab ("BaseException","__getattribute__"):=by decide +kernel
 have J:∀ (A:Br) (Q:Qf->Ag->Prop) (E:Ac->Ag->Prop),Q () s->Ao (Au prog w) A (Tr "BaseException.__getattribute__" ⟨[.ref x,.str "__class__" tk],[]⟩) Q E s:=by
  intro A Q E B;have O:=PySem.F.args_bexc_ga (.ref x) (.str "__class__" tk);simp only[Tr,G,Y];unfold isInstance;refine Ad (Ad (LT.here (U.here ?_)))
  repeat (any_goals (first|assumption|wp_step))
 refine Lu Uc.ga.plain PySem.F.entry_bexc_ga (J _ _ _ ?_);cases s;unfold Ik.«object.__getattribute__»;refine Ad (Rr (show slotArgs "__getattribute__" 1 ⟨[.ref x,.str "__class__" tk],[]⟩=pure (.ref x,[.str "__class__" tk]) from by kernel_rfl) ?_)
 refine Ad (Al (Ad (LT.at (Ad (N.at ?_)))));show Ao _ _ (Si _ _ _ _) _ _ _;unfold Si;dsimp only;exact Ad (Ed (Qh (PX X Z I (Al h))))
theorem X1 {Q:Am Ac->Ag->Prop}(X:K.In s.heap)(Z:ExnK K C)(I:vO x C s.heap)(h:Q (Ab (.ref C)) { s with toks:=s.toks+1 }) : Ao (Au prog w) A (getAttr? (.ref x) "__class__") Q E s:=by
 have LT:=vO.type (M:=Au prog w) I;have U:=Ys (M:=Au prog w) X Z.ga;have Y:=Ys (M:=Au prog w) X Z.hk;unfold getAttr? getAttrBy? getAttrBy;cases s;refine Ad (wpAny_mkText (Ad (Ix (Ed (Ad (LT.at (Ad (U.at ?_))))))));dsimp only;have J:(AaV "BaseException.__getattribute__" == AaV "object.__getattribute__")=false:=by decide +kernel
 rw[J,Ln,Bg Fp];unfold getAttrByItsOwn hookBefore;rw[Be (show onTheHeap (.ref C)=true from rfl)]
 refine Ad (Y.at (Ad (Ix (Ed ?_))));unfold callGetattribute;rw[Hj,Bg Fp];unfold boundAndCalled;refine Ad (Rr (Uc.ga.bind (.ref x)) ?_);refine Qh (L0 X Z I ?_);show Ao _ _ (handedOut (.ref C)) _ _ _;exact Al (Al h)
set_option tactic.hygienic true in
theorem rZ (Z:ExnK K C):KitX K (.ref x) (.ref C) (vO x C) where
 ty:=λ_ _ _ I=>I.type
 it:=λM h X _=>by
  have z:=Z.isC;unfold clsIn at z
  split at z
  .rename_i Y
   intro H B L N k q;unfold isType loadHead;exact Ad (wpAny_loadPart (k _ _ (X _ _ Y)) (Al q))
  .cases z
 ne:=λh J O G n T X Q=>by
  have z:=Z.isC;unfold clsIn at z
  split at z
  .rename_i Y
   cases U:(Cg C == Cg J) with
   |false=>rfl
   |true =>
    obtain rfl:C=J:=Value.ref.inj (Ts.mp U);have y:=(X _ _ Y).symm.trans Q;cases y
  .cases z
 ca:=λX I k=>X1 X Z I k
end
end _D
namespace _D
open PySem PySem.Spec PyProof.Rows _L
variable {cells:Aa (Ar × Af)}{α α1:Aa Af}{ds:Aa D}{C:Af}{s:Ag}{K:Aj}{o:Cq}{H P P1:Hp}{S S1:Sto}
theorem fY {α:Type}{t:Ko α}{Q Y:α->Ag->Prop}{M:Ky}{A:Br}{E:Ac->Ag->Prop}(h:Ao M A t Q (λ_ _=>Fn) s)(J:∀ a s,Q a s->Y a s):Ao M A t Y E s:=Gm h J λ_ _ x=>x.elim
noncomputable def kH (Q:Aa Bt)(env:Il):Ko As:=forIn Q true λc r=>if r=true then do let ok <- PySem.isTrue c env (eval c env);pure (Pq ok) else pure (Pq r)
def PTs (X:Cx)(J:Aa Bt)(t:DT):Prop:=
 ∀ (Y:Aa (Af × Cq)) (s:Ag) (σ : _L.St) (H:Hp) (Q:As->Hp->Prop),Inv X Y σ H s->tDT X t σ H Q->Ao (Au X.prog X.w) X.A (kH J X.env) (TP X Y σ Q) X.xe s
noncomputable def wM:DT:=λ_ S=>.ok true S
section
variable {X:Cx}
theorem PP:PTs X [] wM:=λY s σ H Q I ⟨P,α,J,S,r,re,U⟩=>by
 unfold kH;rw[Qu];exact Al ⟨H,I,U H P α r (qE.refl _) (Bh _)⟩
theorem OZ {e:Bt}{f:DE}{pins:Aa (Af × Cq)}{σ:_L.St}{env:qF}{d:D}(T:PE X e (tD X f))(I:Inv X pins σ H s)(r:Rel X.K H P α S)(re:qY X.K P α σ env)(q:f env S=.ok d S1) :
  Ao (Au X.prog X.w) X.A (eval e X.env) (λu U=>∃ v Y P1 α1,Got X pins σ env P α u U v Y P1 α1 d S1) X.xe s:=by
 refine thn (zM (g:=λd S=>Res.ok d S) (Ok:=λQ J=>Q=d/\J=S1) T I r re (by rw[q];exact⟨rfl,rfl⟩)) λu U ⟨v,Y,P1,α1,Q,J,G,L,O⟩=>?_
 have N:Q=d:=L;have B:J=S1:=O;subst N;subst B;exact⟨v,Y,P1,α1,G⟩
theorem AG {Y:Aa Bt}{t:DT}{pins:Aa (Af × Cq)}{σ:_L.St}{env:qF}{b:As}(j:PTs X Y t)(I:Inv X pins σ H s)(r:Rel X.K H P α S)(re:qY X.K P α σ env)(q:t env S=.ok b S1) :
  Ao (Au X.prog X.w) X.A (kH Y X.env) (λJ O=>J=b/\∃ Q P1 α1,Inv X pins σ Q O/\Rel X.K Q P1 α1 S1/\qY X.K P1 α1 σ env/\qE P P1/\α<+:α1) X.xe s:=by
 refine thn (j pins s σ H (λJ Q=>J=b/\∃ P1 α1,Rel X.K Q P1 α1 S1/\qY X.K P1 α1 σ env/\qE P P1/\α<+:α1) I ⟨P,α,env,S,r,re,?_⟩) λJ O ⟨Q,L,e,P1,α1,T,M,E,A⟩=>⟨e,Q,P1,α1,L,T,M,E,A⟩;rw[q];exact λy B U w G N=>⟨rfl,B,U,w,re.mono G N,G,N⟩
theorem qAA {O:Bt}{g:DG}{pins:Aa (Af × Cq)}{σ:_L.St}{env Y:qF}{d:D}{v:V}{u:Ac}(p:PG X O (tDG X g))(I:Inv X pins σ H s)(r:Rel X.K H P α S)(re:qY X.K P α σ env)(c:qK v u)
  (m:Rep X.K P α d v) (q:g d env S=.ok Y S1) :
  Ao (Au X.prog X.w) X.A (assign O X.env u) (λ_ N=>∃ Q J P1 α1,Inv X pins Q J N/\Rel X.K J P1 α1 S1/\qY X.K P1 α1 Q Y/\qE P P1/\α<+:α1) X.xe s:=by
 refine thn (p pins s σ H v u (λQ J=>∃ P1 α1,Rel X.K J P1 α1 S1/\qY X.K P1 α1 Q Y/\qE P P1/\α<+:α1) I c ⟨P,α,env,S,d,r,re,m,?_⟩) λ_ N ⟨Q,J,T,P1,α1,E,y,w,j⟩=>⟨Q,J,P1,α1,T,E,y,w,j⟩;rw[q];exact λM n B U f G L A=>⟨B,U,f,G,L,A⟩
def gY (K:Aj)(P:Hp)(α : Aa Af)(ds:Aa D)(o:Cq):Prop:=∃ (Q:Aa Ac) (n:Ai) (Y:Aa V),o={ cls:=.type "list",data:=.seq Q.toArray n } /\ qJ Y Q/\qD K P α ds Y/\ds.length<=lim
theorem gY.mono (e:qE P P1)(h:α<+:α1)(a:gY K P α ds o):gY K P1 α1 ds o:=by
 obtain⟨Q,n,Y,U,N,J,G⟩:=a;exact⟨Q,n,Y,U,N,qD.mono e h _ _ J,G⟩
theorem gY.cell (a:gY K P α ds o):∀ v,o.data≠.cell v:=by
 obtain⟨Q,n,Y,rfl,_⟩:=a;intro v z;cases z
theorem Inv.pin1 {pins:Aa (Af × Cq)}{σ:_L.St}{a:Af}(I:Inv X pins σ H s)(f:xI X pins H a)(e:s.heap.get? a=Ab o)(d:∀ v,o.data≠.cell v):Inv X (pins++[(a,o)]) σ H s:=
 I.pins_of λp Y=>(By.mp Y).elim (λz=>I.pin p (Cd _ z)) λz=>by
  have Q:p=(a,o):=by simpa using z
  subst Q;exact⟨e,f.1,f.2.1,f.2.2.1,d⟩
theorem Inv.pinned1 {pins:Aa (Af × Cq)}{σ:_L.St}{a:Af}(I:Inv X (pins++[(a,o)]) σ H s):s.heap.get? a=Ab o/\H a=none:=by
 have:=I.pin (a,o) (Cd _ (Cd _ (by simp)))
 exact⟨this.1,this.2.1⟩
end
structure Acc where
 m:As
 O:Aj->Hp->Aa Af->Aa D->Cq->Prop
 mono:∀ {K:Aj} {P P1:Hp} {α α1:Aa Af} {ds:Aa D} {o:Cq},qE P P1->α<+:α1->O K P α ds o->O K P1 α1 ds o
 cell:∀ {K:Aj} {P:Hp} {α : Aa Af} {ds:Aa D} {o:Cq},O K P α ds o->∀ v,o.data≠.cell v
@[reducible] def accL:Acc:=⟨false,gY,gY.mono,gY.cell⟩
noncomputable def xX (m:As)(Y:Bt)(Q:Aa Ee)(scope:El)(J:Ev):Bt:=match m with
 |false=>.ListComp Y Q scope J
 |true=>.SetComp Y Q scope J
structure TurnSt (B:Acc)(Y:Cx)(pins:Aa (Af × Cq))(P1:Hp)(α1:Aa Af)(fp:Aa Af)(acc:Af)(env:qF)(S:Sto)(ds:Aa D)(s:Ag)(σ : _L.St)(H P:Hp)(α : Aa Af)(o:Cq):Prop where
 inv:Inv Y pins σ H s
 rel:Rel Y.K H P α S
 env:qY Y.K P α σ env
 same:qE P1 P
 pre:α1<+:α
 fpn:∀ b∈fp,H b=none
 acn:H acc=none
 at':s.heap.get? acc=Ab o
 acc:B.O Y.K P α ds o
noncomputable def wK (cells:Aa (Ar × Af)):Aa (Ar × Ie)->Aa (Ar × Af)->Aa (Ar × Af)
 |[],Q=>Q
 |(n,k)::r,Q=>wK cells r (if k == .free then (n,(cells.lookup n).getD 0)::Q else Q)
theorem gW {env:Il}{scope:El}(h:∀ y∈scope.names,y.2=.free->∃ c,env.cells.lookup y.1=Ab c):Tt scope env=pure (wK env.cells scope.names []):=by
 have E:∀ (l:Aa (Ar × Ie)) (Y:Aa (Ar × Af)),(∀ y∈l,y.2=.free->∃ c,env.cells.lookup y.1=Ab c) ->
   (forIn l Y λx Y=>match x with|(Q,U)=>if (U == Gu)=true then do let a <- cellOf env Q;pure (Pq ((Q,a)::Y)) else pure (Pq Y):Ko (Aa (Ar × Af)))=pure (wK env.cells l Y):=by
  intro l
  induction l with
  |nil=>intro Y _;rfl
  |cons y r O =>
   intro Y N;obtain⟨n,k⟩:=y;rw[Vb];by_cases L:k=.free
   .subst L
    obtain⟨c,T⟩:=N (n,.free) Cn rfl;have J:env.cells.lookup n=Ab c:=T;have e:cellOf env n=pure c:=by unfold cellOf;rw[J]
    simp only[Fz,Eh,e,pure_bind];rw[O _ λz G=>N z (Bp _ G)];simp only[wK,Fz,Eh,J,Os]
   .have B:(k == Gu)=false:=by simpa using L
    simp only[B,Bw,Ec,pure_bind];rw[O _ λz G=>N z (Bp _ G)];simp only[wK,B,Bw,Ec]
 unfold Tt;have:=E scope.names [] h;simp only[bind_pure];exact this
theorem jN {x:Ar}{c:Af}:∀ (l:Aa (Ar × Ie)) (Y:Aa (Ar × Af)),(wK cells l Y).lookup x=Ab c->Y.lookup x=Ab c\/((x,Gu)∈l/\c=(cells.lookup x).getD 0)
 |[],Y,h=>.inl h
 |(n,k)::r,Y,h=>by
  rcases jN r _ h with h|⟨G,U⟩
  .by_cases J:k=.free
   .subst J
    simp only[Fz,Eh,Kf] at h;cases Q:x == n with
    |true =>
     rw[Q] at h;have e:x=n:=by simpa using Q
     subst e;exact .inr ⟨Cn,(Cy h).symm⟩
    |false=>rw[Q] at h;exact .inl h
   .have Q:(k == Gu)=false:=by simpa using J
    simp only[Q,Bw,Ec] at h;exact .inl h
  .exact .inr ⟨Bp _ G,U⟩
theorem jD {x:Ar}:∀ (l:Aa (Ar × Ie)) (Q:Aa (Ar × Af)),((x,Gu)∈l\/∃ c,Q.lookup x=Ab c)->∃ c,(wK cells l Q).lookup x=Ab c
 |[],Q,h=>by
  rcases h with h|h
  .cases h
  .exact h
 |(n,k)::r,Q,h=>by
  refine jD r _ ?_;rcases h with h|⟨c,h⟩
  .rcases Az.mp h with e|h
   .cases e
    exact .inr ⟨(cells.lookup x).getD 0,by simp only[Fz,Eh,Kf]⟩
   .exact .inl h
  .by_cases J:k=.free
   .subst J
    simp only[Fz,Eh,Kf];cases Y:x == n with
    |true=>exact .inr ⟨_,rfl⟩
    |false=>exact .inr ⟨c,h⟩
   .have Y:(k == Gu)=false:=by simpa using J
    simp only[Y,Bw,Ec];exact .inr ⟨c,h⟩
structure CompSc (scX:El)(NX:Aa Ar)(scope:El)(N':Aa Ar)(cap:Aa (Am Ai)):Prop where
 kind:scope.kind=.function
 names:∀ y∈scope.names,y.2=.local -> scope.names.lookup y.1=Ab .local
 cel:∀ y∈scope.names,y.2=.cell->scope.names.lookup y.1=Ab .cell
 free:∀ y∈scope.names,y.2=.free->scX.names.lookup y.1=Ab .cell\/scX.names.lookup y.1=Ab .free
 fr2:∀ y∈scope.names,y.2=.free->scope.names.lookup y.1=Ab .free
 len:cap.length=N'.length
 caps:((cap.zip N').all λp=>match p.1 with|none=>true|some i=>NX[i]? == Ab p.2&&scope.names.lookup p.2 == Ab .free)=true
 nd:N'.Nodup
noncomputable def v9 (Q:Aa (Am Ai))(σ : _L.St):_L.St:=Q.map λo=>match o with
 |none=>none
 |some i=>(σ[i]?).join
noncomputable def wD (Q:Aa (Am Ai))(env:qF):qF:=Q.map λo=>match o with
 |none=>none
 |some i=>(env[i]?).join
theorem WR {σ:_L.St}{env:qF}(re:qY K P α σ env)(Q:Aa (Am Ai)):qY K P α (v9 Q σ) (wD Q env):=by
 refine⟨by simp[v9,wD],λj d e=>?_⟩
 unfold wD at e;unfold v9;rw[Dn] at e ⊢;cases q:Q[j]? with
 |none=>rw[q] at e;cases e
 |some o =>
  rw[q] at e;cases o with
  |none=>cases e
  |some i =>
   have Y:(env[i]?).join=Ab d:=by simpa using e
   cases z:env[i]? with
   |none=>rw[z] at Y;cases Y
   |some w =>
    rw[z] at Y;have J:w=Ab d:=Y;subst J;obtain⟨v,G,U⟩:=re.2 i d z;exact⟨v,by simp[G],U⟩
noncomputable def qX (X:Cx)(Q:Aa Ar)(scope:El)(Y:Aa (Ar × Af))(C:Af)(ex:Aa Af)(s₀:Ag)(H₀:Hp):Cx:=
 { X with N:=Q,s₀:=s₀,H₀:=H₀,env:=compEnvC scope Y C X.env,outer:=X.stack,stack:=X.stack,ex:=ex,fn:=λx=>decide (scope.names.lookup x=Ab .cell),pn:=[],xe:=λ_ _=>Fn }
theorem uX {scope:El}{env:Il}:∀ {Q:Aa (Ar × Ie)} {x:Ar} {k:Ie},
  (Q.map λ(n,k)=>if (k == Gu&&env.scope.kind == .function&&env.kindOf n == Ab .cell) then (n,Ot) else (n,k)).lookup x=Ab k ->
  Q.lookup x=Ab k\/(k=.cell/\Q.lookup x=Ab .free)
 |[],_,_,h=>by simp at h
 |(n,U)::r,x,k,h=>by
  rw[Ek,Kf] at h;rw[Kf];dsimp only at h;cases J:(U == Gu&&env.scope.kind == .function&&env.kindOf n == Ab .cell) with
  |true =>
   rw[J] at h;simp only[Eh] at h;cases Y:x == n with
   |true =>
    rw[Y] at h;have e:Ot=k:=Cy h;have G:U=.free:=by
     have:=(Ax _ _).mp J;have:=(Ax _ _).mp this.1;simpa using this.1
    subst G;exact .inr ⟨e.symm,rfl⟩
   |false=>rw[Y] at h;exact uX (scope:=scope) h
  |false =>
   rw[J] at h;simp only[Bw,Ec] at h;cases Y:x == n with
   |true=>rw[Y] at h;exact .inl h
   |false=>rw[Y] at h;exact uX (scope:=scope) h
section
variable {X:Cx}{scope:El}{N':Aa Ar}{cap:Aa (Am Ai)}{pins:Aa (Af × Cq)}{σ : _L.St}{H2:Hp}{s2:Ag}{fp:Aa Af}
theorem kN (S:CompSc X.env.scope X.N scope N' cap){x:Ar}{k:Ie}(h:(relabel scope X.env).names.lookup x=Ab k):scope.names.lookup x=Ab k\/(k=.cell/\scope.names.lookup x=Ab .free):=uX (scope:=scope) h
theorem ZM (S:CompSc X.env.scope X.N scope N' cap)(ok:X.Ok){x:Ar}{c:Af}(h:(wK X.env.cells scope.names []).lookup x=Ab c):X.env.cells.lookup x=Ab c/\(x,Gu)∈scope.names:=by
 rcases jN _ _ h with h|⟨Y,J⟩
 .cases h
 .have:=S.free _ Y rfl
  obtain⟨U,Q⟩:=ok.has x this;rw[Q,Os] at J;rw[Q,J];exact⟨rfl,Y⟩
noncomputable def UH (scope:El)(C:Af):Aa (Ar × Af):=Hw (C+1) scope.names []
noncomputable def kM (X:Cx)(scope:El)(C:Af):Aa (Ar × Af):=Hw (C+1) scope.names (wK X.env.cells scope.names [])
theorem yO:∀ (Q:Aa (Ar × Ie)) (lo:Ai) (acc:Aa (Ar × Af)),Hw lo Q acc=Hw lo Q [] ++ acc
 |[],_,_=>rfl
 |(n,k)::r,lo,acc=>by
  unfold Hw
  split
  .rw[yO r _ ((n,lo)::acc),yO r _ [(n,lo)],Cs];rfl
  .exact yO r lo acc
set_option tactic.hygienic true in
theorem pA:∀ (Q:Aa (Ar × Ie)) (lo:Ai) {n:Ar} {c:Af},(n,c)∈Hw lo Q [] -> (n,Ot)∈Q
 |[],_,_,_,h=>by cases h
 |(Y,k)::r,lo,n,c,h=>by
  unfold Hw at h
  split at h
  .rename_i J
   rw[yO] at h;rcases By.mp h with h|h
   .exact Bp _ (pA r _ h)
   .have e:(n,c)=(Y,lo):=by simpa using h
    cases e;have:k=Ot:=by simpa using J
    rw[this];exact Cn
  .exact Bp _ (pA r _ h)
theorem xE (S:CompSc X.env.scope X.N scope N' cap)(ok:X.Ok){C:Af}{x:Ar}{c:Af}(h:(kM X scope C).lookup x=Ab c):((x,c)∈UH scope C/\scope.names.lookup x=Ab .cell)\/(X.env.cells.lookup x=Ab c/\(x,Gu)∈scope.names):=by
 unfold kM at h;rw[yO,Yj] at h;cases q:(Hw (C+1) scope.names []).lookup x with
 |some Q =>
  rw[q] at h;cases h;have m:=Fl q;exact .inl ⟨m,S.cel _ (pA _ _ m) rfl⟩
 |none =>
  rw[q] at h;exact .inr (ZM S ok h)
theorem r8 (S:CompSc X.env.scope X.N scope N' cap)(ok:X.Ok){C:Af}{x:Ar}(h:scope.names.lookup x=Ab .cell\/scope.names.lookup x=Ab .free):∃ c,(kM X scope C).lookup x=Ab c:=by
 unfold kM;rw[yO,Yj];rcases h with h|h
 .have:=Kr scope.names (C+1) [] (x:=x) (.inl h)
  obtain⟨c,J⟩:=Jz.mp this;exact⟨c,by rw[J];rfl⟩
 .obtain⟨Y,Q⟩:=jD (cells:=X.env.cells) scope.names [] (.inl (Fl h))
  rw[Q];cases (Hw (C+1) scope.names []).lookup x with
  |none=>exact⟨Y,rfl⟩
  |some c=>exact⟨c,rfl⟩
theorem GO (S:CompSc X.env.scope X.N scope N' cap)(Q:Inv X pins σ H2 s2)(I:∀ b∈fp,xI X pins H2 b)(N:∀ b∈fp,b<s2.heap.objs.size)(U:s2.heap.objs.size<=C){h1:Bo}(B:CellsOk h1 (C+1) (UH scope C)) :
  (qX X N' scope (kM X scope C) C fp s2 H2).Ok where
 mod:=Q.ok.mod
 kind:=S.kind
 glob:=Q.ok.glob
 blt:=Q.ok.blt
 above:=U
 inj:=λx y c h1 G=>by
  rcases xE S Q.ok h1 with⟨O,_⟩|⟨O,_⟩ <;> rcases xE S Q.ok G with⟨L,_⟩|⟨L,_⟩
  .exact PySem.name_of_addr B.apart O L
  .obtain⟨v,M,J,_⟩:=Q.cell y c L
   exact absurd (Bd (Ba J) U) (NE.mpr (Eo (B.empty x c O).2))
  .obtain⟨v,M,J,_⟩:=Q.cell x c O
   exact absurd (Bd (Ba J) U) (NE.mpr (Eo (B.empty y c L).2))
  .exact Q.ok.inj x y c O L
 has:=λx T=>by
  have A:(relabel scope X.env).names.lookup x=Ab .cell\/(relabel scope X.env).names.lookup x=Ab .free:=T;refine r8 S Q.ok ?_;rcases A with h|h
  .rcases kN S h with h|⟨_,h⟩
   .exact .inl h
   .exact .inr h
  .rcases kN S h with h|⟨z,_⟩
   .exact .inr h
   .cases z
 cab:=λx c h G=>by
  have T:scope.names.lookup x=Ab .cell:=Bv h;rcases xE S Q.ok G with⟨m,_⟩|⟨_,m⟩
  .exact Dc U (Eo (B.empty x c m).2)
  .have:=S.fr2 _ m rfl
   have this':scope.names.lookup x=Ab .free:=this;rw[T] at this';cases this'
 hd:=Q.ok.hd
 frames:=Q.ok.frames
 stk:=.inl rfl
 exf:=λb Y=>⟨Cp (Bd (N b Y) U),λx c h=>by
  rcases xE S Q.ok h with⟨m,_⟩|⟨m,_⟩
  .exact Gb (Cp (Iq (Bd (N b Y) U) (B.empty x c m).2))
  .exact(I b Y).2.2.2.2.1 x c m⟩
 bs:=Q.bs
 bsz:=Dc Q.ok.bsz Q.sz
 noex:=λb o e Y=>by
  obtain⟨_,_,_,h,_⟩:=I b Y;rcases h with h|h
  .exact Q.ok.noex b o e h
  .exact absurd (Bd (Ba e) (Dc Q.ok.bsz h)) (Ej _)
 exfs:=λb Y E=>by
  obtain⟨_,h1,G,_⟩:=I b Y;rcases Az.mp (Q.stkSub b E) with z|z
  .exact h1 z
  .exact G z
 funs:=Q.stack
 frf:=Q.stkFree
theorem YN {s4:Ag}{m:Ar->Am Ac}(S:CompSc X.env.scope X.N scope N' cap)(Q:Inv X pins σ H2 s2)(hf:∀ b∈fp,xI X pins H2 b)(y:∀ b∈fp,b<s2.heap.objs.size)(g:s2.heap.objs.size<=C)
  (hn:s4.heap.Ns C m) (os:s4.os=s2.os) (T:s4.gens=s2.gens) (keep:∀ b o,s2.heap.get? b=Ab o->s4.heap.get? b=Ab o) (r:CellsOk s4.heap (C+1) (UH scope C)) :
  Inv (qX X N' scope (kM X scope C) C fp s2 H2) [] (v9 cap σ) H2 s4 where
 ok:=GO S Q hf y g r
 os:=os
 bare:=T▸Q.bare
 base:=Un.kept keep
 loc:=by
  refine⟨m,hn,λj x v h1 J h3=>?_⟩;have f:N'[j]? = Ab x:=h1;unfold v9 at J;rw[Dn] at J;cases q:cap[j]? with
  |none=>rw[q] at J;cases J
  |some o =>
   rw[q] at J;cases o with
   |none=>cases J
   |some i =>
    have E:(σ[i]?).join=Ab v:=by simpa using J
    have n:σ[i]? = Ab (Ab v):=by
     cases z:σ[i]? with
     |none=>rw[z] at E;cases E
     |some w=>rw[z] at E;have:w=Ab v:=E;rw[this]
    have hz:(Ab i,x)∈cap.zip N':=by
     refine La.mpr ⟨j,?_⟩;rw[Sj];exact⟨q,f⟩
    have hc:=Cb.mp S.caps _ hz;simp only[Ax,Ts] at hc;obtain⟨hN,Y⟩:=hc;have e:=S.free _ (Fl Y) rfl;obtain⟨mo,za,hl⟩:=Q.loc;have I:Vis X.env.scope x:=by
     rcases e with k|k
     .exact .inr (.inl k)
     .exact .inr (.inr k)
    obtain⟨u,ru,lk⟩:=hl i x v hN n I;refine⟨u,ru,?_⟩;rcases lk with⟨kl,_⟩|⟨_,c,d,G⟩
    .have L:X.env.scope.names.lookup x=Ab .local:=kl
     rcases e with k|k
     .have B:X.env.scope.names.lookup x=Ab .cell:=k
      rw[L] at B;cases B
     .have B:X.env.scope.names.lookup x=Ab .free:=k
      rw[L] at B;cases B
    .obtain⟨c',N⟩:=r8 S Q.ok (C:=C) (.inr Y)
     have e2:X.env.cells.lookup x=Ab c':=by
      rcases xE S Q.ok N with⟨_,z⟩|⟨z,_⟩
      .rw[Y] at z;cases z
      .exact z
     rw[d] at e2;cases e2;refine .inr ⟨?_,c,N,?_⟩
     .have A:Vis (relabel scope X.env) x:=h3
      rcases A with h|h|h
      .rcases kN S h with h|⟨z,_⟩
       .rw[Y] at h;cases h
       .cases z
      .exact .inl h
      .exact .inr h
     .obtain⟨O,U,M⟩:=G
      exact⟨O,keep c O U,M⟩
 cell:=λx c h=>by
  rcases xE S Q.ok h with⟨m,_⟩|⟨m,_⟩
  .exact⟨none,(r.empty x c m).1⟩
  .obtain⟨v,O,U,M⟩:=Q.cell x c m
   exact⟨v,O,keep c O U,M⟩
 free:=Q.hok.fresh g
 freeC:=λx c h=>by
  rcases xE S Q.ok h with⟨m,_⟩|⟨m,_⟩
  .exact Q.hok.fresh (Dc g (Eo (r.empty x c m).2))
  .exact Q.freeC x c m
 pin:=λp hp=>absurd (show p∈([]:Aa (Af × Cq)) from hp) (by simp)
 hok:=Q.hok.kept keep
 len:=by
  show (v9 cap σ).length=N'.length;simp[v9,S.len]
end
theorem X7 {P:Bf}{w:Bx}{h:Bo}{a:Af}{o:HO}(x:HOk P w H h)(Y:H a=none)(new:zC P w (upd H a o) h a o):HOk P w (upd H a o) h:=λb u e=>by
 by_cases Q:b=a
 .subst Q;rw[qQ] at e;cases e;exact new
 .rw[qG Q] at e
  exact(x b u e).stay (λc v _ q=>q) (λc q=>by rw[qG (qT q Y)];exact q) λc J q=>by rw[qG (qT q Y)];exact q
theorem X6 {P:Bf}{w:Bx}{h h':Bo}(x:HOk P w H h)(Q:H C=none)(k:∀ b o,b≠C->h.get? b=Ab o->h'.get? b=Ab o):HOk P w H h':=λb u e =>
 (x b u e).stay (λc v Y q=>k c v (by
  rintro rfl;rcases Y with z|z
  .subst z;rw[Q] at e;cases e
  .rw[Q] at z;cases z) q) (λ_ q=>q) λ_ _ q=>q
section
variable {X:Cx}{elt tg iter:Bt}{ifs:Aa Bt}{scope:El}{pos:Ev}{N':Aa Ar}{cap:Aa (Am Ai)}{fi:DI}{g:DG}{t:DT}{fe:DE}
def jU (X:Cx)(pins:Aa (Af × Cq))(σ : _L.St)(P1:Hp)(α1:Aa Af)(ds:Aa D)(G:Sto)(acc C:Af)(s:Ag):Prop:=
 ∃ (Y J:Hp) (Q : Aa Af) (U:Aa V),Inv X pins σ (upd Y acc (.lst U)) s/\Rel X.K Y J Q G/\Y acc=none/\qE P1 J/\α1<+:Q/\qD X.K J Q ds U/\Y C=none
theorem r0 {Y:Cx}{pins:Aa (Af × Cq)}{σ p:_L.St}{T:Hp}{J s':Ag}{fp:Aa Af}{acc:Af}{N r:Hp}{O:Aa Af}{B:qF}{f:Sto}{h:Aa (Ar × Af)}(I2:Inv X pins σ T J)
  (hf:∀ b∈fp,xI X pins T b) (hY:Y=qX X N' scope h C fp J T) (hC:J.heap.objs.size<=C) (hA:J.heap.objs.size<=acc) (j:acc≠C) (st:TurnSt accL Y [] P1 α1 fp acc B f ds s' p N r O o)
  {h':Bo} (x:Ew C s'.heap h'):jU X pins σ P1 α1 ds f acc C { s' with heap:=h' }:=by
 subst hY;obtain⟨A,n,y,rfl,rv,i,hz⟩:=st.acc;have I:∀ b o,b≠C->s'.heap.get? b=Ab o->h'.get? b=Ab o:=λb o U e=>(x.2 b U).trans e;have c:∀ b o,J.heap.get? b=Ab o->b≠C:=λb o e=>Cp (Bd (Ba e) hC);have nA:∀ b o,J.heap.get? b=Ab o->b≠acc:=λb o e=>Cp (Bd (Ba e) hA);have base:Un (frs X.stack) fp T N J.heap s'.heap:=st.inv.base;have w:∀ b u,N b=Ab u->b≠acc:=λb u e=>qT e st.acn;have un:Un (frs X.stack) fp T (upd N acc (.lst y)) J.heap h':=by
  refine⟨λb Q q L U G=>I b Q (c b Q q) (base.keep b Q q L U G),λb Q q L U G=>?_,λb Q q L G=>?_,λb Q q G=>?_,λb xs q=>?_,λb Q u q=>?_,λb ps q=>?_⟩
  .obtain⟨sl,e⟩:=base.slot b Q q L U G
   exact⟨sl,I b _ (c b Q q) e⟩
  .rw[qG (nA b Q q)];exact base.free b Q q L G
  .obtain⟨m,e⟩:=base.there b Q q G
   exact⟨m,I b m (c b Q q) e⟩
  .have:=base.tups b xs q;rw[qG (w _ _ this)];exact this
  .have:=base.frzs b Q u q;rw[qG (w _ _ this)];exact this
  .obtain⟨E,e⟩:=base.tbls b ps q
   exact⟨E,by rw[qG (w _ _ e)];exact e⟩
 have M:HOk X.prog X.w N h':=X6 st.inv.hok st.inv.free I;have d:h'.get? acc=Ab { cls:=.type "list",data:=.seq A.toArray n }:=I acc _ j st.at';have v:HOk X.prog X.w (upd N acc (.lst y)) h':=X7 M st.acn ⟨by rw[<- i.length,<- zH];exact hz,A,n,rv,d⟩
 refine⟨N,r,O,y,?_,st.rel,st.acn,st.same,st.pre,i,st.inv.free⟩;exact I2.call' (s':={ s' with heap:=h' }) (ch:=fp) (st.inv.os) un v st.inv.bare λb U=>by
  obtain⟨_,h1,h2,h3,h4,h5⟩:=hf b U;exact⟨h3,h1,h4,h5⟩
theorem aA (S:CompSc X.env.scope X.N scope N' cap)(ok:X.Ok):Tt scope X.env=pure (wK X.env.cells scope.names []):=gW λy Q Y=>ok.has y.1 (S.free y Q Y)
theorem PR {pins:Aa (Af × Cq)}{σ:_L.St}{J:Sto}{acc:Af}{Q:VK}(c:jU X pins σ P1 α1 ds J acc C s)(ok:OkV X P1 α1 Q (.lst ds) J):EP X pins σ Q (.ref acc) s:=by
 obtain⟨u,y,N,j,I,r,M,L,A,w,_⟩:=c;exact⟨.ref acc,_,I,rfl,wA r M w λv T G Y O E B U=>ok v T G Y O (L.trans E) (A.trans B) U⟩
end
end _D
section
namespace _D
open PySem PySem.Spec PyProof.Rows _L PySem.SeqAt
noncomputable def b01 (b:As):Ak:=if b then 1 else 0
mutual
noncomputable def eqD:D->D->As
 |.non,.non=>true
 |.bl a,.bl b=>a == b
 |.bl a,.int b=>b01 a == b
 |.int a,.bl b=>a == b01 b
 |.int a,.int b=>a == b
 |.str a,.str b=>a == b
 |.tup Q,.tup Y=>wI Q Y
 |.lst Q,.lst Y=>wI Q Y
 |_,_=>false
noncomputable def wI:Aa D->Aa D->As
 |[],[]=>true
 |x::Q,y::Y=>eqD x y&&wI Q Y
 |_,_=>false
end
noncomputable def pl:Ai->D->As
 |_,.non=>true
 |_,.bl _=>true
 |_,.int _=>true
 |_,.str _=>true
 |n+1,.tup Q=>Q.all (pl n)
 |n+1,.lst Q=>Q.all (pl n)
 |_,_=>false
theorem ZZ (x y:D)(xs Q:Aa D):wI (x::xs) (y::Q)=(eqD x y&&wI xs Q):=rfl
theorem uO:∀ (xs Q:Aa D),wI xs Q=((Cu (min xs.length Q.length)).all (λj=>eqD (xs.getD j .non) (Q.getD j .non))&&xs.length == Q.length)
 |[],[]=>rfl
 |[],y::Q=>rfl
 |x::xs,[]=>rfl
 |x::xs,y::Q=>by
  have Y:=uO xs Q;rw[ZZ,Y,Ca,Ca,Nat.succ_min_succ,Oa,Sk,Ls,Bool.and_assoc];have e:(xs.length+1 == Q.length+1)=(xs.length == Q.length):=by simp
  rw[e];rfl
theorem VA {xs Q:Aa D}(h:xs.length≠Q.length):wI xs Q=false:=by
 rw[uO];simp[h]
theorem tW (xs Q:Aa D):eqD (.tup xs) (.tup Q)=wI xs Q:=rfl
theorem tV (xs Q:Aa D):eqD (.lst xs) (.lst Q)=wI xs Q:=rfl
section
variable {X:Cx}{pins:Aa (Af × Cq)}{σ : _L.St}{H P:Hp}{α : Aa Af}{S:Sto}{s:Ag}
inductive Kd (X:Cx)(P:Hp)(α : Aa Af)(s:Ag):D->Ac->Prop where
 |non:Kd X P α s .non .none
 |bl (b:As):Kd X P α s (.bl b) (.bool b)
 |int (i:Ak) (t:Te):Kd X P α s (.int i) (.int i t)
 |str (x:Ar) (t:Te):Kd X P α s (.str x) (.str x t)
 |tup (a:Af) (xs:Aa D) (its:Aa Ac) (vs:Aa V) (rp:qD X.K P α xs vs) (rv:qJ vs its) (h:s.heap.IsTuple a its.toArray) (q:SqT X.K P a vs):Kd X P α s (.tup xs) (.ref a)
 |lst (a:Af) (xs:Aa D) (its:Aa Ac) (vs:Aa V) (rp:qD X.K P α xs vs) (rv:qJ vs its) (h:s.heap.IsList a its.toArray) (q:SqX X.K P a vs):Kd X P α s (.lst xs) (.ref a)
theorem jG (I:Inv X pins σ H s)(r:Rel X.K H P α S){n:Ai}{d:D}{v:V}{u:Ac}(h:pl n d=true)(p:Rep X.K P α d v)(Y:qK v u):Kd X P α s d u:=by
 cases d with
 |non=>simp only[Rep] at p;subst p;cases Y;exact .non
 |bl b=>simp only[Rep] at p;subst p;cases Y;exact .bl b
 |int i=>simp only[Rep] at p;subst p;obtain⟨t,rfl⟩:=Y;exact .int i t
 |str x=>simp only[Rep] at p;subst p;obtain⟨t,rfl⟩:=Y;exact .str x t
 |tup G =>
  simp only[Rep] at p;obtain⟨a,J,rfl,q,t⟩:=p;cases Y;obtain⟨Q,N,U,_⟩:=I.tuple (xH r.sub q);exact .tup a G Q J t N U q
 |lst G =>
  simp only[Rep] at p;obtain⟨a,J,rfl,q,t⟩:=p;cases Y;obtain⟨Q,N,U,_⟩:=I.list ((xD r.sub q).l);exact .lst a G Q J t N U.isList q
 |_=>cases n <;> exact Ja h
theorem vH {Q:Aa D}{vs:Aa V}{its:Aa Ac}(G:qD X.K P α Q vs)(J:qJ vs its){j:Ai}(h:j<its.toArray.size):∃ v,Rep X.K P α (Q.getD j .non) v/\qK v its.toArray[j]/\Q.getD j .non∈Q:=by
 have T:=G.length;have L:=J.length;have N:j<its.length:=by simpa using h
 have Y:j<Q.length:=by lia
 obtain⟨v,O,p⟩:=G.get (Ap Y);obtain⟨u,U,q⟩:=J.get O;have C:its.toArray[j]=u:=by
  have:its[j]? = Ab its[j]:=Ap N;rw[this] at U;simpa using Cy U
 have B:Q.getD j .non=Q[j]:=by simp[Lb,Y]
 rw[C,B];exact⟨v,p,q,Tu Y⟩
theorem jI {n:Ai}{Q:Aa D}(h:Q.all (pl n)=true){d:D}(Y:d∈Q):pl n d=true:=Cb.mp h d Y
theorem BB {h:Bo}{a:Af}{xs Q:Ay Ac}(h1:h.IsTuple a xs)(h2:h.IsTuple a Q):xs=Q:=by
 obtain⟨o,e,_,n,d⟩:=h1;obtain⟨U,Y,_,G,J⟩:=h2;cases e.symm.trans Y;cases d.symm.trans J;rfl
theorem B7 {h:Bo}{a:Af}{xs Q:Ay Ac}(h1:h.IsList a xs)(h2:h.IsList a Q):xs=Q:=by
 obtain⟨o,e,_,n,d⟩:=h1;obtain⟨U,Y,_,G,J⟩:=h2;cases e.symm.trans Y;cases d.symm.trans J;rfl
theorem LD {h:Bo}{a:Af}{xs Y:Ay Ac}(h1:h.IsTuple a xs)(h2:h.IsList a Y):Fn:=by
 obtain⟨o,e,c,_⟩:=h1;obtain⟨U,Q,J,_⟩:=h2;cases e.symm.trans Q;exact absurd (c.symm.trans J) (by decide)
inductive Seqs (X:Cx)(P:Hp)(α : Aa Af)(xs ys:Aa D)(its its2:Aa Ac):Prop
 |mk (vs ws:Aa V) (rp:qD X.K P α xs vs) (rv:qJ vs its) (rp2:qD X.K P α ys ws) (rv2:qJ ws its2):Seqs X P α xs ys its its2
theorem Seqs.len1 {xs Y:Aa D}{its Q:Aa Ac}(q:Seqs X P α xs Y its Q):xs.length=its.length:=by
 obtain⟨G,N,U,J,_,_⟩:=q;exact U.length.trans J.length
theorem Seqs.len2 {xs Y:Aa D}{its Q:Aa Ac}(q:Seqs X P α xs Y its Q):Y.length=Q.length:=by
 obtain⟨G,N,_,_,U,J⟩:=q;exact U.length.trans J.length
inductive SameR (X:Cx)(P:Hp)(α : Aa Af):D->D->Prop
 |eq {d d':D} (h:eqD d d'=true):SameR X P α d d'
 |tt (xs ys:Aa D) (its:Aa Ac) (q:Seqs X P α xs ys its its):SameR X P α (.tup xs) (.tup ys)
 |ll (xs ys:Aa D) (its:Aa Ac) (q:Seqs X P α xs ys its its):SameR X P α (.lst xs) (.lst ys)
theorem iN {d d':D}{u:Ac}(k1:Kd X P α s d u)(k2:Kd X P α s d' u):SameR X P α d d':=by
 cases k1 with
 |non=>cases k2;exact .eq rfl
 |bl b=>cases k2;exact .eq (Fz _)
 |int i t=>cases k2;exact .eq (Fz _)
 |str x t=>cases k2;exact .eq (Fz _)
 |tup a B G C E T h q =>
  cases k2 with
  |tup _ N J O Q Y U L =>
   cases BB h U;exact .tt B N G ⟨C,O,E,T,Q,Y⟩
  |lst _ N J O Q Y U L=>exact(LD h U).elim
 |lst a B G C E T h q =>
  cases k2 with
  |lst _ N J O Q Y U L =>
   cases B7 h U;exact .ll B N G ⟨C,O,E,T,Q,Y⟩
  |tup _ N J O Q Y U L=>exact(LD U h).elim
theorem lL (I:Inv X pins σ H s)(r:Rel X.K H P α S){m:Ai}(B:∀ (d d':D) (u:Ac),pl m d=true->pl m d'=true->Kd X P α s d u->Kd X P α s d' u->eqD d d'=true){xs U:Aa D}{its:Aa Ac}(h1:xs.all (pl m)=true)(h2:U.all (pl m)=true)(q:Seqs X P α xs U its its):wI xs U=true:=by
 obtain⟨y,o,O,N,Y,Q⟩:=q;have w:=O.length.trans N.length;have T:=Y.length.trans Q.length;rw[uO,w,T,Yv,Ax];refine⟨Cb.mpr λj J=>?_,BEq.rfl⟩;have J:j<its.toArray.size:=Du.mp J;obtain⟨g,A,L,G⟩:=vH O N J;obtain⟨p,E,M,C⟩:=vH Y Q J;exact B _ _ _ (jI h1 G) (jI h2 C) (jG I r (jI h1 G) A L) (jG I r (jI h2 C) E M)
theorem aG (I:Inv X pins σ H s)(r:Rel X.K H P α S):∀ (n:Ai) (d d':D) (u:Ac),pl n d=true->pl n d'=true->Kd X P α s d u->Kd X P α s d' u->eqD d d'=true:=by
 intro n
 induction n with
 |zero =>
  intro d d' u Q U N G;cases iN N G with
  |eq h=>exact h
  |tt=>exact Ja Q
  |ll=>exact Ja Q
 |succ m C =>
  intro d d' u Q U N G;cases iN N G with
  |eq h=>exact h
  |tt Y J O q=>exact(tW Y J).trans (lL I r C Q U q)
  |ll Y J O q=>exact(tV Y J).trans (lL I r C Q U q)
structure E3 (A:Br)(s:Ag)(u u':Ac)(b:As):Prop where
 eq:EqAt A s u u' b
 rc:RcAt A s u u' b
 ne:RcNeAt A s u u' (!b)
inductive EqR (X:Cx)(P:Hp)(α : Aa Af)(A:Br)(s:Ag):D->D->Ac->Ac->Prop
 |of {d d':D} {u u':Ac} (b:As) (e:eqD d d'=b) (h:E3 A s u u' b):EqR X P α A s d d' u u'
 |tt (a b:Af) (xs ys:Aa D) (its its2:Aa Ac) (ha:s.heap.IsTuple a its.toArray) (hb:s.heap.IsTuple b its2.toArray) (q:Seqs X P α xs ys its its2):EqR X P α A s (.tup xs) (.tup ys) (.ref a) (.ref b)
 |ll (a b:Af) (xs ys:Aa D) (its its2:Aa Ac) (ha:s.heap.IsList a its.toArray) (hb:s.heap.IsList b its2.toArray) (q:Seqs X P α xs ys its its2):EqR X P α A s (.lst xs) (.lst ys) (.ref a) (.ref b)
theorem K2 {A:Br}{d d':D}{u y:Ac}(Q:A.units<Fk)(k1:Kd X P α s d u)(k2:Kd X P α s d' y):EqR X P α A s d d' u y:=by
 cases k1 with
 |non  =>
  cases k2 with
  |non  => exact .of _ rfl ⟨AaW _,RcAt.none_none,RcNeAt.none_none⟩
  |bl b=>exact .of _ rfl ⟨EqAt.none_bool b,RcAt.none_bool b,RcNeAt.none_bool b⟩
  |int b Y=>exact .of _ rfl ⟨EqAt.none_int b Y,RcAt.none_int b Y,RcNeAt.none_int b Y⟩
  |str b Y=>exact .of _ rfl ⟨EqAt.none_str b Y,RcAt.none_str b Y,RcNeAt.none_str b Y⟩
  |tup b B U L O C J T=>exact .of _ rfl ⟨EqAt.none_tuple J Q,RcAt.none_tuple J Q,RcNeAt.none_tuple J Q⟩
  |lst b B U L O C J T=>exact .of _ rfl ⟨EqAt.none_list J Q,RcAt.none_list J Q,RcNeAt.none_list J Q⟩
 |bl a =>
  cases k2 with
  |non  => exact .of _ rfl ⟨EqAt.bool_none a,RcAt.bool_none a,RcNeAt.bool_none a⟩
  |bl b=>exact .of _ rfl ⟨EqAt.bool_bool a b,RcAt.bool_bool a b,RcNeAt.bool_bool a b⟩
  |int b Y=>exact .of _ rfl ⟨EqAt.bool_int a b Y,RcAt.bool_int a b Y,RcNeAt.bool_int a b Y⟩
  |str b Y=>exact .of _ rfl ⟨EqAt.bool_str a b Y,RcAt.bool_str a b Y,RcNeAt.bool_str a b Y⟩
  |tup b B U L O C J T=>exact .of _ rfl ⟨EqAt.bool_tuple a J Q,RcAt.bool_tuple a J Q,RcNeAt.bool_tuple a J Q⟩
  |lst b B U L O C J T=>exact .of _ rfl ⟨EqAt.bool_list a J Q,RcAt.bool_list a J Q,RcNeAt.bool_list a J Q⟩
 |int a G =>
  cases k2 with
  |non  => exact .of _ rfl ⟨EqAt.int_none a G,RcAt.int_none a G,RcNeAt.int_none a G⟩
  |bl b=>exact .of _ rfl ⟨EqAt.int_bool a G b,RcAt.int_bool a G b,RcNeAt.int_bool a G b⟩
  |int b Y=>exact .of _ rfl ⟨EqAt.int_int a G b Y,RcAt.int_int a G b Y,RcNeAt.int_int a G b Y⟩
  |str b Y=>exact .of _ rfl ⟨EqAt.int_str a G b Y,RcAt.int_str a G b Y,RcNeAt.int_str a G b Y⟩
  |tup b B U L O C J T=>exact .of _ rfl ⟨EqAt.int_tuple a G J Q,RcAt.int_tuple a G J Q,RcNeAt.int_tuple a G J Q⟩
  |lst b B U L O C J T=>exact .of _ rfl ⟨EqAt.int_list a G J Q,RcAt.int_list a G J Q,RcNeAt.int_list a G J Q⟩
 |str a G =>
  cases k2 with
  |non  => exact .of _ rfl ⟨EqAt.str_none a G,RcAt.str_none a G,RcNeAt.str_none a G⟩
  |bl b=>exact .of _ rfl ⟨EqAt.str_bool a G b,RcAt.str_bool a G b,RcNeAt.str_bool a G b⟩
  |int b Y=>exact .of _ rfl ⟨EqAt.str_int a G b Y,RcAt.str_int a G b Y,RcNeAt.str_int a G b Y⟩
  |str b Y=>exact .of _ rfl ⟨EqAt.str_str a G b Y,RcAt.str_str a G b Y,RcNeAt.str_str a G b Y⟩
  |tup b B U L O C J T=>exact .of _ rfl ⟨EqAt.str_tuple a G J Q,RcAt.str_tuple a G J Q,RcNeAt.str_tuple a G J Q⟩
  |lst b B U L O C J T=>exact .of _ rfl ⟨EqAt.str_list a G J Q,RcAt.str_list a G J Q,RcNeAt.str_list a G J Q⟩
 |tup a M E I j w N q =>
  cases k2 with
  |non  => exact .of _ rfl ⟨EqAt.tuple_none N Q,RcAt.tuple_none N Q,RcNeAt.tuple_none N Q⟩
  |bl b=>exact .of _ rfl ⟨EqAt.tuple_bool b N Q,RcAt.tuple_bool b N Q,RcNeAt.tuple_bool b N Q⟩
  |int b Y=>exact .of _ rfl ⟨EqAt.tuple_int b Y N Q,RcAt.tuple_int b Y N Q,RcNeAt.tuple_int b Y N Q⟩
  |str b Y=>exact .of _ rfl ⟨EqAt.tuple_str b Y N Q,RcAt.tuple_str b Y N Q,RcNeAt.tuple_str b Y N Q⟩
  |tup b B U L O C J T=>exact .tt a b M B E U N J ⟨I,L,j,w,O,C⟩
  |lst b B U L O C J T=>exact .of _ rfl ⟨EqAt.tuple_list N J Q,RcAt.tuple_list N J Q,RcNeAt.tuple_list N J Q⟩
 |lst a M E I j w N q =>
  cases k2 with
  |non  => exact .of _ rfl ⟨EqAt.list_none N Q,RcAt.list_none N Q,RcNeAt.list_none N Q⟩
  |bl b=>exact .of _ rfl ⟨EqAt.list_bool b N Q,RcAt.list_bool b N Q,RcNeAt.list_bool b N Q⟩
  |int b Y=>exact .of _ rfl ⟨EqAt.list_int b Y N Q,RcAt.list_int b Y N Q,RcNeAt.list_int b Y N Q⟩
  |str b Y=>exact .of _ rfl ⟨EqAt.list_str b Y N Q,RcAt.list_str b Y N Q,RcNeAt.list_str b Y N Q⟩
  |tup b B U L O C J T=>exact .of _ rfl ⟨EqAt.list_tuple N J Q,RcAt.list_tuple N J Q,RcNeAt.list_tuple N J Q⟩
  |lst b B U L O C J T=>exact .ll a b M B E U N J ⟨I,L,j,w,O,C⟩
theorem E3.cast {A:Br}{u Q:Ac}{b c:As}(e:c=b)(h:E3 A s u Q b):E3 A s u Q c:=e▸h
theorem HQ {A:Br}{a b:Af}{xs J:Aa D}{its Q:Aa Ac}(G:A.units<Fk)(O:s.heap.IsTuple a its.toArray)(N:s.heap.IsTuple b Q.toArray)(B:xs.length=its.length)(C:J.length=Q.length)
  (sub:∀ j (h1:j<its.toArray.size) (h2:j<Q.toArray.size),EqAt A.in1 s its.toArray[j] Q.toArray[j] (eqD (xs.getD j .non) (J.getD j .non))) (same:a=b->wI xs J=true):E3 A s (.ref a) (.ref b) (wI xs J):=by
 have e:wI xs J=((Cu (min its.toArray.size Q.toArray.size)).all (λj=>eqD (xs.getD j .non) (J.getD j .non))&&its.toArray.size == Q.toArray.size):=by rw[uO,B,C];rfl
 have U:=RcAt.tuples O N G sub;have R2:=RcNeAt.tuples O N G sub;rw[<- e] at U R2;refine⟨?_,U,R2⟩;by_cases Y:a=b
 .rw[same Y,Y]
  exact AaW _
 .exact EqAt.of_refs Y U
theorem HP {A:Br}{a b:Af}{xs Y:Aa D}{its Q:Aa Ac}(G:A.units<Fk)(O:s.heap.IsList a its.toArray)(N:s.heap.IsList b Q.toArray)(L:xs.length=its.length)(C:Y.length=Q.length)
  (sub:∀ j (h1:j<its.toArray.size) (h2:j<Q.toArray.size),EqAt A.in1 s its.toArray[j] Q.toArray[j] (eqD (xs.getD j .non) (Y.getD j .non))) (same:a=b->wI xs Y=true):E3 A s (.ref a) (.ref b) (wI xs Y):=by
 have R:RcAt A s (.ref a) (.ref b) (wI xs Y)/\RcNeAt A s (.ref a) (.ref b) (!wI xs Y):=by
  by_cases U:its.length=Q.length
  .have e:wI xs Y=(Cu its.toArray.size).all (λj=>eqD (xs.getD j .non) (Y.getD j .non)):=by rw[uO,L,C,<- U,Yv,BEq.rfl,Bool.and_true];rfl
   rw[e];exact⟨RcAt.lists O N U G sub,RcNeAt.lists O N U G sub⟩
  .rw[VA (by rw[L,C];exact U)]
   have B:(its.toArray.size != Q.toArray.size)=true:=bne_iff_ne.mpr U;exact⟨RcAt.lists_lengths O N B G,RcNeAt.lists_lengths O N B G⟩
 refine⟨?_,R.1,R.2⟩;by_cases J:a=b
 .rw[same J,J]
  exact AaW _
 .exact EqAt.of_refs J R.1
theorem ZY (I:Inv X pins σ H s)(r:Rel X.K H P α S):∀ (n:Ai) (A:Br) (d d':D) (u L:Ac),A.units+n<Fk->pl n d=true->pl n d'=true->Kd X P α s d u->Kd X P α s d' L->E3 A s u L (eqD d d'):=by
 intro n
 induction n with
 |zero =>
  intro A d d' u L T G O B C;cases K2 T B C with
  |of b e h=>exact h.cast e
  |tt=>exact Ja G
  |ll=>exact Ja G
 |succ m g =>
  intro A d d' u L T G O B C;have N:A.units<Fk:=Mx (Hz _ _) T;have hu1:A.in1.units+m<Fk:=by show A.units+1+m<Fk;lia
  have sub:∀ {J U:Aa D} {Y Q:Aa Ac},J.all (pl m)=true->U.all (pl m)=true->Seqs X P α J U Y Q ->
    ∀ j (G:j<Y.toArray.size) (O:j<Q.toArray.size),EqAt A.in1 s Y.toArray[j] Q.toArray[j] (eqD (J.getD j .non) (U.getD j .non)):=λ{J U Y Q} o y ⟨vs,ws,i,b2,c1,f⟩ j g1 v=>by
   obtain⟨w1,y1,c,w⟩:=vH i b2 g1;obtain⟨w2,x,z2,p⟩:=vH c1 f v;exact(g A.in1 _ _ _ _ hu1 (jI o w) (jI y p) (jG I r (jI o w) y1 c) (jG I r (jI y p) x z2)).eq
  cases K2 N B C with
  |of b e h=>exact h.cast e
  |tt a b J U Y Q M E q=>exact(HQ N M E q.len1 q.len2 (sub G O q) λe=>by subst e;exact(tW J U).symm.trans (aG I r (m+1) _ _ _ G O B C)).cast (tW J U)
  |ll a b J U Y Q M E q=>exact(HP N M E q.len1 q.len2 (sub G O q) λe=>by subst e;exact(tV J U).symm.trans (aG I r (m+1) _ _ _ G O B C)).cast (tV J U)
noncomputable def yF:Ai:=30
noncomputable def gEq:G2:=λa b S=>if pl yF a&&pl yF b then .ok (.bl (eqD a b)) S else .bad
noncomputable def gNe:G2:=λa b S=>if pl yF a&&pl yF b then .ok (.bl (!eqD a b)) S else .bad
set_option tactic.hygienic true in
theorem A5 (O:X.A.units+64<Fk):OpD X (Df .Eq) gEq:=by
 intro pins σ H s P α S v u J N a b Q I r U G pa pb Y;unfold gEq at Y
 split at Y
 .rename_i h
  rw[Ax] at h;exact(ZY I r yF X.A a b J N (by unfold yF;lia) h.1 h.2 (jG I r h.1 pa U) (jG I r h.2 pb G)).rc _ _ _ _ ⟨.bl _,H,I,rfl,xr Y r (by simp only[Rep])⟩
 .exact An Y
set_option tactic.hygienic true in
theorem KN (O:X.A.units+64<Fk):OpD X (Df .NotEq) gNe:=by
 intro pins σ H s P α S v u J N a b Q I r U G pa pb Y;unfold gNe at Y
 split at Y
 .rename_i h
  rw[Ax] at h;exact(ZY I r yF X.A a b J N (by unfold yF;lia) h.1 h.2 (jG I r h.1 pa U) (jG I r h.2 pb G)).ne _ _ _ _ ⟨.bl _,H,I,rfl,xr Y r (by simp only[Rep])⟩
 .exact An Y
end
end _D
end
namespace _D
open PySem PySem.Spec PyProof.Rows _L
variable {pins:Aa (Af × Cq)}{kvs:Aa (Key × D)}{its us:Aa Ac}{xs ds:Aa D}{vs:Aa V}{f:Ac->Ac->Ko Ac}{s:Ag}{d:D}{v:V}{Q:VK}{σ:_L.St}
section
variable {X:Cx}
noncomputable def i2 (C:Ak->Ak->As)(f:Ak->Ak->D):G2:=λa b S=>match a,b with
 |.int i,.int j=>if C i j then .ok (f i j) S else .bad
 |_,_=>.bad
theorem K7 {C:Ak->Ak->As}{f:Ak->Ak->D}{a b:D}{S:Sto}{P:Hp}{α:Aa Af}{Ok:D->Sto->Prop}(h:qI X P α (i2 C f a b S) Ok):∃ i j,a=.int i/\b=.int j/\C i j=true/\Ok (f i j) S:=by
 cases a with
 |int i =>
  cases b with
  |int j =>
   obtain⟨Y,h⟩:=x9 (X:=X) h;exact⟨i,j,rfl,rfl,Y,h⟩
  |_=>exact An h
 |_=>exact An h
theorem zR {P:Hp}{α:Aa Af}{i:Ak}(r:Rep X.K P α (.int i) v):v=.int i:=by simpa only [Rep] using r
theorem mW {Y:Ak->Ak->Prop}{v:Ak->Ak->V}{C:Ak->Ak->As}{d:Ak->Ak->D}(h:OpR X f (rI Y v))(O:∀ i j,C i j=true->Y i j)(hv:∀ P α i j,Rep X.K P α (d i j) (v i j)):OpD X f (i2 C d):=
 OpD.of h λH P α S x y a b Q r J U N=>by
  obtain⟨i,j,rfl,rfl,G,ok⟩:=K7 N;exact⟨i,j,zR J,zR U,O i j G,xr ok r (hv P α i j)⟩
theorem pN {v:Ak->Ak->V}{d:Ak->Ak->D}(h:OpR X f (rI0 v))(hv:∀ P α i j,Rep X.K P α (d i j) (v i j)):OpD X f (i2 (λ_ _=>true) d):=
 OpD.of h λH P α S x y a b Q r Y J U=>by
  obtain⟨i,j,rfl,rfl,_,ok⟩:=K7 U;exact⟨i,j,zR Y,zR J,xr ok r (hv P α i j)⟩
noncomputable def xC:G2:=i2 (λ_ _=>true) λi j=>.int (i-j)
theorem SC:OpD X (Ei .Sub) xC:=pN SR λP α i j=>by simp only[Rep]
noncomputable def sU (i j:Ak):As:=decide (-(2 ^ 64)<i/\i<2 ^ 64)||decide (-(2 ^ 64)<j/\j<2 ^ 64)
theorem BZ:OpD X (Ei .Mult) (i2 sU λi j=>.int (i*j)):=mW SO (λi j h=>by
 unfold sU at h;rw[Ml] at h;rcases h with h|h
 .exact .inl (Bv h)
 .exact .inr (Bv h)) λP α i j=>by simp only[Rep]
noncomputable def TC (i j:Ak):As:=decide (0<j/\j<1073741824)
noncomputable def jO:G2:=i2 TC λi j=>.int (i/j)
theorem DZ:OpD X (Ei .FloorDiv) jO:=mW F3 (λi j h=>(Bv h:0<j/\j<1073741824)) λP α i j=>by simp only[Rep]
noncomputable def jP:G2:=i2 (λ_ j=>decide (0<j)) λi j=>.int (i % j)
theorem SA:OpD X (Ei .Mod) jP:=mW SN (λi j h=>Bv h) λP α i j=>by simp only[Rep]
noncomputable def O9 (i j:Ak):As:=decide (0<=j/\j<=1000000/\i.natAbs<2 ^ 64)
noncomputable def pJ:G2:=i2 O9 λi j=>.int (i ^ j.toNat)
theorem SB:OpD X (Ei .Pow) pJ:=mW SQ (λi j h=>(Bv h:0<=j/\j<=1000000/\i.natAbs<2 ^ 64)) λP α i j=>by simp only[Rep]
noncomputable def gLt:G2:=i2 (λ_ _=>true) λi j=>.bl (decide (i<j))
noncomputable def gLe:G2:=i2 (λ_ _=>true) λi j=>.bl (decide (i<=j))
noncomputable def gGt:G2:=i2 (λ_ _=>true) λi j=>.bl (decide (j<i))
noncomputable def gGe:G2:=i2 (λ_ _=>true) λi j=>.bl (decide (j<=i))
theorem KM:OpD X (Df .Lt) gLt:=pN AD λP α i j=>by simp only[Rep]
theorem A9:OpD X (Df .LtE) gLe:=pN AC λP α i j=>by simp only[Rep]
theorem A7:OpD X (Df .Gt) gGt:=pN AB λP α i j=>by simp only[Rep]
theorem A6:OpD X (Df .GtE) gGe:=pN AA λP α i j=>by simp only[Rep]
noncomputable def kT:D->Sto->Res D:=λa S=>match a with
 |.int i=>.ok (.int (-i)) S
 |_=>.bad
theorem EF:UnD X (sB .USub) kT:=by
 intro pins σ H s P α S v U a Q I r J p Y;cases a with
 |int i=>exact EG pins s σ H v U Q I J ⟨i,zR p,xr Y r (by simp only[Rep])⟩
 |_=>exact An Y
noncomputable def gIs:G2:=λa b S=>match b with
 |.non=>match a with
  |.non=>.ok (.bl true) S
  |_=>.ok (.bl false) S
 |_=>.bad
theorem BS {P:Hp}{α:Aa Af}(r:Rep X.K P α d v):decide (v=.non)=(match d with|.non=>true|_=>false):=by
 cases d <;> simp only[Rep] at r
 case non=>subst r;rfl
 case bl=>subst r;rfl
 case int=>subst r;rfl
 case str=>subst r;rfl
 case ty=>subst r;rfl
 case clo=>obtain⟨rfl,_⟩:=r;rfl
 case obj=>obtain⟨rfl,_⟩:=r;rfl
 case tup=>obtain⟨a,vs,rfl,_⟩:=r;rfl
 case lst=>obtain⟨a,vs,rfl,_⟩:=r;rfl
 case dct0=>obtain⟨a,rfl,_⟩:=r;rfl
 case loc=>obtain⟨a,rfl,_⟩:=r;rfl
 case exn=>obtain⟨a,rfl,_⟩:=r;rfl
 case fd=>obtain⟨a,o,vs,rfl,_⟩:=r;rfl
theorem A8:OpD X (Df .Is) gIs:=OpD.of SM λH P α S x y a b Q r U Y J=>by
 cases b with
 |non =>
  simp only[Rep] at Y;refine⟨Y,?_⟩;rw[BS U];cases a <;> exact xr J r (by simp only[Rep])
 |_=>exact An J
noncomputable def zG:G2:=λa b S=>match a,b with
 |.int i,.int j=>.ok (.int (i+j)) S
 |.str x,.str y=>if x.length+y.length<=lim then .ok (.str (x++y)) S else .bad
 |.tup xs,.tup Y=>if xs.length+Y.length<=lim then .ok (.tup (xs++Y)) S else .bad
 |.lst xs,.lst Y=>if xs.length+Y.length<=lim then .ok (.lst (xs++Y)) S else .bad
 |_,_=>.bad
theorem vY {H P:Hp}{α:Aa Af}{S:Sto}(I:Inv X pins σ H s)(r:Rel X.K H P α S)(p:Rep X.K P α (.tup xs) v) :
  ∃ a vs its,v=.ref a/\SqT X.K P a vs/\qD X.K P α xs vs/\qJ vs its/\Qr s.heap a its.toArray/\xs.length=its.length/\xs.length<=lim:=by
 simp only[Rep] at p;obtain⟨a,vs,rfl,q,t⟩:=p;obtain⟨its,Y,J,z⟩:=I.tuple (xH r.sub q);exact⟨a,vs,its,rfl,q,t,Y,J,by rw[t.length,Y.length],by rw[t.length,zH];exact z⟩
theorem vU {H P:Hp}{α:Aa Af}{S:Sto}(I:Inv X pins σ H s)(r:Rel X.K H P α S)(p:Rep X.K P α (.lst xs) v) :
  ∃ a vs its n,v=.ref a/\SqX X.K P a vs/\qD X.K P α xs vs/\qJ vs its/\s.heap.get? a=Ab { cls:=.type "list",data:=.seq its.toArray n } /\ xs.length=its.length/\xs.length<=lim:=by
 simp only[Rep] at p;obtain⟨a,vs,rfl,q,t⟩:=p;have:∃ its n,qJ vs its/\s.heap.get? a=Ab { cls:=.type "list",data:=.seq its.toArray n } /\ vs.length<=sizeLine:=by
  rcases q with q|⟨its,n,e,z,Y⟩
  .obtain⟨z,its,n,Y,e⟩:=(iK r.sub q).ok I.hok
   exact⟨its,n,Y,e,z⟩
  .exact⟨its,n,Y,I.kIn _ _ e,z⟩
 obtain⟨its,n,Y,e,z⟩:=this;exact⟨a,vs,its,n,rfl,q,t,Y,e,by rw[t.length,Y.length],by rw[t.length,zH];exact z⟩
theorem eA {H P:Hp}{α:Aa Af}{S:Sto}(I:Inv X pins σ H s)(r:Rel X.K H P α S)(t:qD X.K P α xs vs)(Y:qJ vs its)(hz:xs.length<=lim)
  (ok:OkV X P α Q (.tup xs) S):EP X pins σ Q (.ref s.heap.objs.size) { s with heap:=s.heap.push { cls:=.type "tuple",data:=.seq its.toArray } }:=by
 refine⟨.ref s.heap.objs.size,_,I.laid (t':=s.toks) (o:=.tup vs) (λb J q=>Ah _ q) (Av _) ⟨by rw[<- t.length,<- zH];exact hz,its,Y,Zf _ _⟩,rfl,gI r (I.hok.fresh (Av _)) t ok⟩
theorem fR {H P:Hp}{α:Aa Af}{S:Sto}(I:Inv X pins σ H s)(r:Rel X.K H P α S)(t:qD X.K P α xs vs)(Y:qJ vs its)(hz:xs.length<=lim)
  (ok:OkV X P α Q (.lst xs) S):EP X pins σ Q (.ref s.heap.objs.size) { s with heap:=s.heap.push { cls:=.type "list",data:=.seq its.toArray } }:=by
 refine⟨.ref s.heap.objs.size,_,I.laid (t':=s.toks) (o:=.lst vs) (λb J q=>Ah _ q) (Av _) ⟨by rw[<- t.length,<- zH];exact hz,its,0,Y,Bc _ rfl⟩,rfl,wA r (I.hok.fresh (Av _)) t ok⟩
theorem T4 {H P:Hp}{α:Aa Af}{S:Sto}{N:Aa D}{u:V}{g e:Ac}(I:Inv X pins σ H s)(r:Rel X.K H P α S)(rv:qK v g)(ru:qK u e)(pa:Rep X.K P α (.tup xs) v)(pb:Rep X.K P α (.tup N) u)(c:xs.length+N.length<=lim)(E:OkV X P α Q (.tup (xs++N)) S) :
  Ao (Au X.prog X.w) X.A (Ei .Add g e) (EP X pins σ Q) X.xe s:=by
 obtain⟨a,vs,its,rfl,q1,t1,T,m,x,_⟩:=vY I r pa;obtain⟨b,ws,U,rfl,q2,t2,L,y,j,_⟩:=vY I r pb;cases rv;cases ru;by_cases O:its=[]
 .obtain⟨⟨za,h,q,sl⟩,i,p,n,w⟩:=id m
  obtain⟨⟨o,M,data2,C⟩,J,Y,n2,G⟩:=id y;simp only at p w Y G;subst p w Y G;have B:xs=[]:=Kk.mp (by rw[x,O];rfl)
  subst B;exact Yp ⟨_,i,rfl⟩ ⟨_,J,rfl⟩ Tp Xh Nx Nd (Ms _ _) (tuple_addW0 a b its.toArray U.toArray n n2 h M sl C (by simp[O]))
   ⟨i,J,⟨.ref b,H,I,rfl,xr E r pb⟩⟩
 .refine _H.cat_tup m y O (λz=>⟨.ref a,H,I,rfl,xr E r ?_⟩) (λz=>?_) (by rw[<- x,<- j,<- zH];exact c)
  .have A:N=[]:=Kk.mp (by rw[j,z];rfl)
   rw[A,Fv];exact pa
  .exact eA I r (t1.append t2) (T.append L) (by rw[Cf];exact c) E
theorem T3 {H P:Hp}{α:Aa Af}{S:Sto}{Y:Aa D}{u:V}{G C:Ac}(I:Inv X pins σ H s)(r:Rel X.K H P α S)(w:qK v G)(j:qK u C)(pa:Rep X.K P α (.lst xs) v)(pb:Rep X.K P α (.lst Y) u)(N:xs.length+Y.length<=lim)(E:OkV X P α Q (.lst (xs++Y)) S) :
  Ao (Au X.prog X.w) X.A (Ei .Add G C) (EP X pins σ Q) X.xe s:=by
 obtain⟨a,vs,its,n,rfl,o,A,U,T,y,_⟩:=vU I r pa;obtain⟨b,q,O,g,rfl,p,M,J,L,B,_⟩:=vU I r pb;cases w;cases j;refine Tv T L ?_ (by rw[AT,AT,<- y,<- B,<- zH];exact N)
 rw[Qi];exact fR I r (A.append M) (U.append J) (by rw[Cf];exact N) E
inductive AddV (a b:D)(S:Sto):Prop
 |bad (e:zG a b S=.bad)
 |int (i j:Ak) (ea:a=.int i) (eb:b=.int j)
 |str (x y:Ar) (ea:a=.str x) (eb:b=.str y)
 |tup (x y:Aa D) (ea:a=.tup x) (eb:b=.tup y)
 |lst (x y:Aa D) (ea:a=.lst x) (eb:b=.lst y)
theorem O1 (a b:D)(S:Sto):AddV a b S:=by
 cases a with
 |int i=>cases b with
  |int j=>exact .int i j rfl rfl
  |_=>exact .bad rfl
 |str i=>cases b with
  |str j=>exact .str i j rfl rfl
  |_=>exact .bad rfl
 |tup i=>cases b with
  |tup j=>exact .tup i j rfl rfl
  |_=>exact .bad rfl
 |lst i=>cases b with
  |lst j=>exact .lst i j rfl rfl
  |_=>exact .bad rfl
 |_=>exact .bad rfl
theorem DY:OpD X (Ei .Add) zG:=by
 intro pins σ H s P α S v u N O a b Q I r U G pa pb Y;cases O1 a b S with
 |bad e=>rw[e] at Y;exact An Y
 |int i j ea eb =>
  subst ea eb;exact SL pins s σ H v u N O Q I U G ⟨i,j,zR pa,zR pb,xr Y r (by simp only[Rep])⟩
 |str x y ea eb =>
  subst ea eb;obtain⟨J,Y⟩:=x9 (X:=X) Y;simp only[Rep] at pa pb;exact QC pins s σ H v u N O Q I U G ⟨x,y,pa,pb,by rw[<- zH];exact J,xr Y r (by simp only[Rep])⟩
 |tup xs C ea eb =>
  subst ea eb;obtain⟨J,Y⟩:=x9 (X:=X) Y;exact T4 I r U G pa pb J Y
 |lst xs C ea eb =>
  subst ea eb;obtain⟨J,Y⟩:=x9 (X:=X) Y;exact T3 I r U G pa pb J Y
noncomputable def gIx:G2:=λa b S=>match b with
 |.int k=>match a with
  |.tup xs=>vK (atI xs k) S
  |.lst xs=>vK (atI xs k) S
  |.loc i=>match S[i]? with
   |some (.lst xs)=>vK (atI xs k) S
   |_=>.bad
  |_=>.bad
 |_=>.bad
theorem tL {P:Hp}{α:Aa Af}{k:Ak}(Y:qD X.K P α ds vs)(h:atI ds k=Ab d):∃ v,atI vs k=Ab v/\Rep X.K P α d v:=by
 unfold atI at h ⊢;rw[<- Y.length];cases q:ixN ds.length k with
 |none=>rw[q] at h;cases h
 |some j =>
  rw[q] at h;obtain⟨v,J,U⟩:=Y.get (show ds[j]? = Ab d from h)
  exact⟨v,J,U⟩
theorem OP:IxD X gIx:=by
 intro J Y pins σ H s P α S v u C T a b Q I r B L pa pb G hs;cases b with
 |int k =>
  have O:=zR pb;cases a with
  |tup xs =>
   obtain⟨d,e,ok⟩:=vL (X:=X) G;simp only[Rep] at pa;obtain⟨p,vs,rfl,q,t⟩:=pa;obtain⟨w,N,U⟩:=tL t e;exact LI J Y pins s σ H _ u C T Q I B L ⟨p,vs,k,w,rfl,O,xH r.sub q,N,xr ok r U⟩ hs
  |lst xs =>
   obtain⟨d,e,ok⟩:=vL (X:=X) G;simp only[Rep] at pa;obtain⟨p,vs,rfl,q,t⟩:=pa;obtain⟨w,N,U⟩:=tL t e;exact aY J Y pins s σ H _ u C T Q I B L ⟨p,vs,k,w,rfl,O,(xD r.sub q).l,N,xr ok r U⟩ hs
  |loc i =>
   obtain⟨xs,E,G⟩:=uW (X:=X) (f:=λxs=>vK (atI xs k) S) G;obtain⟨d,e,ok⟩:=vL (X:=X) G;simp only[Rep] at pa;obtain⟨p,rfl,q⟩:=pa;obtain⟨vs,z,t⟩:=r.at' i p _ q E;obtain⟨w,N,U⟩:=tL t e;exact aY J Y pins s σ H _ u C T Q I B L ⟨p,vs,k,w,rfl,O,.of z,N,xr ok r U⟩ hs
  |_=>exact An G
 |_=>exact An G
noncomputable def fO:G3:=λo i d S=>match o,i with
 |.loc n,.int k=>match S[n]? with
  |some (.lst xs)=>match ixN xs.length k with
   |some j=>.ok () (S.set n (.lst (xs.set j d)))
   |none=>.bad
  |_=>.bad
 |_,_=>.bad
theorem AS:sN X (sJ X fO):=by
 intro pins s σ H o i v C B u Q I O N L h;obtain⟨P,α,S,a,b,d,r,pa,pb,G,Y⟩:=h;cases a with
 |loc n =>
  cases b with
  |int k =>
   obtain⟨xs,U,Y⟩:=uW (X:=X) (f:=λxs=>match ixN xs.length k with|some j=>.ok () (S.set n (.lst (xs.set j d)))|none=>.bad) Y
   cases J:ixN xs.length k with
   |none=>rw[J] at Y;exact An Y
   |some j =>
    rw[J] at Y;simp only[Rep] at pa;obtain⟨p,rfl,q⟩:=pa;obtain⟨vs,z,t⟩:=r.at' n p _ q U;refine JB pins s σ H _ i v C B u Q I O N L ⟨p,vs,k,j,rfl,zR pb,z,by rw[<- t.length];exact J,?_⟩
    refine Y _ P α (r.put (m':=.lst (xs.set j d)) q U (by intro z;cases z) ⟨vs.set j v,qQ,t.set G j⟩) (qE.refl _) (Bh _)
  |_=>exact An Y
 |_=>exact An Y
noncomputable def Q0:D->Sto->Am Ai
 |.tup xs,_=>Ab xs.length
 |.lst xs,_=>Ab xs.length
 |.str x,_=>if x.length<=lim then Ab x.length else none
 |.dct0,_=>Ab 0
 |.loc i,S=>match S[i]? with
  |some (.lst xs)=>Ab xs.length
  |_=>none
 |_,_=>none
noncomputable def rO:DF:=λds S=>match ds with
 |[d]=>match Q0 d S with
  |some n=>.ok (.int n) S
  |none=>.bad
 |_=>.bad
end
section
variable {X:Cx}
theorem y8 {P:Hp}{α:Aa Af}(J:qD X.K P α [d] vs)(Y:qJ vs us):∃ v u,vs=[v]/\us=[u]/\Rep X.K P α d v/\qK v u:=by
 obtain⟨v,U,rfl,p,t⟩:=J.cons_inv;have:=t.nil_inv;subst this;obtain⟨u,rfl,q⟩:=jM Y;exact⟨v,u,rfl,rfl,p,q⟩
theorem uD {P:Hp}{α:Aa Af}{e:D}(N:qD X.K P α [d,e] vs)(G:qJ vs us):∃ v w u x,vs=[v,w]/\us=[u,x]/\Rep X.K P α d v/\Rep X.K P α e w/\qK v u/\qK w x:=by
 obtain⟨v,U,rfl,p,t⟩:=N.cons_inv;obtain⟨w,U,rfl,J,t⟩:=t.cons_inv;have:=t.nil_inv;subst this;obtain⟨u,x,rfl,q,Y⟩:=sL G;exact⟨v,w,u,x,rfl,rfl,p,J,q,Y⟩
noncomputable def oZ (d:D)(S:Sto):Am Ai:=match d with
 |.dct0=>none
 |_=>Q0 d S
theorem D0 {H P:Hp}{α:Aa Af}{S:Sto}{n:Ai}(r:Rel X.K H P α S)(p:Rep X.K P α d v)(Y:oZ d S=Ab n):MW X.K v H n:=by
 cases d with
 |str x =>
  cases (show v=.str x from p)
  obtain⟨G,rfl⟩:=kY Y;exact⟨by rw[<- zH];exact G,rfl⟩
 |tup xs =>
  simp only[Rep] at p;obtain⟨a,J,rfl,sq,t⟩:=p;cases Y;exact .inr ⟨J,xH r.sub sq,t.length⟩
 |lst xs =>
  simp only[Rep] at p;obtain⟨a,J,rfl,sq,t⟩:=p;cases Y;exact .inl ⟨J,(xD r.sub sq).l,t.length⟩
 |loc i =>
  simp only[Rep] at p;obtain⟨a,rfl,e⟩:=p;obtain⟨xs,U,Y⟩:=D3 (f:=λxs=>Ab xs.length) Y;cases Y;obtain⟨J,z,t⟩:=r.at' i a _ e U;exact .inl ⟨J,.of z,t.length⟩
 |_=>exact nn Y
inductive LenD1 (ds:Aa D)(S:Sto)(r:Res D):Prop
 |bad (e:r=.bad)
 |of (d:D) (n:Ai) (ed:ds=[d]) (hn:oZ d S=Ab n) (e:r=.ok (.int n) S)
theorem CC (ds:Aa D)(S:Sto):LenD1 ds S (match ds with|[.dct0]=>.bad|_=>rO ds S):=by
 cases ds with
 |nil=>exact .bad rfl
 |cons d ds =>
  cases ds with
  |cons _ _=>cases d <;> exact .bad rfl
  |nil =>
   have z:(match [d] with|[D.dct0]=>Res.bad|_=>rO [d] S)=(match oZ d S with|some n=>Res.ok (D.int n) S|none=>.bad):=by cases d <;> rfl
   rw[z];cases Y:oZ d S with
   |none=>exact .bad rfl
   |some n=>exact .of d n rfl Y rfl
theorem TJ (C:Oe):xQ X (.builtin "len") (λds S=>match ds with|[.dct0]=>.bad|_=>rO ds S):=by
 intro pins σ H s P α S vs us ds Q I r U O J;have Y:qI X P α (match ds with|[D.dct0]=>Res.bad|_=>rO ds S) (OkV X P α Q):=J
 clear J;cases CC ds S with
 |bad e=>rw[e] at Y;exact An Y
 |of d n G N e =>
  rw[e] at Y;subst G;obtain⟨v,u,rfl,rfl,p,q⟩:=y8 O U;exact YI pins s σ H _ _ Q I U ⟨v,n,rfl,D0 r p N,xr Y r (by simp only[Rep])⟩
noncomputable def tyD:D->Sto->Am Em
 |.non,_=>Ab "NoneType"
 |.bl _,_=>Ab "bool"
 |.int _,_=>Ab "int"
 |.str _,_=>Ab "str"
 |.tup _,_=>Ab "tuple"
 |.lst _,_=>Ab "list"
 |.dct0,_=>Ab "dict"
 |.loc i,S=>match S[i]? with
  |some (.lst _)=>Ab "list"
  |some (.dct _)=>Ab "dict"
  |_=>none
 |_,_=>none
noncomputable def w8 (a b:Em):As:=a == b||(a == "bool" && b == "int")
noncomputable def uV (b:Em):As:=b == "int" || b == "bool" || b == "tuple" || b == "list" || b == "str" || b == "dict"
noncomputable def LU (a b:Em):Am As:=if (Hc a == Hc b)=true then Ab true else if PySem.W.kitMeta b=true then (fastBuiltinMro a).map (·.contains (.type b)) else none
noncomputable def tyL:Aa Em:=["NoneType","bool","int","str","tuple","list","dict"]
noncomputable def okL:Aa Em:=["int","bool","tuple","list","str","dict"]
theorem BG:(tyL.all λa=>okL.all λb=>decide (LU a b=Ab (w8 a b)))=true:=by decide +kernel
theorem SI {b:Em}(Y:uV b=true):b∈okL:=by simpa [uV,okL,or_assoc] using Y
theorem nG {K:Aj}{a b:Em}(J:a∈tyL)(Y:uV b=true):Lj K (.type a) (.type b)=Ab (w8 a b):=
 Bv (p:=LU a b=Ab (w8 a b)) (Cb.mp (Cb.mp BG a J) b (SI Y))
noncomputable def x5:DF:=λds S=>match ds with
 |[d,.ty b]=>if uV b then match tyD d S with
   |some a=>.ok (.bl (w8 a b)) S
   |none=>.bad
  else .bad
 |_=>.bad
inductive TyV (X:Cx)(H:Hp)(v:V)(a:Em):Prop
 |of (t:TyOf X.K H v (.type a))
 |tup (p:Af) (vs:Aa V) (e:v=.ref p) (q:SqT X.K H p vs) (ea:a = "tuple")
 |lst (p:Af) (vs:Aa V) (e:v=.ref p) (q:SqL X.K H p vs) (ea:a = "list")
theorem cA {S:Sto}{a:Em}(h:tyD d S=Ab a):a∈tyL:=by
 cases d with
 |non=>cases h;exact .head _
 |bl b=>cases h;exact .tail _ (.head _)
 |int i=>cases h;exact .tail _ (.tail _ (.head _))
 |str x=>cases h;exact .tail _ (.tail _ (.tail _ (.head _)))
 |tup xs=>cases h;exact .tail _ (.tail _ (.tail _ (.tail _ (.head _))))
 |lst xs=>cases h;exact .tail _ (.tail _ (.tail _ (.tail _ (.tail _ (.head _)))))
 |dct0=>cases h;exact .tail _ (.tail _ (.tail _ (.tail _ (.tail _ (.tail _ (.head _))))))
 |loc i =>
  rcases nR (f:=λ_=>Ab "list") (g:=λ_=>Ab "dict") h with⟨_,_,h⟩|⟨_,_,h⟩
  .cases h;exact .tail _ (.tail _ (.tail _ (.tail _ (.tail _ (.head _)))))
  .cases h;exact .tail _ (.tail _ (.tail _ (.tail _ (.tail _ (.tail _ (.head _))))))
 |_=>exact nn h
theorem G7 {H P:Hp}{α:Aa Af}{S:Sto}{a:Em}(r:Rel X.K H P α S)(p:Rep X.K P α d v)(h:tyD d S=Ab a):TyV X H v a:=by
 cases d with
 |non=>cases h;cases (show v=.non from p);exact .of .non
 |bl b=>cases h;cases (show v=.bl b from p);exact .of (.bl b)
 |int i=>cases h;cases (show v=.int i from p);exact .of (.int i)
 |str x=>cases h;cases (show v=.str x from p);exact .of (.str x)
 |tup xs =>
  cases h;simp only[Rep] at p;obtain⟨a,vs,e,q,t⟩:=p;exact .tup a vs e (xH r.sub q) rfl
 |lst xs =>
  cases h;simp only[Rep] at p;obtain⟨a,vs,e,q,t⟩:=p;exact .lst a vs e (xD r.sub q).l rfl
 |dct0 =>
  cases h;simp only[Rep] at p;obtain⟨a,rfl,q⟩:=p;exact .of (.dK (r.sub _ _ q))
 |loc i =>
  simp only[Rep] at p;obtain⟨a,rfl,q⟩:=p;rcases nR (f:=λ_=>Ab "list") (g:=λ_=>Ab "dict") h with⟨xs,Y,h⟩|⟨kvs,Y,h⟩
  .cases h
   obtain⟨vs,z,t⟩:=r.at' i a _ q Y;exact .of (.lst z)
  .cases h
   obtain⟨vs,z,t⟩:=r.at' i a _ q Y;exact .of (.dK z)
 |_=>exact nn h
inductive IsiV (ds:Aa D)(S:Sto):Prop
 |bad (e:x5 ds S=.bad)
 |of (d:D) (b a:Em) (ed:ds=[d,.ty b]) (hb:uV b=true) (ha:tyD d S=Ab a) (e:x5 ds S=.ok (.bl (w8 a b)) S)
theorem OM (ds:Aa D)(S:Sto):IsiV ds S:=by
 cases ds with
 |nil=>exact .bad rfl
 |cons d ds =>
  cases ds with
  |nil=>exact .bad rfl
  |cons e ds =>
   cases ds with
   |cons _ _=>cases e <;> exact .bad rfl
   |nil =>
    cases e with
    |ty b =>
     have z:x5 [d,.ty b] S=if uV b then (match tyD d S with|some a=>.ok (.bl (w8 a b)) S|none=>.bad) else .bad:=rfl
     by_cases Y:uV b=true
     .rw[Be Y] at z
      cases J:tyD d S with
      |none=>rw[J] at z;exact .bad z
      |some a=>rw[J] at z;exact .of d b a rfl Y J z
     .rw[Bg Y] at z
      exact .bad z
    |_=>exact .bad rfl
theorem ZI:xQ X (.builtin "isinstance") x5:=by
 intro pins σ H s P α S vs us ds Q I r j y U;cases OM ds S with
 |bad e=>rw[e] at U;exact An U
 |of d b a A T B e =>
  subst A;rw[e] at U;obtain⟨v,w,u,x,rfl,rfl,p,J,q,L⟩:=uD y j;simp only[Rep] at J;subst J;cases (show x=Hc b from L)
  have Y:=nG (K:=X.K) (cA B) T;have fin:∀ N,EP X pins σ Q (.bool (w8 a b)) { s with toks:=N }:=λN=>⟨.bl _,H,I.tok N,rfl,xr U r (by simp only[Rep])⟩
  cases G7 r p B with
  |of M=>exact X8 I q M Y fin
  |tup J E e sq ea =>
   subst e ea;cases (show u=Cg J from q)
   obtain⟨its,C,⟨o,O,G,_⟩,_⟩:=I.tuple sq;exact En Mv I.kIn ⟨o,O,G⟩ Y (λz=>nomatch z) fin
  |lst J E e sq ea =>
   subst e ea;cases (show u=Cg J from q)
   obtain⟨its,C,⟨o,_,O,G,_⟩,_⟩:=I.list sq;exact En Js I.kIn ⟨o,O,G⟩ Y (λz=>nomatch z) fin
noncomputable def zZ:Aa D->Am (Aa As)
 |[]=>Ab []
 |.bl b::r=>(zZ r).map (b::·)
 |_=>none
theorem yU {P:Hp}{α:Aa Af}:∀ {ds:Aa D} {bs:Aa As} {vs:Aa V} {us:Aa Ac},zZ ds=Ab bs->qD X.K P α ds vs->qJ vs us->us=bs.map Ga
 |[],bs,vs,us,h,J,Y=>by
  cases h;have:=J.nil_inv;subst this;cases Y;rfl
 |d::ds,bs,vs,us,h,J,Y=>by
  cases d with
  |bl b =>
   obtain⟨U,q,rfl⟩:=De.mp (show (zZ ds).map (b::·)=Ab bs from h)
   obtain⟨w,O,rfl,p,t⟩:=J.cons_inv;simp only[Rep] at p;subst p;cases Y with
   |cons N G =>
    cases (show _=Ga b from N)
    rw[yU q t G];rfl
  |_=>exact nn h
noncomputable def pG (any:As):DF:=λds S=>match ds with
 |[d]=>match (zW d).bind zZ with
  |some bs=>.ok (.bl (if any then bs.any id else bs.all id)) S
  |none=>.bad
 |_=>.bad
theorem d3 (bs:Aa As):((Cu bs.length).all λi=>bs.getD i false)=bs.all id:=by
 induction bs with
 |nil=>rfl
 |cons b bs Y =>
  rw[Ca,Oa,Sk,Ls,Sk,<- Y];rfl
theorem d7 (bs:Aa As):((Cu bs.length).any λi=>bs.getD i false)=bs.any id:=by
 induction bs with
 |nil=>rfl
 |cons b bs Y =>
  rw[Ca,Oa,Ku,List.any_map,Ku,<- Y];rfl
theorem XA {H:Hp}{o:Cq}{h':Bo}{tk:Ai}(I:Inv X pins σ H s)(k:∀ b Y,b ∉ [s.heap.objs.size]->(s.heap.push o).get? b=Ab Y->h'.get? b=Ab Y):Inv X pins σ H { s with heap:=h',toks:=tk }:=
 I.kept λb u e=>k b u (by simp;exact Cp (Ba e)) (Ah _ e)
theorem jK {bs:Aa As}(hi:its=bs.map Ga){A:Br}:TruthOf X.prog X.w A (λi v=>its.toArray[i]? = Ab v) (λi=>bs.getD i false):=λi v N U O hv G=>by
 subst hi;have Y:(bs.map Ga)[i]? = Ab v:=by simpa using hv
 rw[Dn] at Y;cases e:bs[i]? with
 |none=>rw[e] at Y;exact nn Y
 |some b =>
  rw[e] at Y;cases Cy Y;have:bs.getD i false=b:=by simp[Lb,e]
  have J:U (bs.getD i false) N:=G;rw[this] at J;exact Zg J
theorem PY {any:As}{S:Sto}{P:Hp}{α:Aa Af}{Ok:D->Sto->Prop}(h:qI X P α (pG any ds S) Ok):∃ d xs bs,ds=[d]/\ItV d xs/\zZ xs=Ab bs/\Ok (.bl (if any then bs.any id else bs.all id)) S:=by
 obtain⟨d,rfl,Y⟩:=eG (X:=X) (β:=D) (g:=λd=>match (zW d).bind zZ with|some bs=>.ok (D.bl (if any then bs.any id else bs.all id)) S|none=>.bad) h
 cases J:(zW d).bind zZ with
 |none=>rw[J] at Y;exact An Y
 |some bs =>
  rw[J] at Y;obtain⟨xs,G,U⟩:=Ex.mp J;exact⟨d,xs,bs,rfl,itV G,U,Y⟩
theorem TF (any:As)(hc:X.calm=true):xQ X (.builtin (if any then "any" else "all")) (pG any):=by
 intro pins σ H s P α S vs us ds Q I r y i M;obtain⟨d,xs,bs,L,x,T,ok⟩:=PY M;clear M;subst L;obtain⟨v,u,rfl,rfl,p,q⟩:=y8 i y;clear i;have fin:∀ {o:Cq} (J:Bo) (U:Ai),(∀ b m,b ∉ [s.heap.objs.size]->(s.heap.push o).get? b=Ab m->J.get? b=Ab m)->EP X pins σ Q (.bool (if any then bs.any id else bs.all id)) { s with heap:=J,toks:=U }:=
  λ{o} J U k=>⟨.bl _,H,XA I k,rfl,xr ok r (by simp only[Rep])⟩
 clear y ok;have g:X.A.in1.handled=none:=I.ok.hd hc;cases x with
 |tup L =>
  subst L;obtain⟨a,h,its,rfl,sq,t,C,G,hl,_⟩:=vY I r p;cases (show u=Cg a from q)
  have N:=yU T t C;have Y:its.toArray.size=bs.length:=by rw[N];simp
  have O:a≠s.heap.objs.size:=by obtain⟨o,e,_⟩:=G;exact Cp (Ba e)
  have W:=Walks.tuple (prog:=X.prog) (w:=X.w) g s.heap.objs.size a O its.toArray;have A:∀ o,(s.heap.push o).IsTuple a its.toArray:=λo=>by obtain⟨o,e,c⟩:=G;exact⟨o,Ah _ e,c⟩
  have B:s.heap.IsTuple a its.toArray:=G;cases any with
  |false =>
   refine call_all_walk (Ha B ⟨s.heap.objs.size,_,_,_,_,_,_,rfl,W,⟨⟨_,Bc _ rfl,rfl,rfl⟩,A _⟩,jK N,λJ U k=>?_⟩);rw[Y,d3];exact fin J U k
  |true =>
   refine call_any_walk (Ha B ⟨s.heap.objs.size,_,_,_,_,_,_,rfl,W,⟨⟨_,Bc _ rfl,rfl,rfl⟩,A _⟩,jK N,λJ U k=>?_⟩);rw[Y,d7];exact fin J U k
 |lst L =>
  subst L;obtain⟨a,h,its,n,rfl,sq,t,C,G,hl,_⟩:=vU I r p;cases (show u=Cg a from q)
  have j:s.heap.IsList a its.toArray:=⟨_,G,rfl,n,rfl⟩;have N:=yU T t C;have Y:its.toArray.size=bs.length:=by rw[N];simp
  have O:a≠s.heap.objs.size:=Cp (Ba G);have W:=Walks.list (prog:=X.prog) (w:=X.w) g s.heap.objs.size a O its.toArray;have E:∀ o,(s.heap.push o).IsList a its.toArray:=λo=>⟨_,Ah _ G,rfl,n,rfl⟩;cases any with
  |false =>
   refine call_all_walk (Gs j ⟨s.heap.objs.size,_,_,_,_,_,_,rfl,W,⟨⟨_,Bc _ rfl,rfl,rfl⟩,E _⟩,jK N,λJ U k=>?_⟩);rw[Y,d3];exact fin J U k
  |true =>
   refine call_any_walk (Gs j ⟨s.heap.objs.size,_,_,_,_,_,_,rfl,W,⟨⟨_,Bc _ rfl,rfl,rfl⟩,E _⟩,jK N,λJ U k=>?_⟩);rw[Y,d7];exact fin J U k
noncomputable def oS:DF:=λds S=>match ds with
 |[.int i]=>.ok (.int i) S
 |[.bl b]=>.ok (.int (b01 b)) S
 |_=>.bad
inductive IntV (ds:Aa D)(S:Sto):Prop
 |bad (e:oS ds S=.bad)
 |int (i:Ak) (e:ds=[.int i])
 |bl (b:As) (e:ds=[.bl b])
theorem OJ (ds:Aa D)(S:Sto):IntV ds S:=by
 cases ds with
 |nil=>exact .bad rfl
 |cons d ds =>
  cases ds with
  |cons _ _=>cases d <;> exact .bad rfl
  |nil =>
   cases d with
   |int i=>exact .int i rfl
   |bl b=>exact .bl b rfl
   |_=>exact .bad rfl
theorem TH:xQ X (.type "int") oS:=by
 intro pins σ H s P α S vs us ds Q I r J U Y;cases OJ ds S with
 |bad e=>rw[e] at Y;exact An Y
 |int i e =>
  subst e;obtain⟨v,u,rfl,rfl,p,q⟩:=y8 U J;exact lI pins s σ H _ _ Q I J (.inl ⟨_,by rw[zR p],xr Y r (by simp only[Rep])⟩)
 |bl b e =>
  subst e;obtain⟨v,u,rfl,rfl,p,q⟩:=y8 U J;simp only[Rep] at p;subst p;exact lI pins s σ H _ _ Q I J (.inr ⟨_,rfl,xr Y r (by simp only[Rep];rfl)⟩)
noncomputable def k9:DF:=λds S=>match ds with
 |[d]=>match zW d with
  |some xs=>.ok (.tup xs) S
  |none=>.bad
 |_=>.bad
theorem YL:xQ X (.type "tuple") k9:=by
 intro pins σ H s P α S vs us ds Q I r N B C;obtain⟨d,rfl,Y⟩:=eG (X:=X) (β:=D) (g:=λd=>match zW d with|some xs=>.ok (D.tup xs) S|none=>.bad) C
 obtain⟨xs,U,J⟩:∃ xs,zW d=Ab xs/\OkV X P α Q (.tup xs) S:=by
  cases U:zW d with
  |none=>rw[U] at Y;exact An Y
  |some xs=>rw[U] at Y;exact⟨xs,rfl,Y⟩
 obtain⟨v,u,rfl,rfl,p,q⟩:=y8 B N;cases itV U with
 |tup e =>
  subst e;have L:=p;simp only[Rep] at p;obtain⟨a,G,rfl,sq,t⟩:=p;exact gV pins s σ H _ _ Q I N ⟨a,G,rfl,.inr ⟨xH r.sub sq,xr J r L⟩⟩
 |lst e =>
  subst e;simp only[Rep] at p;obtain⟨a,G,rfl,sq,t⟩:=p;exact gV pins s σ H _ _ Q I N ⟨a,G,rfl,.inl ⟨(xD r.sub sq).l,λl O=>gI r O t J⟩⟩
noncomputable def dU:DF:=λds S=>match ds with
 |[d]=>match zW d with
  |some xs=>.ok (.lst xs) S
  |none=>.bad
 |_=>.bad
theorem GK:xQ X (.type "list") dU:=by
 intro pins σ H s P α S vs us ds Q I r O B C;obtain⟨d,rfl,Y⟩:=eG (X:=X) (β:=D) (g:=λd=>match zW d with|some xs=>.ok (D.lst xs) S|none=>.bad) C
 obtain⟨xs,U,J⟩:∃ xs,zW d=Ab xs/\OkV X P α Q (.lst xs) S:=by
  cases U:zW d with
  |none=>rw[U] at Y;exact An Y
  |some xs=>rw[U] at Y;exact⟨xs,rfl,Y⟩
 obtain⟨v,u,rfl,rfl,p,q⟩:=y8 B O;cases itV U with
 |tup e =>
  subst e;simp only[Rep] at p;obtain⟨a,G,rfl,sq,t⟩:=p;exact p7 pins s σ H _ _ Q I O ⟨a,G,rfl,.inr (xH r.sub sq),λl N=>wA r N t J⟩
 |lst e =>
  subst e;simp only[Rep] at p;obtain⟨a,G,rfl,sq,t⟩:=p;exact p7 pins s σ H _ _ Q I O ⟨a,G,rfl,.inl ((xD r.sub sq).l),λl N=>wA r N t J⟩
end
section
variable {X:Cx}
structure ClsK (K:Aj)(cl:Aa Af):Prop where
 ex:∀ C∈cl,ExnK K C
 one:∀ C∈cl,∀ B∈cl,Lj K (.ref C) (.ref B)=Ab (C == B)
 ve:∀ C∈cl,Lj K (.ref C) (.type "ValueError")=Ab true
noncomputable def zQ (Y:Aa Af):DF:=λds S=>match ds with
 |[.exn (.ref C),.obj B]=>if Y.contains C&&Y.contains B then .ok (.bl (C == B)) S else .bad
 |[.exn (.ref C),.ty b]=>if Y.contains C&&(b == "ValueError") then .ok (.bl true) S else .bad
 |_=>x5 ds S
theorem X0 {H P:Hp}{α:Aa Af}{S:Sto}{C:Af}{u:Ac}(I:Inv X pins σ H s)(r:Rel X.K H P α S)(p:Rep X.K P α (.exn (.ref C)) v)(q:qK v u):∃ a,u=.ref a/\vO a C s.heap:=by
 simp only[Rep] at p;obtain⟨a,rfl,z⟩:=p;obtain⟨y,_⟩:=I.hok a _ (r.sub _ _ z);exact⟨a,q,y⟩
inductive IsiE (cl:Aa Af)(ds:Aa D)(S:Sto):Prop
 |bad (e:zQ cl ds S=.bad)
 |old (e:zQ cl ds S=x5 ds S)
 |obj (C B:Af) (ed:ds=[.exn (.ref C),.obj B]) (h1:C∈cl) (h2:B∈cl) (e:zQ cl ds S=.ok (.bl (C == B)) S)
 |ve (C:Af) (ed:ds=[.exn (.ref C),.ty "ValueError"]) (h1:C∈cl) (e:zQ cl ds S=.ok (.bl true) S)
theorem HZ (Y:Aa Af)(C:Af)(d:D)(S:Sto):IsiE Y [.exn (.ref C),d] S:=by
 cases d with
 |obj B =>
  have z:zQ Y [.exn (.ref C),.obj B] S=if (Y.contains C&&Y.contains B)=true then .ok (.bl (C == B)) S else .bad:=rfl
  by_cases h:(Y.contains C&&Y.contains B)=true
  .rw[Be h] at z
   have J:=Fo.mp h;exact .obj C B rfl (Ge.mp J.1) (Ge.mp J.2) z
  .rw[Bg h] at z
   exact .bad z
 |ty b =>
  have z:zQ Y [.exn (.ref C),.ty b] S=if (Y.contains C&&(b == "ValueError"))=true then .ok (.bl true) S else .bad:=rfl
  by_cases h:(Y.contains C&&(b == "ValueError"))=true
  .rw[Be h] at z
   have J:=Fo.mp h;cases (Ts.mp J.2);exact .ve C rfl (Ge.mp J.1) z
  .rw[Bg h] at z
   exact .bad z
 |_=>exact .old rfl
theorem OL (Y:Aa Af)(ds:Aa D)(S:Sto):IsiE Y ds S:=by
 cases ds with
 |nil=>exact .old rfl
 |cons a ds =>
  cases a with
  |exn c =>
   cases c with
   |ref C =>
    cases ds with
    |nil=>exact .old rfl
    |cons b ds =>
     cases ds with
     |nil=>exact HZ Y C b S
     |cons _ _=>cases b <;> exact .old rfl
   |_=>exact .old rfl
  |_=>exact .old rfl
theorem GE {T:Aa Af}(hK:ClsK X.K T):xQ X (.builtin "isinstance") (zQ T):=by
 intro pins σ H s P α S vs us ds Q I r E A Y;cases OL T ds S with
 |bad e=>rw[e] at Y;exact An Y
 |old e=>rw[e] at Y;exact ZI pins σ H s P α S vs us ds Q I r E A Y
 |obj C B O U M e =>
  rw[e] at Y;subst O;obtain⟨v,w,u,x,rfl,rfl,p,J,q,G⟩:=uD A E;simp only[Rep] at J;obtain⟨rfl,_⟩:=J;cases (show x=Cg B from G)
  obtain⟨a,rfl,N⟩:=X0 I r p q;exact En (rZ (hK.ex C U)) I.kIn N (hK.one C U B M) (λz=>nomatch z) λL=>⟨.bl _,H,I.tok L,rfl,xr Y r (by simp only[Rep])⟩
 |ve C O U e =>
  rw[e] at Y;subst O;obtain⟨v,w,u,x,rfl,rfl,p,J,q,G⟩:=uD A E;simp only[Rep] at J;subst J;cases (show x=Hc "ValueError" from G)
  obtain⟨a,rfl,N⟩:=X0 I r p q;exact En (rZ (hK.ex C U)) I.kIn N (hK.ve C U) (λz=>nomatch z) λL=>⟨.bl _,H,I.tok L,rfl,xr Y r (by simp only[Rep])⟩
def MtD (X:Cx)(id:Em)(g:D->Aa D->Sto->Res D):Prop:=
 ∀ (pins:Aa (Af × Cq)) (σ : _L.St) (H:Hp) (s:Ag) (P:Hp) (α : Aa Af) (S:Sto) (v:V) (Y:Ac) (vs:Aa V) (us:Aa Ac) (a:D) (ds:Aa D) (Q:VK),Inv X pins σ H s->Rel X.K H P α S->qK v Y->Rep X.K P α a v->qJ vs us->qD X.K P α ds vs->qS X P α (g a ds S) Q ->
  Ao (Au X.prog X.w) X.A (call (.builtin id) (Y::us)) (EP X pins σ Q) X.xe s
noncomputable def dBm (T:Em)(g:D->Aa D->Sto->Res D)(N:DE)(U:DA):DE:=λY S=>(N Y S).bind λa J=>if (tyD a J == Ab T)=true then (U Y J).bind λds G=>g a ds G else .bad
theorem Y2 {H P:Hp}{α:Aa Af}{S:Sto}{a:D}{T:Em}(r:Rel X.K H P α S)(p:Rep X.K P α a v)(h:tyD a S=Ab T)(hT:T = "list" \/ T = "dict" \/ T = "int" \/ T = "str"):tyV X.K T v H:=by
 cases a with
 |int i=>cases h;simp only[Rep] at p;subst p;rfl
 |str x=>cases h;simp only[Rep] at p;subst p;rfl
 |lst xs =>
  cases h;simp only[Rep] at p;obtain⟨b,vs,rfl,q,t⟩:=p;exact .inl ⟨rfl,vs,(xD r.sub q).l⟩
 |dct0 =>
  cases h;simp only[Rep] at p;obtain⟨b,rfl,q⟩:=p;exact .inr (.inr (.inl ⟨rfl,.inl ⟨[],r.sub _ _ q⟩⟩))
 |loc i =>
  simp only[Rep] at p;obtain⟨b,rfl,q⟩:=p;rcases nR (f:=λ_=>Ab "list") (g:=λ_=>Ab "dict") h with⟨xs,Y,h⟩|⟨kvs,Y,h⟩
  .cases h
   obtain⟨vs,z,t⟩:=r.at' i b _ q Y;exact .inl ⟨rfl,vs,SqL.of z⟩
  .cases h
   obtain⟨vs,z,t⟩:=r.at' i b _ q Y;exact .inr (.inr (.inl ⟨rfl,.inl ⟨vs,z⟩⟩))
 |non=>cases h;exact absurd hT (by decide)
 |bl b=>cases h;exact absurd hT (by decide)
 |tup xs=>cases h;exact absurd hT (by decide)
 |_=>exact nn h
variable {o e:Bt}{es:Aa Bt}{fo:DE}{fa:DA}{name:Ar}{apos cpos:Ev}{T id:Em}{g:D->Aa D->Sto->Res D}
theorem TV {P:Hp}{α:Aa Af}{a:D}{S:Sto}{β:Type}{k:Res β}{Ok:β->Sto->Prop}(h:qI X P α (if (tyD a S == Ab T)=true then k else .bad) Ok):tyD a S=Ab T/\qI X P α k Ok:=by
 by_cases z:(tyD a S == Ab T)=true
 .rw[Be z] at h;exact⟨Ts.mp z,h⟩
 .rw[Bg z] at h;exact An h
theorem HE (pa:PlainAttrs T)(slot:Slot T name id)(C:typeOf (.builtin id)=pure (.type "method_descriptor"))(hT:T = "list" \/ T = "dict" \/ T = "int" \/ T = "str")(hm:MtD X id g)(ho:PE X o (tD X fo))(c:PA X (e::es) (tDA X fa))
  (G:Sl o name X.env (eval o X.env)=eval o X.env:=by rfl)
  (N:((Gh cpos (Bm (e::es) X.env)).all (λx=>!x.1)&&(backToKw cpos (keywordEach [] X.env)).all (λx=>x.1.isSome)
   && decide ((e::es).length+([]:Aa Keyword).length+(if ([] : Aa Keyword).isEmpty then 0 else 1)<30))=true:=by rfl)
  (U:(apos.endLine == cpos.line)=true:=by rfl) (hs:Bm (e::es) X.env=(false,eval e X.env)::Bm es X.env:=by rfl) (J:(Gh cpos (Bm es X.env)).any (·.1)=false:=by rfl) :
  PE X (.Call (.Attribute o name apos) (e::es) [] cpos) (tD X (dBm T g fo fa)):=by
 intro pins s σ H Q I h;obtain⟨P,α,L,S,r,re,af⟩:=h;refine wpAny_Call_method_late G N U rfl (thn (zM ho I r re af) λvv s1 ⟨v,H1,y,O,d,S1,Y,B⟩=>?_);obtain⟨i,w⟩:=TV B;obtain⟨h1,h2⟩:=Y1 Y.inv Y.val (Y2 Y.rel Y.rep i hT);refine⟨T,id,pa,slot,C,h1,h2,?_⟩;have p:=wB c Y.inv Y.rel Y.env (P:=y) (α:=O) (Ok:=OkV X y O Q) (qS.base Y.same Y.pre (r:=(fa L S1).bind λds A=>g d ds A) w) cpos;rw[hs] at p ⊢;refine Vc (by show (false||(Gh cpos (Bm es X.env)).any (·.1))=false;rw[J] <;> rfl) (Wv ?_)
 exact thn p λus s2 ⟨vs,H2,m,E,ds,A,I2,rv,n,za,M,u,q,j⟩=>hm pins σ H2 s2 m E A v vv vs us d ds Q I2 n Y.val (Rep.mono u q _ _ Y.rep) rv M (qS.base u q j)
noncomputable def xP:D->Aa D->Sto->Res D:=λa ds S=>match a,ds with
 |.loc i,[d]=>match S[i]? with
  |some (.lst xs)=>if xs.length<lim then .ok .non (S.set i (.lst (xs++[d]))) else .bad
  |_=>.bad
 |_,_=>.bad
inductive ApV (a:D)(ds:Aa D)(S:Sto):Prop
 |bad (e:xP a ds S=.bad)
 |of (i:Ai) (d:D) (xs:Aa D) (ea:a=.loc i) (ed:ds=[d]) (hS:S[i]? = Ab (.lst xs)) (hl:xs.length<lim) (e:xP a ds S=.ok .non (S.set i (.lst (xs++[d]))))
theorem apV (a:D)(ds:Aa D)(S:Sto):ApV a ds S:=by
 cases a with
 |loc i =>
  cases ds with
  |nil=>exact .bad rfl
  |cons d ds =>
   cases ds with
   |cons _ _=>exact .bad rfl
   |nil =>
    have z:xP (.loc i) [d] S=(match S[i]? with|some (.lst xs)=>(if xs.length<lim then .ok .non (S.set i (.lst (xs++[d]))) else .bad)|_=>.bad):=rfl
    cases J:S[i]? with
    |none=>rw[J] at z;exact .bad z
    |some m =>
     rw[J] at z;cases m with
     |lst xs =>
      by_cases Y:xs.length<lim
      .exact .of i d xs rfl rfl J Y (z.trans (Be Y))
      .exact .bad (z.trans (Bg Y))
     |_=>exact .bad z
 |_=>exact .bad rfl
theorem XO:MtD X "list.append" xP:=by
 intro pins σ H s P α S v B vs us a ds Q I r E p J U Y;cases apV a ds S with
 |bad e=>rw[e] at Y;exact An Y
 |of i d xs ea C N L e =>
  rw[e] at Y;subst ea C;obtain⟨w,u,rfl,rfl,O,A⟩:=y8 U J;simp only[Rep] at p;obtain⟨b,rfl,q⟩:=p;obtain⟨G,z,t⟩:=r.at' i b _ q N;refine XT pins s σ H (.ref b) [w] B [u] Q I E (.cons A .nil) ⟨b,G,w,rfl,rfl,z,by rw[<- t.length,<- zH];exact L,?_⟩
  exact xr Y (r.put (m':=.lst (xs++[d])) q N (by intro z;cases z) ⟨G++[w],qQ,t.append (.cons O .nil)⟩) (by simp only[Rep])
end
noncomputable def wO:D->Am Key
 |.int i=>Ab (.inl i)
 |.str x=>Ab (.inr x)
 |_=>none
noncomputable def zT (kvs:Aa (Key × D))(k:Key):Am D:=(kvs.find? λY=>decide (Y.1=k)).map (·.2)
noncomputable def zX (kvs:Aa (Key × D))(k:Key)(v:D):Aa (Key × D):=
 if (kvs.any λY=>decide (Y.1=k))=true then kvs.map (λY=>if Y.1=k then (Y.1,v) else Y) else kvs++[(k,v)]
section
variable {K:Aj}{P:Hp}{α : Aa Af}
theorem nH {vs:Aa (Key × V)}(r:KVs K P α kvs vs):kvs.length=vs.length:=Paired.length r
theorem bC {k:Key}:∀ {kvs:Aa (Key × D)} {vs:Aa (Key × V)},KVs K P α kvs vs->(∀ d,zT kvs k=Ab d->∃ v,yC vs k=Ab v/\Rep K P α d v)/\(zT kvs k=none->yC vs k=none)
 |_,_,.nil=>⟨λd h=>by simp[zT] at h,λ_=>rfl⟩
 |(U,d1)::kvs,(O,N)::vs,.cons z t=>by
  obtain⟨e,r⟩:=z;dsimp only at e r;subst e;obtain⟨G,J⟩:=bC (k:=k) t;unfold zT yC at *;by_cases Y:U=k
  .subst Y
   constructor
   .intro d h
    simp at h;subst h;exact⟨N,by simp,r⟩
   .intro h
    simp at h
  .constructor
   .intro d h
    rw[Vd (by simpa using Y)] at h ⊢
    exact G d h
   .intro h
    rw[Vd (by simpa using Y)] at h ⊢
    exact J h
theorem BH {k:Key}{vs:Aa (Key × V)}(h:KVs K P α kvs vs):(kvs.any λY=>decide (Y.1=k))=(vs.any λY=>decide (Y.1=k)):=by
 induction h with
 |nil=>rfl
 |cons z t J=>rw[Ku,Ku,J,z.1]
theorem BJ {k:Key}(q:Rep K P α d v){kvs:Aa (Key × D)}{vs:Aa (Key × V)}(h:KVs K P α kvs vs):KVs K P α (kvs.map λY=>if Y.1=k then (Y.1,d) else Y) (vs.map λY=>if Y.1=k then (Y.1,v) else Y):=by
 induction h with
 |nil=>exact .nil
 |cons z t J =>
  rw[Ek,Ek];refine .cons ?_ J;rw[<- z.1]
  split
  .exact⟨rfl,q⟩
  .exact z
theorem BI {k:Key}(q:Rep K P α d v){kvs:Aa (Key × D)}{vs:Aa (Key × V)}(h:KVs K P α kvs vs):KVs K P α (kvs++[(k,d)]) (vs++[(k,v)]):=by
 induction h with
 |nil=>exact .cons ⟨rfl,q⟩ .nil
 |cons z t Y=>exact .cons z Y
theorem i3 {k:Key}(q:Rep K P α d v){kvs:Aa (Key × D)}{vs:Aa (Key × V)}(r:KVs K P α kvs vs):KVs K P α (zX kvs k d) (yM vs k v):=by
 unfold zX yM;rw[BH r]
 split
 .exact BJ q r
 .exact BI q r
theorem mS {k:Key}(h:wO d=Ab k)(r:Rep K P α d v):v=kV k:=by
 cases d with
 |int i=>cases h;simp only[Rep] at r;exact r
 |str x=>cases h;simp only[Rep] at r;exact r
 |_=>cases h
end
section
variable {X:Cx}{o i e:Bt}{pos:Ev}{fo fi:DE}
noncomputable def tP:DE:=λ_ S=>.ok (.loc S.length) (S++[.dct []])
theorem N2:PE X (.Dict [] [] pos) (tD X tP):=by
 refine peW eJ λσ H Q ⟨P,α,U,S,r,re,G⟩ p J=>?_;have Y:α<+:α++[p]:=Fq _ _;have N:=r.new (o:=.dK []) (m:=.dct []) J ⟨[],qQ,.nil⟩;refine G _ _ _ _ N (qE.refl _) Y ?_;simp only[Rep];exact⟨p,rfl,by rw[<- r.len];simp⟩
noncomputable def dR:DE:=λ_ S=>.ok .dct0 S
theorem GV:PE X (.Dict [] [] pos) (tD X dR):=by
 refine peW eJ λσ H Q ⟨P,α,J,S,r,re,U⟩ p Y=>?_;obtain⟨N,G⟩:=r.pure (o:=.dK []) Y;refine U _ _ _ α N G (Bh _) ?_;simp only[Rep];exact⟨p,rfl,qQ⟩
noncomputable def wZ:G3:=λo i d S=>match o with
 |.loc n=>match S[n]? with
  |some (.dct kvs)=>match wO i with
   |some k=>if kvs.length<lim then .ok () (S.set n (.dct (zX kvs k d))) else .bad
   |none=>.bad
  |_=>fO o i d S
 |_=>fO o i d S
inductive Set2V (a b d:D)(S:Sto):Prop
 |bad (e:wZ a b d S=.bad)
 |old (e:wZ a b d S=fO a b d S)
 |of (n:Ai) (kvs:Aa (Key × D)) (k:Key) (ea:a=.loc n) (hS:S[n]? = Ab (.dct kvs)) (hk:wO b=Ab k) (hl:kvs.length<lim) (e:wZ a b d S=.ok () (S.set n (.dct (zX kvs k d))))
theorem AR (a b d:D)(S:Sto):Set2V a b d S:=by
 cases a with
 |loc n =>
  have z:wZ (.loc n) b d S=(match S[n]? with|some (.dct kvs)=>(match wO b with|some k=>(if kvs.length<lim then .ok () (S.set n (.dct (zX kvs k d))) else .bad)|none=>.bad)|_=>fO (.loc n) b d S):=rfl
  cases U:S[n]? with
  |none=>rw[U] at z;exact .old z
  |some m =>
   rw[U] at z;cases m with
   |dct kvs =>
    cases Y:wO b with
    |none=>rw[Y] at z;exact .bad z
    |some k =>
     rw[Y] at z;by_cases J:kvs.length<lim
     .exact .of n kvs k rfl U Y J (z.trans (Be J))
     .exact .bad (z.trans (Bg J))
   |_=>exact .old z
 |_=>exact .old rfl
theorem E0 (B:X.A.units+1<Fk):sN X (sJ X wZ):=by
 intro pins s σ H o i v O E u Q I G U C h;obtain⟨P,α,S,a,b,d,r,pa,pb,J,Y⟩:=h;cases AR a b d S with
 |bad e=>rw[e] at Y;exact An Y
 |old e =>
  rw[e] at Y;exact AS pins s σ H o i v O E u Q I G U C ⟨P,α,S,a,b,d,r,pa,pb,J,Y⟩
 |of n kvs k ea N L T e =>
  rw[e] at Y;subst ea;simp only[Rep] at pa;obtain⟨p,rfl,q⟩:=pa;obtain⟨vs,z,t⟩:=r.at' n p _ q N;cases mS L pb;cases (show O=Cg p from G)
  refine ZS B I (tJ.k (v:=v) z (by rw[<- nH t,<- zH];exact T)) U C λM A=>⟨_,A,?_⟩
  exact Y _ P α (r.put (m':=.dct (zX kvs k d)) q N (by intro z;cases z) ⟨_,qQ,i3 J t⟩) (qE.refl _) (Bh _)
noncomputable def qAu:D->Aa D->Sto->Res D:=λa ds S=>match a,ds with
 |.loc n,[i,x]=>match S[n]? with
  |some (.dct kvs)=>match wO i with
   |some k=>.ok ((zT kvs k).getD x) S
   |none=>.bad
  |_=>.bad
 |_,_=>.bad
noncomputable def mK:D->Aa D->Sto->Res D:=λa ds S=>match a,ds with
 |.lst xs,[.bl k]=>match zZ xs with
  |some bs=>.ok (.int (bs.countP (· == k):Ai)) S
  |none=>.bad
 |_,_=>.bad
noncomputable def nD (k:As):Aa As->Am Ai
 |[]=>none
 |b::r=>if b=k then Ab 0 else (nD k r).map (· + 1)
noncomputable def mL:D->Aa D->Sto->Res D:=λa ds S=>match a,ds with
 |.lst xs,[.bl k]=>match (zZ xs).bind (nD k) with
  |some j=>.ok (.int j) S
  |none=>.bad
 |_,_=>.bad
theorem rK (k:As){bs:Aa As}{y:Ac}(U:y∈(bs.map Ga).toArray):Ab6 y (.bool k) (Ve k y):=by
 have J:y∈bs.map Ga:=by rwa [List.mem_toArray] at U
 obtain⟨b,_,rfl⟩:=Ci.mp J;exact λY w A E s Q h=>AaQ b k Y w E Q h
theorem cI (k:As)(bs:Aa As):(bs.map Ga).countP (Ve k)=bs.countP (· == k):=by
 rw[AaA];rfl
theorem mC {β:Type}{r:Res β}{P:Hp}{α:Aa Af}{Ok:β->Sto->Prop}(e:r=.bad)(h:qI X P α r Ok):Fn:=by
 rw[e] at h;exact h
inductive BlV (a:D)(ds:Aa D):Prop
 |no (h:∀ (g:Aa D->As->Res D),(match a,ds with|.lst xs,[.bl k]=>g xs k|_,_=>.bad)=.bad)
 |of (xs:Aa D) (k:As) (ea:a=.lst xs) (ed:ds=[.bl k])
theorem blV (a:D)(ds:Aa D):BlV a ds:=by
 cases a with
 |lst xs =>
  cases ds with
  |nil=>exact .no λ_=>rfl
  |cons d ds =>
   cases ds with
   |cons _ _=>cases d <;> exact .no λ_=>rfl
   |nil =>
    cases d with
    |bl k=>exact .of xs k rfl rfl
    |_=>exact .no λ_=>rfl
 |_=>exact .no λ_=>rfl
theorem U4:MtD X "list.count" mK:=by
 intro pins σ H s P α S v A vs us a ds Q I r w p U N Y;cases blV a ds with
 |no h=>exact(mC (X:=X) (r:=mK a ds S) (h _) Y).elim
 |of xs k ea L =>
  subst ea L;have Y:qI X P α (match zZ xs with|some bs=>Res.ok (D.int (bs.countP (· == k):Ai)) S|none=>.bad) (OkV X P α Q):=Y
  cases J:zZ xs with
  |none=>rw[J] at Y;exact An Y
  |some bs =>
   rw[J] at Y;obtain⟨j,B,rfl,rfl,O,T⟩:=y8 N U;simp only[Rep] at O;subst O;cases (show B=Ga k from T)
   obtain⟨b,u,its,n,rfl,sq,t,G,C,q,_⟩:=vU I r p;cases (show A=Cg b from w)
   have M:=yU J t G;subst M;refine Ny Ud ⟨_,C,rfl⟩ PySem.F.entry_list_count (PySem.F.args_list_count_2 _ _) (PySem.SeqAt.list_countAt b (bs.map Ga).toArray n none #[] (.bool k) (Ve k)) ⟨C,λy E=>(rK k E).at _ _,?_⟩;refine⟨.int _,H,I.tok _,⟨_,rfl⟩,?_⟩;rw[show (bs.map Ga).toArray.toList=bs.map Ga from rfl,cI]
   exact xr Y r (by simp only[Rep])
theorem aQ {k:As}:∀ {bs:Aa As} {j:Ai},nD k bs=Ab j->∃ h:j<bs.length,bs[j]=k/\∀ m (hm:m<bs.length),m<j->bs[m]≠k
 |[],j,h=>by cases h
 |b::r,j,h=>by
  unfold nD at h;by_cases Y:b=k
  .rw[Be Y] at h
   cases h;exact⟨by simp,by simpa using Y,λm hm z=>absurd z (Nat.not_lt_zero _)⟩
  .rw[Bg Y] at h
   obtain⟨i,G,rfl⟩:=De.mp h;obtain⟨O,U,J⟩:=aQ G;refine⟨by simp;lia,by simpa using U,λm hm N=>?_⟩
   cases m with
   |zero=>simpa using Y
   |succ m=>simpa using J m (by simp at hm;lia) li
theorem U5:MtD X "list.index" mL:=by
 intro pins σ H s P α S v vv vs us a ds Q I r rv p N L Y;cases blV a ds with
 |no h=>exact(mC (X:=X) (r:=mL a ds S) (h _) Y).elim
 |of xs k ea q =>
  subst ea q;have Y:qI X P α (match (zZ xs).bind (nD k) with|some j=>Res.ok (D.int j) S|none=>.bad) (OkV X P α Q):=Y
  cases B:(zZ xs).bind (nD k) with
  |none=>rw[B] at Y;exact An Y
  |some j =>
   rw[B] at Y;obtain⟨bs,A,hi⟩:=Ex.mp B;obtain⟨vx,M,rfl,rfl,T,x⟩:=y8 L N;simp only[Rep] at T;subst T;cases (show M=Ga k from x)
   obtain⟨b,ws,its,n,rfl,sq,t,J,E,hl,hz⟩:=vU I r p;cases (show vv=Cg b from rv)
   have C:=yU A t J;subst C;obtain⟨h1,g,w⟩:=aQ hi;have U:bs.length<=sizeLine:=by
    have e1:=t.length;have c:=J.length;rw[Aq] at c;rw[zH] at hz
    lia
   refine Ny Ue ⟨_,E,rfl⟩ PySem.F.entry_list_index (PySem.F.args_list_index_2 _ _) (AaX b (bs.map Ga).toArray n (.bool k) (Ve k) (λy hy=>rK k hy) j (by simpa using h1) ?_ ?_ ?_) ⟨E,?_⟩
   .rw[Fb] at U;lia
   .simp[Ve,g]
   .intro m u G
    have O:m<bs.length:=by simpa using u
    have:=w m O G;simp[Ve,this]
   .exact⟨.int _,H,I.tok _,⟨_,rfl⟩,xr Y r (by simp only[Rep])⟩
end
noncomputable def u9 (S:Sto):Sto:=S.map λ_=>.dead
noncomputable def oF:D->As
 |.non=>true
 |.bl _=>true
 |.int _=>true
 |.str _=>true
 |_=>false
noncomputable def mapO {β γ:Type}(f:β->Am γ) : Aa β -> Am (Aa γ)
 |[]=>Ab []
 |b::r=>match f b,mapO f r with
  |some c,Ab Y=>Ab (c::Y)
  |_,_=>none
noncomputable def vJ:Ai->Sto->D->Am D
 |n+1,S,.tup xs=>(mapO (vJ n S) xs).map .tup
 |n+1,S,.lst xs=>(mapO (vJ n S) xs).map .lst
 |n+1,S,.loc i=>match S[i]? with
  |some (.lst xs)=>(mapO (vJ n S) xs).map .lst
  |_=>none
 |_,_,.non=>Ab .non
 |_,_,.bl b=>Ab (.bl b)
 |_,_,.int i=>Ab (.int i)
 |_,_,.str x=>Ab (.str x)
 |_,_,.ty n=>Ab (.ty n)
 |_,_,.obj a=>Ab (.obj a)
 |_,_,.dct0=>Ab .dct0
 |_,_,.exn c=>Ab (.exn c)
 |_,_,_=>none
noncomputable def vG (H P:Hp)(α : Aa Af):Hp:=λb=>if (P b).isSome then P b else if b∈α then H b else none
section
variable {K:Aj}{H P:Hp}{α : Aa Af}{S:Sto}
theorem uP (H P:Hp)(α : Aa Af):qE P (vG H P α):=λb o e=>by
 unfold vG;rw[e];rfl
theorem VH (r:Rel K H P α S):qE (vG H P α) H:=λb o e=>by
 unfold vG at e
 split at e
 .exact r.sub b o e
 .split at e
  .exact e
  .cases e
theorem tY {a:Af}(h:P a=none)(Y:a∈α):vG H P α a=H a:=by
 unfold vG;rw[h];simp[Y]
theorem Rel.frz (r:Rel K H P α S):Rel K H (vG H P α) α (u9 S) where
 tb:=r.tb.keep (λ_ _ q _=>q) λb u q _ p n=>⟨by unfold vG;rw[p];simp[n],n⟩
 sub:=VH r
 len:=by rw[r.len];simp[u9]
 nd:=r.nd
 sep:=λi a o J Y U=>by
  unfold u9 at Y;rw[Dn] at Y;cases q:S[i]? with
  |none=>rw[q] at Y;cases Y
  |some m=>rw[q] at Y;cases Y;exact absurd rfl U
 at':=λi a o J Y=>by
  unfold u9 at Y;rw[Dn] at Y;cases q:S[i]? with
  |none=>rw[q] at Y;cases Y
  |some m=>rw[q] at Y;cases Y;trivial
 own:=r.own
theorem Rel.unfrz {O P1:Hp}{N:Aa Af}{A:Sto}(r:Rel K H P α S)(G:Rel K O P1 N A)(e:qE (vG H P α) P1):Rel K O P α S:=by
 have mem:∀ i a,α[i]? = Ab a->a∈α:=λi a h=>Bq h;have B:∀ (i:Ai) (a:Af) (o:MO) (u:HO),α[i]? = Ab a->S[i]? = Ab o->o≠MO.dead->H a=Ab u->O a=Ab u:=λi a o u Y U n g =>
  G.sub a u (e a u (by rw[tY (r.sep i a o Y U n) (mem i a Y)];exact g))
 refine⟨λx L c T h=>let ⟨M,e,_,_,ok,y⟩:=G.tb x L c T h;let ⟨_,_,I,j,_,_⟩:=r.tb x L c T h;⟨M,e,I,j,ok,y⟩,(uP H P α).trans (e.trans G.sub),r.len,r.nd,r.sep,λi a o Y U=>?_,λi a Y=>?_⟩
 .have m:=r.at' i a o Y U
  cases o with
  |dead=>trivial
  |lst ds=>obtain⟨vs,q,t⟩:=m;exact⟨vs,B i a _ _ Y U (by intro z;cases z) q,t⟩
  |dct kvs=>obtain⟨vs,q,t⟩:=m;exact⟨vs,B i a _ _ Y U (by intro z;cases z) q,t⟩
  |ins C fs=>obtain⟨p,vs,q,t⟩:=m;exact⟨p,vs,B i a _ _ Y U (by intro z;cases z) q,t⟩
 .have h:=r.own i a Y
  cases q:H a with
  |none=>exact absurd q h
  |some u =>
   have z:∃ J,vG H P α a=Ab J:=by
    cases E:P a with
    |none=>exact⟨u,by rw[tY E (mem i a Y)];exact q⟩
    |some J=>exact⟨J,uP H P α a J E⟩
   obtain⟨J,z⟩:=z;rw[G.sub a J (e a J z)];intro w;cases w
set_option tactic.hygienic true in
theorem qD.mapO {f:D->Am D}{J:Hp}(h:∀ d t v,f d=Ab t->Rep K P α d v->Rep K J α t v):∀ {ds Y:Aa D} {vs:Aa V},_D.mapO f ds=Ab Y->qD K P α ds vs->qD K J α Y vs
 |[],Y,vs,e,r=>by cases e;rw[r.nil_inv];exact .nil
 |d::ds,Y,vs,e,r=>by
  obtain⟨w,C,rfl,O,U⟩:=r.cons_inv;unfold _D.mapO at e
  split at e
  .rename_i c B N G
   cases e;exact .cons (h d c w N O) (qD.mapO h G U)
  .cases e
theorem iL (r:Rel K H P α S):∀ (n:Ai) (d t:D) (v:V),vJ n S d=Ab t->Rep K P α d v->Rep K (vG H P α) α t v:=by
 have mono:∀ (d:D) (v:V),Rep K P α d v->Rep K (vG H P α) α d v:=λd v=>Rep.mono (uP H P α) (Bh _) d v;intro n
 induction n with
 |zero =>
  intro d t v h p;cases d <;> first|(cases h;exact mono _ _ p)|exact nn h
 |succ n U =>
  intro d t v h p;cases d with
  |tup xs =>
   obtain⟨G,Y,rfl⟩:=De.mp h;simp only[Rep] at p ⊢;obtain⟨a,vs,rfl,q,t⟩:=p;exact⟨a,vs,rfl,yN (uP H P α) q,qD.mapO (λd t v=>U d t v) Y t⟩
  |lst xs =>
   obtain⟨G,Y,rfl⟩:=De.mp h;simp only[Rep] at p ⊢;obtain⟨a,vs,rfl,q,t⟩:=p;exact⟨a,vs,rfl,xD (uP H P α) q,qD.mapO (λd t v=>U d t v) Y t⟩
  |loc i =>
   have h:(match S[i]? with|some (.lst xs)=>(_D.mapO (vJ n S) xs).map D.lst|_=>none)=Ab t:=h
   cases J:S[i]? with
   |none=>rw[J] at h;exact nn h
   |some m =>
    rw[J] at h;cases m with
    |lst xs =>
     obtain⟨G,Y,rfl⟩:=De.mp h;simp only[Rep] at p ⊢;obtain⟨a,rfl,q⟩:=p;obtain⟨vs,z,t⟩:=r.at' i a _ q J;refine⟨a,vs,rfl,.inl (.inl ?_),qD.mapO (λd t v=>U d t v) Y t⟩;rw[tY (r.sep i a _ q J (by intro z;cases z)) (Bq q)]
     exact z
    |_=>exact nn h
  |fd N ds=>exact nn h
  |clo a vs ds=>exact nn h
  |_=>cases h;exact mono _ _ p
theorem YG {J:Hp}{Y:Aa Af}(h:oF d=true)(p:Rep K P α d v):Rep K J Y d v:=by
 cases d with
 |non=>simpa only [Rep] using p
 |bl b=>simpa only [Rep] using p
 |int i=>simpa only [Rep] using p
 |str x=>simpa only [Rep] using p
 |_=>cases h
end
noncomputable def fJ:Ai:=20
noncomputable def Q1 (r:Res D)(S:Sto):Res D:=match r with
 |.ok d _=>if oF d then .ok d S else .bad
 |_=>.bad
theorem Q2 {X:Cx}{H P:Hp}{α:Aa Af}{S:Sto}{r:Res D}(O:Rel X.K H P α S)(Y:qS X P α (Q1 r S) Q):qS X (vG H P α) α r Q:=by
 cases r with
 |ok d N =>
  obtain⟨J,Y⟩:=x9 (X:=X) Y;exact λv B T U C G E L=>Y v B P α (O.unfrz C G) (qE.refl _) (Bh _) (YG J L)
 |ex c x N=>exact An Y
 |bad=>exact An Y
section
variable {X:Cx}
noncomputable def bE (g:G2):G2:=λa b S=>match vJ fJ S a,vJ fJ S b with
 |some x,Ab y=>Q1 (g x y (u9 S)) S
 |_,_=>.bad
set_option tactic.hygienic true in
theorem OpD.look {g:G2}(h:OpD X f g):OpD X f (bE g):=by
 intro pins σ H s P α S v u G C a b Q I r N O pa pb Y;unfold bE at Y
 split at Y
 .rename_i x y J U
  exact h pins σ H s _ α (u9 S) v u G C x y Q I r.frz N O (iL r fJ a x v J pa) (iL r fJ b y u U pb) (Q2 r Y)
 .exact An Y
variable {cm:As}{k:Ai}{f:Af}{fd:Fu}{ps:Aa Ar}{F:DF}{x:Ar}{p pos:Ev}{e:Bt}{es:Aa Bt}{fa:DA}{n:Ai}
end
noncomputable def vZ (t:DT)(f:DS):Ai->qF->Sto->Out
 |0,_,_=>.bad
 |n+1,J,S=>(t J S).toS J λb G=>if b then (match f J G with
   |.nx Y U=>vZ t f n Y U
   |.ct Y U=>vZ t f n Y U
   |.bk Y U=>.nx Y U
   |o=>o) else .nx J G
theorem Z9:∃ n:Ai,n=2 ^ 60:=⟨_,rfl⟩
def big:Ai:=Tw Z9
theorem Z8:big=2 ^ 60:=Ou Z9
def pR (t:DT)(f:DS):DS:=λY S=>vZ t f big Y S
section
variable {X:Cx}{pos:Ev}
inductive WhI (X:Cx)(P:Hp)(α : Aa Af)(t:DT)(f:DS)(D:Ends)(m:Ai)(σ : _L.St)(H:Hp):Prop
 |mk (P2:Hp) (α2:Aa Af) (env2:qF) (S2:Sto) (r:Rel X.K H P2 α2 S2) (re:qY X.K P2 α2 σ env2) (e1:qE P P2) (e2:α<+:α2) (af:qZ X P2 α2 (vZ t f m env2 S2) D):WhI X P α t f D m σ H
theorem V4 {c:Bt}{O:Aa EQ}{t:DT}{f:DS}(hp:Pm (Au X.prog X.w) X.A X.env X.xe)(hc:PT X c (tDT X t))(hb:PSs X O (tDS X f)):PS X (.While c O [] pos) (tDS X (pR t f)):=
 psW (UM hp hc hb) λD σ H ⟨P,α,g,S,r,re,af⟩=>by
  refine⟨WhI X P α t f D,⟨big,P,α,g,S,r,re,qE.refl _,Bh _,af⟩,?_⟩;rintro m e H2 ⟨P2,n,Y,N,r2,C,e1,e2,A⟩;cases m with
  |zero=>exact An A
  |succ m =>
   have G:=w5 A;refine⟨P2,n,Y,N,r2,C,?_⟩;cases q:t Y N with
   |bad=>rw[q] at G;exact G
   |ex c x S'=>rw[q] at G;exact G
   |ok b p =>
    rw[q] at G;intro H3 P3 L r3 y u;have J:qZ X P3 L (if b then (match f Y p with|.nx Y N=>vZ t f m Y N|.ct Y N=>vZ t f m Y N|.bk Y N=>.nx Y N|o=>o) else .nx Y p) D:=qZ.base y u G
    cases b with
    |false=>exact J e H3 P3 L r3 (C.mono y u) (qE.refl _) (Bh _)
    |true =>
     simp only[Eh] at J ⊢;refine⟨WhI X P α t f D m,λza H' w=>⟨m,Jb _,w⟩,P3,L,Y,p,r3,C.mono y u,?_⟩;cases I:f Y p with
     |bad=>rw[I] at J;exact J
     |ex c x U E=>rw[I] at J;exact J
     |rt d4 E=>rw[I] at J;exact J
     |bk U E=>rw[I] at J;exact J
     |nx U E =>
      rw[I] at J;exact λi H5 h B r5 T j M=>⟨h,B,U,E,r5,T,(e1.trans y).trans j,(e2.trans u).trans M,qZ.base j M J⟩
     |ct U E =>
      rw[I] at J;exact λi H5 h B r5 T j M=>⟨h,B,U,E,r5,T,(e1.trans y).trans j,(e2.trans u).trans M,qZ.base j M J⟩
end
section
variable {X:Cx}{a b c e:Bt}{pos:Ev}{fa fe:DE}
noncomputable def qBB (i:Ai)(g:G2)(fe:DE):DS:=λY S=>match Y[i]? with
 |some (Ab x)=>(fe Y S).toS Y λy U=>(g x y U).toS Y λz J=>.nx (Y.set i (Ab z)) J
 |_=>.bad
noncomputable def xF (xs:Aa D)(lo hi:Am Ak):Aa D:=(xs.drop (_H.sIx xs.length 0 lo)).take (_H.sIx xs.length xs.length hi-_H.sIx xs.length 0 lo)
abbrev DO:=qF->Sto->Res (Am Ak)
def OkO (X:Cx)(P:Hp)(α : Aa Af)(Q:Am Ak->Hp->Prop)(o:Am Ak)(G:Sto):Prop:=∀ U J Y,Rel X.K U J Y G->qE P J->α<+:Y->Q o U
def tDO (X:Cx)(f:DO):TO:=λσ H Q=>∃ P α Y S,Rel X.K H P α S/\qY X.K P α σ Y/\qI X P α (f Y S) (OkO X P α Q)
noncomputable def wN:DO:=λ_ S=>.ok none S
noncomputable def xJ (f:DE):DO:=λY S=>(f Y S).bind λd J=>match d with
 |.int i=>.ok (Ab i) J
 |_=>.bad
theorem PD:PO X none (tDO X wN):=λpins s σ H Q I ⟨P,α,Y,S,r,re,J⟩=>FB pins s σ H Q I (J H P α r (qE.refl _) (Bh _))
theorem PF (A:PE X e (tD X fe)):PO X (Ab e) (tDO X (xJ fe)):=by
 intro pins s σ H Q I h;obtain⟨P,α,J,S,r,re,L⟩:=h;refine FC (te:=tD X fe) A pins s σ H Q I ⟨P,α,J,S,r,re,?_⟩;have Y:qI X P α ((fe J S).bind λd G=>match d with|.int i=>.ok (Ab i) G|_=>.bad) (OkO X P α Q):=L
 cases q:fe J S with
 |bad=>rw[q] at Y;exact Y
 |ex c x M=>rw[q] at Y;exact Y
 |ok d G =>
  rw[q] at Y;intro v B N U T O C E;cases d with
  |int i=>exact⟨i,zR E,Y B N U T O C⟩
  |_=>exact An Y
theorem qD.cut {K:Aj}{P:Hp}{α:Aa Af}(r:qD K P α ds vs)(lo hi:Am Ak):qD K P α (xF ds lo hi) (pB vs lo hi):=by
 unfold xF pB;rw[r.length];exact(r.drop _).take _
noncomputable def gSl (d:D)(lo hi:Am Ak)(S:Sto):Res D:=match d with
 |.lst xs=>.ok (.lst (xF xs lo hi)) S
 |.loc i=>match S[i]? with
  |some (.lst xs)=>.ok (.lst (xF xs lo hi)) S
  |_=>.bad
 |.tup xs=>.ok (.tup (xF xs lo hi)) S
 |_=>.bad
noncomputable def dSl (fe:DE)(G N:DO):DE:=λY S=>(fe Y S).bind λd O=>(G Y O).bind λlo J=>(N Y J).bind λC U=>gSl d lo C U
end
end _D
namespace _D
open PySem PySem.Spec PyProof.Rows _L _H
section
variable {prog:Bf}{w:Bx}{A:Br}{E:Ac->Ag->Prop}{s:Ag}
theorem gX {t J:Af}{items:Ay Ac}{O C:Ac}{lo hi:Am Ak}{Q:Ac->Ag->Prop}(Y:Qr s.heap t items)(hs:s.heap.IsSliceOf J O C .none)(pl:Rp O lo)(B:Rp C hi)
  (hw:sIx items.size 0 lo=0/\sIx items.size items.size hi=items.size) (h:Q (.ref t) s):Ao (Au prog w) A (Lm (.ref t) (.ref J)) Q E s:=by
 obtain⟨L,U,G,_⟩:=id hs;have N:s.TypeIs (.ref J) "slice":=⟨L,U,G⟩;unfold Lm
 try with_reducible refine Ed ?_
 first|refine Ad (Al ?_)|skip
 refine Ad (Sc Y.typeIs (by decide) ?_)
 refine Ad (DL (name:=Hu "__getitem__") Y.typeIs Dp
  (Eg Dp Y.typeIs Qg ?_ (Rf _ _)))
 show Ao _ _ (Lx (.ref t) >>= _) _ _ s;refine Ad (Xi Y ?_);refine Ad (Lr N ?_);rw[Be (by decide)]
 refine Ad (uZ hs pl B ?_);show Ao _ _ (if (((sIx items.size 0 lo:Ai):Ak) == 0&&(1:Ak) == 1&&(sIx items.size items.size hi-sIx items.size 0 lo) == items.size)=true then _ else _) _ _ s
 rw[hw.1,hw.2,Be (by simp)]
 unfold Builtin.Tuple.tupleIsExact;refine Ad (Ad (Lr Y.typeIs (Al ?_)));rw[Be (by decide)]
 exact Ad (He (Al ⟨_,rfl,Al h⟩))
end
section
variable {X:Cx}{e:Bt}{fe:DE}{pos p2:Ev}
def qAE (X:Cx):V->Am Ak->Am Ak->Hp->VK->Prop:=λx lo Y H Q=>∃ P α S d,Rel X.K H P α S/\Rep X.K P α d x/\qS X P α (gSl d lo Y S) Q
theorem qAH:SlR X (qAE X):=by
 intro Y s σ H x v E w lo U A Q I L hs pl B h;obtain⟨P,α,S,d,r,p,G⟩:=h;cases d with
 |lst N =>
  simp only[Rep] at p;obtain⟨a,J,rfl,q,t⟩:=p;exact iR Y s σ H _ v E w lo U A Q I L hs pl B ⟨a,J,rfl,(xD r.sub q).l,λb O=>wA r O (qD.cut t lo U) G⟩
 |loc i =>
  obtain⟨N,y,G⟩:=uW (X:=X) (f:=λN=>Res.ok (D.lst (xF N lo U)) S) G;simp only[Rep] at p;obtain⟨a,rfl,q⟩:=p;obtain⟨J,z,t⟩:=r.at' i a _ q y;exact iR Y s σ H _ v E w lo U A Q I L hs pl B ⟨a,J,rfl,SqL.of z,λb O=>wA r O (qD.cut t lo U) G⟩
 |tup N =>
  have o:=p;simp only[Rep] at p;obtain⟨a,J,rfl,q,t⟩:=p;by_cases T:sIx J.length 0 lo=0/\sIx J.length J.length U=J.length
  .cases L
   obtain⟨M,u,j,g⟩:=I.tuple (xH r.sub q);have C:M.toArray.size=J.length:=by rw[AT];exact u.length.symm
   refine⟨"tuple",_,Dp.lookup,j.typeIs,gX j hs pl B (by rw[C];exact T) ⟨.ref a,H,I,rfl,xr G r ?_⟩⟩
   have e:xF N lo U=N:=by
    unfold xF;rw[t.length,T.1,T.2,<- t.length];simp
   rw[e];exact o
  .exact E2 Y s σ H _ v E w lo U A Q I L hs pl B ⟨a,J,rfl,xH r.sub q,T,λb O=>gI r O (qD.cut t lo U) G⟩
 |_=>exact An G
theorem YW {lo hi:Am Bt}{E L:DO}(i:PE X e (tD X fe))(hl:PO X lo (tDO X E))(s:PO X hi (tDO X L)):PE X (.Subscript e (.Slice lo hi none p2) pos) (tD X (dSl fe E L)):=
 peW (UJ qAH i hl s) λσ H Q ⟨P,α,Y,S,r,re,af⟩=>by
  refine⟨P,α,Y,S,r,re,?_⟩;have J:qI X P α ((fe Y S).bind λd T=>(E Y T).bind λlo C=>(L Y C).bind λhi B=>gSl d lo hi B) (OkV X P α Q):=af;cases q:fe Y S with
  |bad=>rw[q] at J;exact J
  |ex c x n=>rw[q] at J;exact J
  |ok d T =>
   rw[q] at J;intro v H1 j N r1 A y rp;refine⟨j,N,Y,T,r1,re.mono A y,?_⟩;have U:qI X j N ((E Y T).bind λlo C=>(L Y C).bind λhi B=>gSl d lo hi B) (OkV X j N Q):=qS.base A y J;cases o:E Y T with
   |bad=>rw[o] at U;exact U
   |ex c x n=>rw[o] at U;exact U
   |ok l C =>
    rw[o] at U;intro H2 I O h p g;refine⟨I,O,Y,C,h,(re.mono A y).mono p g,?_⟩;have G:qI X I O ((L Y C).bind λhi B=>gSl d l hi B) (OkV X I O Q):=qS.base p g U;cases M:L Y C with
    |bad=>rw[M] at G;exact G
    |ex c x n=>rw[M] at G;exact G
    |ok u B =>
     rw[M] at G;intro H3 P3 w r3 m f;exact⟨P3,w,B,d,r3,Rep.mono (p.trans m) (g.trans f) _ _ rp,qS.base m f G⟩
noncomputable def tZ (d:D)(S:Sto):Res D:=match d with
 |.int i=>if i.natAbs.log2<1920 then .ok (.str (toString i)) S else .bad
 |.str x=>if x.length<=lim then .ok (.str x) S else .bad
 |_=>.bad
set_option tactic.hygienic true in
theorem N3 (E:PE X e (tD X fe)):PE X (.FormattedValue e (-1) none pos) (tD X (d1 tZ fe)):=by
 intro C s σ H Q I h;obtain⟨P,α,L,S,r,re,T⟩:=h;refine FormattedValue_plain (thn (zM E I r re T) λw u ⟨v,N,A,B,d,j,J,G⟩=>?_);have p:=J.rep;have O:=J.val;have Y:=qS.base J.same J.pre G;cases d with
 |int i =>
  simp only[tZ] at Y
  split at Y
  .rename_i U
   simp only[Rep] at p;subst p;obtain⟨t,rfl⟩:=O;exact formatField_int_small U ⟨.str _,N,J.inv.tok _,⟨_,rfl⟩,xr Y J.rel (by simp only[Rep])⟩
  .exact An Y
 |str x =>
  simp only[tZ] at Y
  split at Y
  .rename_i U
   simp only[Rep] at p;subst p;obtain⟨t,rfl⟩:=O;exact formatField_str (λy M=>⟨.str _,N,J.inv.tok _,⟨_,rfl⟩,xr Y J.rel (by simp only[Rep])⟩) (by rw[<- zH];exact U)
  .exact An Y
 |_=>exact An Y
noncomputable def dZ (Q:Ar):Aa DE->qF->Sto->Res D
 |[],_,S=>if Q.length<=lim then .ok (.str Q) S else .bad
 |p::J,Y,S=>(p Y S).bind λd U=>match d with
  |.str y=>if (Q++y).length<=lim then dZ (Q++y) J Y U else .bad
  |_=>.bad
def PJ (X:Cx)(es:Aa Bt)(fs:Aa DE):Prop:=
 ∀ (U:Ar) (Y:Aa (Af × Cq)) (s:Ag) (σ : _L.St) (H P:Hp) (α : Aa Af) (J:qF) (S:Sto) (Q:VK),Inv X Y σ H s->Rel X.K H P α S->qY X.K P α σ J->qS X P α (dZ U fs J S) Q ->
  Ao (Au X.prog X.w) X.A (joinParts U (evalEach es X.env)) (EP X Y σ Q) X.xe s
theorem R0:PJ X [] []:=by
 intro U J s σ H P α G S Q I r re Y;obtain⟨N,Y⟩:=x9 (X:=X) Y;exact joinParts_nil ⟨.str _,H,I.tok _,⟨_,rfl⟩,xr Y r (by simp only[Rep])⟩ (by rw[<- zH];exact N)
theorem F9 {es:Aa Bt}{fs:Aa DE}(w:PE X e (tD X fe))(M:PJ X es fs):PJ X (e::es) (fe::fs):=by
 intro U N s σ H P α G S Q I r re O;have O:qI X P α ((fe G S).bind λd B=>match d with|.str y=>if (U++y).length<=lim then dZ (U++y) fs G B else .bad|_=>.bad) (OkV X P α Q):=O
 refine joinParts_cons (thn (zM w I r re O) λj E ⟨v,T,L,C,d,B,J,Y⟩=>?_);cases d with
 |str y =>
  have p:=J.rep;simp only[Rep] at p;subst p;obtain⟨t,rfl⟩:=J.val;obtain⟨A,Y⟩:=x9 (X:=X) Y;exact⟨by rw[<- zH];exact A,M (U++y) N E σ T L C G B Q J.inv J.rel J.env (qS.base J.same J.pre Y)⟩
 |_=>exact An Y
noncomputable def oN (fs:Aa DE):DE:=λQ S=>dZ AaT fs Q S
theorem GW {Y J:Bt}{U:Aa Bt}{fs:Aa DE}(h:PJ X (Y::J::U) fs):PE X (.JoinedStr (Y::J::U) pos) (tD X (oN fs)):=by
 intro G s σ H Q I C;obtain⟨P,α,N,S,r,re,O⟩:=C;exact JoinedStr_many (h AaT G s σ H P α N S Q I r re O)
end
end _D
namespace _D
open PySem PySem.Spec PyProof.Rows _L
variable {N:Aa Ar}{its ds dsF:Aa D}{body:Aa EQ}{vs:Aa V}{Q:Ac->Ag->Prop}{C:Af}{Qa Qd:Ag->Prop}{m:Ai}{o':Am (Ai × MO)}{tp:As}{xs ys:Ay Ac}{h':Bo}{py:Ev}{R:It->Hp->Prop}{SF:Sto}{env envF:qF}
def zE (tp:As)(h:Bo)(it l:Af)(k:Ai):Prop:=if tp then h.IsTupleIter it l k else h.IsListIter it l k
def xR (tp:As)(h:Bo)(l:Af)(xs:Ay Ac):Prop:=if tp then h.IsTuple l xs else h.IsList l xs
theorem zE.keep {h:Bo}{it l:Af}{k:Ai}(x:zE tp h it l k)(q:∀ o,h.get? it=Ab o->h'.get? it=Ab o):zE tp h' it l k:=by
 cases tp <;> (obtain⟨o,e,r⟩:=x;exact⟨o,q o e,r⟩)
theorem xR.keep {h:Bo}{l:Af}(x:xR tp h l xs)(q:∀ o,h.get? l=Ab o->h'.get? l=Ab o):xR tp h' l xs:=by
 cases tp <;> (obtain⟨o,e,r⟩:=x;exact⟨o,q o e,r⟩)
theorem zE.there {h:Bo}{it l:Af}{k:Ai}(x:zE tp h it l k):∃ o,h.get? it=Ab o/\∀ v,o.data≠.cell v:=by
 cases tp <;> (obtain⟨o,e,_,d⟩:=x;exact⟨o,e,λv z=>by rw[d] at z;cases z⟩)
section
variable {prog:Bf}{w:Bx}{A:Br}{E:Ac->Ag->Prop}{s:Ag}
theorem UA {it t:Af}{i:Ai}{items:Ay Ac}{x:Ac}(Y:s.heap.IsTupleIter it t i)(U:s.heap.IsTuple t items)(J:items[i]? = Ab x)
  (B:∀ h',h'.IsTupleIter it t (i+1)->Ew it s.heap h'->Q x { s with heap:=h' }) : Ao (Au prog w) A (Ea (.ref it)) Q E s:=by
 obtain⟨o,e,c,d⟩:=id Y;obtain⟨u,G,_,m,O⟩:=U;unfold Ea;refine Ad (DL (name:=Hu "__next__") Y.typeIs Jl (Eg Jl Y.typeIs Qv ?_ (Qj _)));show Ao _ _ (field (.ref it) 0 >>= _) _ _ s;refine Ad (Dx e d (x:=.ref t) rfl ?_);show Ao _ _ (if (Cg t == Dk)=true then _ else _) _ _ s;rw[Bg (show ¬ ((Cg t == Dk)=true) from Fp)]
 show Ao _ _ (field (.ref it) 1 >>= _) _ _ s;refine Ad (Dx e d (x:=.int i 0) rfl ?_);show Ao _ _ (seqItems? (.ref t) >>= _) _ _ s;refine Ad (Hm G O ?_);simp only[Fa,J];refine Ad (Nk e d (by simp) (Al ⟨x,rfl,Al (B _ ⟨_,Gd _ e (Obj.isFreed_of_fields (Yk d _)),(Obj.cls_mapFields ..).trans c,?_⟩ (Hq ..))⟩))
 rw[Yk d];simp[Gn]
theorem eC {it t:Af}{i:Ai}{items:Ay Ac}{Q:Ac->Ag->Prop}(J:A.handled=none)(Y:s.heap.IsTupleIter it t i)(G:s.heap.IsTuple t items)(U:items[i]? = none)
  (B:∀ h' e,Heap.ExtBut it s.heap h'->(∃ o,h'.get? e=Ab o/\o.cls=.type "StopIteration")->E (.ref e) { s with heap:=h' }) : Ao (Au prog w) A (Ea (.ref it)) Q E s:=by
 obtain⟨o,e,c,d⟩:=id Y;obtain⟨u,O,_,m,L⟩:=G;unfold Ea;refine Ad (DL (name:=Hu "__next__") Y.typeIs Jl (Eg Jl Y.typeIs Qv ?_ (Qj _)));show Ao _ _ (field (.ref it) 0 >>= _) _ _ s;refine Ad (Dx e d (x:=.ref t) rfl ?_);show Ao _ _ (if (Cg t == Dk)=true then _ else _) _ _ s;rw[Bg (show ¬ ((Cg t == Dk)=true) from Fp)]
 show Ao _ _ (field (.ref it) 1 >>= _) _ _ s;refine Ad (Dx e d (x:=.int i 0) rfl ?_);show Ao _ _ (seqItems? (.ref t) >>= _) _ _ s;refine Ad (Hm O L ?_);simp only[Fa,U];refine Ad (He (Ad (Nk e d (by simp) ?_)))
 show Ao _ _ (newExc (.type "StopIteration") [] >>= _) _ _ _;refine Ad ?_;simp only[newExc,newTuple];refine Ad (Dm ?_ (by size_fits))
 refine Ad (m:=Qw _ _) (Rr (a:=Dk) (by first|rfl|(simp only[Qw];rfl)) (Dm ?_ (by size_fits)))
 simp only[raiseNew];refine Ad (wpAny_handled ?_)
 first|rw[show A.in1.handled=none from J]|rw[J]
 exact Ad (Al (wpAny_throw (B _ _ (((Hq ..).extBut.push _).push _) ⟨_,Bc _ rfl,rfl⟩)))
theorem gF {it l:Af}{k:Ai}{x:Ac}(Y:zE tp s.heap it l k)(G:xR tp s.heap l xs)(J:xs[k]? = Ab x)
  (U:∀ h',zE tp h' it l (k+1)->Ew it s.heap h'->Q x { s with heap:=h' }) : Ao (Au prog w) A (Ea (.ref it)) Q E s:=by
 cases tp with
 |false=>exact wpAny_nextOf_list_item Y G J U
 |true=>exact UA Y G J U
theorem uU {it l:Af}{k:Ai}{Q:Ac->Ag->Prop}(U:A.handled=none)(Y:zE tp s.heap it l k)(O:xR tp s.heap l xs)(J:xs[k]? = none)
  (G:∀ h' e,Heap.ExtBut it s.heap h'->(∃ o,h'.get? e=Ab o/\o.cls=.type "StopIteration")->E (.ref e) { s with heap:=h' }) : Ao (Au prog w) A (Ea (.ref it)) Q E s:=by
 cases tp with
 |false=>exact wpAny_nextOf_list_end U Y O J G
 |true=>exact eC U Y O J G
structure ZA (z I O i j:Af):Prop where
 Iz:I≠z
 Oz:O≠z
 iz:i≠z
 jz:j≠z
 IO:I≠O
 Ii:I≠i
 Ij:I≠j
 Oi:O≠i
 Oj:O≠j
 ij:i≠j
structure Off (z O i j a:Af):Prop where
 z:a≠z
 O:a≠O
 i:a≠i
 j:a≠j
abbrev YE (z O i j:Af)(h h':Bo):Prop:=∀ c o,c≠z->c≠O->c≠i->c≠j->h.get? c=Ab o->h'.get? c=Ab o
theorem JS {g:As}{z I O i j a b:Af}{k:Ai}{x y p q:Ac}(D:ZA z I O i j)(Da:Off z O i j a)(Db:Off z O i j b)
  (hz:Qx s.heap z I O .none) (hI:Jm s.heap I (.ref i) (.ref j)) (hO:Jm s.heap O p q) (h1:zE tp s.heap i a k) (h2:zE g s.heap j b k) (ha:xR tp s.heap a xs) (hb:xR g s.heap b ys) (hx:xs[k]? = Ab x) (hy:ys[k]? = Ab y)
  (hQ:∀ h',Qx h' z I O (Gn s.heap.objs.size)->Jm h' O x y->zE tp h' i a (k+1)->zE g h' j b (k+1)->Jm h' s.heap.objs.size x y->h'.objs.size=s.heap.objs.size+1->YE z O i j s.heap h'->Q (.ref s.heap.objs.size) { s with heap:=h' }) :
  Ao (Au prog w) A (Ik.«zip.__next__» ⟨[.ref z],[]⟩) (λfin s'=>∃ v,fin=.done (.ret v)/\Q v s') E s:=by
 show Ao _ _ (field (.ref z) 2 >>= _) _ _ _;refine Ad (Dx hz rfl (x:=.bool false) rfl ?_);show Ao _ _ (field (.ref z) 3 >>= _) _ _ _;refine Ad (Dx hz rfl (x:=.ref I) rfl (Ad (Hm hI rfl ?_)));show Ao _ _ (Et (.ref z) >>= _) _ _ _;refine Ad ?_;unfold Et;refine Ad (Dx hz rfl (x:=.none) rfl (Al ?_));simp only[Eh];refine Ad (He (Ad (Dx hz rfl (x:=.ref O) rfl (Ad (Fd hz (by simp) λg1 r U=>?_)))))
 replace r:Qx g1 z I O .ellipsis:=r
 refine Ad ?_;simp only[Tx,AaB,Vb,Qu];refine Ad (Ad (Sm ?_));show Ao _ _ (Ea (.ref i) >>= _) _ _ _;refine Ad (gF (h1.keep λo e=>U.extBut _ _ D.iz e) (ha.keep λo e=>U.extBut _ _ Da.z e) hx λg2 i2 B=>Al ?_);have O2:Jm g2 O p q:=B.extBut _ _ D.Oi (U.extBut _ _ D.Oz hO);refine Ad (Hm O2 rfl (Ad (Ph O2 λg3 O3 G=>Ad (Vt (Al ?_)))))
 replace O3:Jm g3 O x q:=O3
 refine Ad (Ad (Sm ?_));show Ao _ _ (Ea (.ref j) >>= _) _ _ _;refine Ad (gF (h2.keep λo e=>G.extBut _ _ D.Oj.symm (B.extBut _ _ D.ij.symm (U.extBut _ _ D.jz e))) (hb.keep λo e=>G.extBut _ _ Db.O (B.extBut _ _ Db.i (U.extBut _ _ Db.z e))) hy λg4 j4 T=>Al ?_);have O4:Jm g4 O x q:=T.extBut _ _ D.Oj O3;refine Ad (Hm O4 rfl (Ad (Ph O4 λY d L=>Ad (Vt (Al (Al ?_))))))
 replace d:Jm Y O x y:=d
 refine Ad (Hm d rfl (Ad (Wk ?_)));have sz:Y.objs.size=s.heap.objs.size:=by rw[L.1,T.1,G.1,B.1,U.1]
 have z5:Qx Y z I O .ellipsis:=L.extBut _ _ D.Oz.symm (T.extBut _ _ D.jz.symm (G.extBut _ _ D.Oz.symm (B.extBut _ _ D.iz.symm r)));have k5:YE z O i j s.heap Y:=λc o J u c3 c4 e=>L.extBut _ _ u (T.extBut _ _ c4 (G.extBut _ _ u (B.extBut _ _ c3 (U.extBut _ _ J e))));have i5:zE tp Y i a (k+1):=i2.keep λo e=>L.extBut _ _ D.Oi.symm (T.extBut _ _ D.ij (G.extBut _ _ D.Oi.symm e));have j5:zE g Y j b (k+1):=j4.keep λo e=>L.extBut _ _ D.Oj.symm e;have zl:z<Y.objs.size:=Ba z5;show Ao _ _ (Gx (.ref z) (.ref Y.objs.size) >>= _) _ _ _;refine Ad ?_;unfold Gx;have z6:Qx (Y.push { cls:=.type "tuple",data:=.seq #[x,y] }) z I O .ellipsis:=Ah _ z5;refine Ad (Fd z6 (by simp) λg7 z7 h=>?_)
 replace z7:Qx g7 z I O (Gn Y.objs.size):=z7
 refine Fd z7 (by simp) λM f n=>?_
 replace f:Qx M z I O (Gn Y.objs.size):=f
 have up:∀ c o,c≠z->Y.get? c=Ab o->M.get? c=Ab o:=λc o J e=>n.extBut _ _ J (h.extBut _ _ J (Ah _ e));have T8:Jm M Y.objs.size x y:=n.extBut _ _ (Gj zl) (h.extBut _ _ (Gj zl) (Bc _ rfl));have H:M.objs.size=Y.objs.size+1:=by rw[n.1,h.1,Dz]
 rw[sz] at f T8 H;refine Al ⟨_,rfl,?_⟩;show Q (.ref Y.objs.size) _;rw[sz];exact hQ M f (up _ _ D.Oz d) (i5.keep λo e=>up _ o D.iz e) (j5.keep λo e=>up _ o D.jz e) T8 H λc o J u c3 c4 e=>up c o J (k5 c o J u c3 c4 e)
end
section
variable {prog:Bf}{w:Bx}{A:Br}{E:Ac->Ag->Prop}{s:Ag}
theorem JU {tq:As}{z I O i j a b:Af}{k:Ai}{p q:Ac}{Q:Fin->Ag->Prop}(hh:A.handled=none)(D:ZA z I O i j)(Da:Off z O i j a)(v:Off z O i j b)
  (hz:Qx s.heap z I O .none) (hI:Jm s.heap I (.ref i) (.ref j)) (hO:Jm s.heap O p q) (h1:zE tp s.heap i a k) (h2:zE tq s.heap j b k) (ha:xR tp s.heap a xs) (hb:xR tq s.heap b ys) (B:xs[k]? = none\/ys[k]? = none)
  (hE:∀ h' e,YE z O i j s.heap h'->(∃ o,h'.get? e=Ab o/\o.cls=.type "StopIteration")->E (.ref e) { s with heap:=h' }) : Ao (Au prog w) A (Ik.«zip.__next__» ⟨[.ref z],[]⟩) Q E s:=by
 show Ao _ _ (field (.ref z) 2 >>= _) _ _ _;refine Ad (Dx hz rfl (x:=.bool false) rfl ?_);show Ao _ _ (field (.ref z) 3 >>= _) _ _ _;refine Ad (Dx hz rfl (x:=.ref I) rfl (Ad (Hm hI rfl ?_)));show Ao _ _ (Et (.ref z) >>= _) _ _ _;refine Ad ?_;unfold Et;refine Ad (Dx hz rfl (x:=.none) rfl (Al ?_));simp only[Eh];refine Ad (He (Ad (Dx hz rfl (x:=.ref O) rfl (Ad (Fd hz (by simp) λr u U=>?_)))))
 replace u:Qx r z I O .ellipsis:=u
 refine Ad ?_;simp only[Tx,AaB,Vb,Qu];refine Ad (Ad (Sm ?_));show Ao _ _ (Ea (.ref i) >>= _) _ _ _;have H:zE tp r i a k:=h1.keep λo e=>U.extBut _ _ D.iz e;have L:xR tp r a xs:=ha.keep λo e=>U.extBut _ _ Da.z e;cases g:xs[k]? with
 |none =>
  refine Ad (uU hh H L g λd e x2 n=>?_);obtain⟨oe,J,T⟩:=n;have z2:Qx d z I O .ellipsis:=x2 _ _ D.iz.symm u;have h:e≠z:=λy=>by subst y;rw[z2] at J;cases J;simp at T
  exact Fd z2 (by simp) λg3 _ Y=>hE g3 e (λc o G _ f _ y=>Y.extBut _ _ G (x2 _ _ f (U.extBut _ _ G y))) ⟨oe,Y.extBut _ _ h J,T⟩
 |some x =>
  have hy:ys[k]? = none:=by
   rcases B with y|y
   .rw[g] at y;cases y
   .exact y
  refine Ad (gF H L g λd i2 M=>Al ?_);have O2:Jm d O p q:=M.extBut _ _ D.Oi (U.extBut _ _ D.Oz hO);refine Ad (Hm O2 rfl (Ad (Ph O2 λg3 O3 Y=>Ad (Vt (Al ?_)))));refine Ad (Ad (Sm ?_));show Ao _ _ (Ea (.ref j) >>= _) _ _ _;refine Ad (uU hh (h2.keep λo e=>Y.extBut _ _ D.Oj.symm (M.extBut _ _ D.ij.symm (U.extBut _ _ D.jz e))) (hb.keep λo e=>Y.extBut _ _ v.O (M.extBut _ _ v.i (U.extBut _ _ v.z e))) hy λg4 e x4 n=>?_);obtain⟨oe,J,T⟩:=n;have z4:Qx g4 z I O .ellipsis:=x4 _ _ D.jz.symm (Y.extBut _ _ D.Oz.symm (M.extBut _ _ D.iz.symm u));have h:e≠z:=λy=>by subst y;rw[z4] at J;cases J;simp at T
  exact Fd z4 (by simp) λg5 _ s5=>hE g5 e (λc o G c2 f c4 y=>s5.extBut _ _ G (x4 _ _ c4 (Y.extBut _ _ c2 (M.extBut _ _ f (U.extBut _ _ G y))))) ⟨oe,s5.extBut _ _ h J,T⟩
noncomputable abbrev vR (tp:As)(l:Af):Cq:={ cls:=.type (if tp then "tuple_iterator" else "list_iterator"),data:=.fields #[.ref l,.int 0 0] }
noncomputable abbrev zh1 (tp:As)(h:Bo)(a:Af):Bo:=h.push (vR tp a)
noncomputable abbrev zh2 (tp Y:As)(h:Bo)(a b:Af):Bo:=(zh1 tp h a).push (vR Y b)
noncomputable abbrev zh3 (tp Y:As)(h:Bo)(a b:Af):Bo:=(zh2 tp Y h a b).push { cls:=.type "tuple",data:=.seq #[.ref h.objs.size,.ref (zh1 tp h a).objs.size] }
noncomputable abbrev zh4 (tp Y:As)(h:Bo)(a b:Af):Bo:=(zh3 tp Y h a b).push { cls:=.type "tuple",data:=.seq #[.none,.none] }
noncomputable abbrev zh5 (tp Y:As)(h:Bo)(a b:Af):Bo:=(zh4 tp Y h a b).push { cls:=.type "zip",data:=.fields #[.none,.bool false,.bool false,.ref (zh2 tp Y h a b).objs.size,.ref (zh3 tp Y h a b).objs.size] }
set_option maxHeartbeats 4000000 in
theorem MT (tp:As)(a b:Af)(xs ys:Ay Ac) :
  Meets (Ik.«zip.__new__» ⟨[.type "zip",.ref a,.ref b],[]⟩) (λ_ R s=>xR tp s.heap a xs/\xR tp s.heap b ys/\R (.ok (.ret (.ref (zh4 tp tp s.heap a b).objs.size))) { s with heap:=zh5 tp tp s.heap a b }):=
 .of_wp λprog w A R s h=>by
  obtain⟨Y,g,d,J,os⟩:=s;obtain⟨O,I,h⟩:=h;have L:=sub_zip;have B:∀ T:Cq,xR tp (Y.push T) b ys:=λT=>I.keep λo e=>Ah _ e;cases tp
  .have G:wT (Ov ⟨Y,g,d,J,os⟩) a xs:=O
   have U:wT (Ov ⟨Y.push { cls:=.type "list_iterator",data:=.fields #[.ref a,.int 0 0] },g,d,J,os⟩) b ys:=B _
   wp_walk using Gs G,Gs U
   exact⟨_,rfl,h⟩
  .have G:Yw (Ov ⟨Y,g,d,J,os⟩) a xs:=O
   have U:Yw (Ov ⟨Y.push { cls:=.type "tuple_iterator",data:=.fields #[.ref a,.int 0 0] },g,d,J,os⟩) b ys:=B _
   wp_walk using Ha G,Ha U
   exact⟨_,rfl,h⟩
theorem kZ {h:Bo}{it l:Af}(e:h.get? it=Ab (vR tp l)):zE tp h it l 0:=by
 cases tp
 .exact⟨_,e,rfl,rfl⟩
 .exact⟨_,e,rfl,rfl⟩
theorem YK {a b:Af}(H:xR tp s.heap a xs)(I:xR tp s.heap b ys)
  (h:∀ h',Qx h' (s.heap.objs.size+4) (s.heap.objs.size+2) (s.heap.objs.size+3) .none->Jm h' (s.heap.objs.size+2) (.ref s.heap.objs.size) (.ref (s.heap.objs.size+1)) ->
   Jm h' (s.heap.objs.size+3) .none .none->zE tp h' s.heap.objs.size a 0->zE tp h' (s.heap.objs.size+1) b 0->h'.objs.size=s.heap.objs.size+5->(∀ c o,s.heap.get? c=Ab o->h'.get? c=Ab o)->Q (.ref (s.heap.objs.size+4)) { s with heap:=h' }) :
  Ao (Au prog w) A (call (.type "zip") [.ref a,.ref b]) Q E s:=by
 refine callType_new F.called_zip (by decide) (F.typeCall_zip_2 _ _) (F.newCall_zip_2 _ _) (λobj=>F.args_object_init_3 obj _ _) F.entry_zip_new (MT tp a b xs ys) ⟨H,I,?_⟩
 have O:(zh1 tp s.heap a).objs.size=s.heap.objs.size+1:=Dz ..;have U:(zh2 tp tp s.heap a b).objs.size=s.heap.objs.size+2:=by rw[Dz,O]
 have G:(zh3 tp tp s.heap a b).objs.size=s.heap.objs.size+3:=by rw[Dz,U]
 have Y:(zh4 tp tp s.heap a b).objs.size=s.heap.objs.size+4:=by rw[Dz,G]
 have j:(zh5 tp tp s.heap a b).objs.size=s.heap.objs.size+5:=by rw[Dz,Y]
 have J:(zh5 tp tp s.heap a b).get? (zh4 tp tp s.heap a b).objs.size=Ab _:=Bc _ rfl;have B:(zh5 tp tp s.heap a b).get? (zh3 tp tp s.heap a b).objs.size=Ab _:=Ah _ (Bc _ rfl);have L:(zh5 tp tp s.heap a b).get? (zh2 tp tp s.heap a b).objs.size=Ab _:=Ah _ (Ah _ (Bc _ rfl));have T:(zh5 tp tp s.heap a b).get? (zh1 tp s.heap a).objs.size=Ab (vR tp b):=Ah _ (Ah _ (Ah _ (Bc _ rfl)));have y:(zh5 tp tp s.heap a b).get? s.heap.objs.size=Ab (vR tp a):=Ah _ (Ah _ (Ah _ (Ah _ (Bc _ rfl))));have M:∀ c o,s.heap.get? c=Ab o->(zh5 tp tp s.heap a b).get? c=Ab o:=λc o e=>Ah _ (Ah _ (Ah _ (Ah _ (Ah _ e))));show _/\_;rw[U,G,Y] at J;rw[O,U] at L;rw[G] at B;rw[O] at T;rw[Y];exact⟨⟨_,J,rfl⟩,h _ J L B (kZ y) (kZ T) j M⟩
end
def Sq (tp:As)(K:Aj)(H:Hp)(a:Af)(xs:Aa V):Prop:=if tp then SqT K H a xs else SqL K H a xs
section
variable {X:Cx}{pins:Aa (Af × Cq)}{σ : _L.St}{H:Hp}{s:Ag}
theorem Sq.at {a:Af}{xs:Aa V}(I:Inv X pins σ H s)(q:Sq tp X.K H a xs):∃ its,qJ xs its/\xR tp s.heap a its.toArray:=by
 cases tp with
 |true =>
  obtain⟨its,Y,p,_⟩:=I.tuple q;exact⟨its,Y,p⟩
 |false =>
  obtain⟨its,Y,p,_⟩:=I.list q;exact⟨its,Y,p.isList⟩
theorem Sq.inj {a:Af}{xs ys:Aa V}(I:Inv X pins σ H s)(q:Sq tp X.K H a xs)(Y:Sq tp X.K H a ys):xs=ys:=by
 cases tp with
 |true=>exact I.tuple_inj q Y
 |false=>exact I.list_inj q Y
theorem Sq.off {a b:Af}{xs:Aa V}(I:Inv X pins σ H s)(q:Sq tp X.K H a xs)(f:xI X pins H b):a≠b:=by
 have Y:H a≠none\/∃ o,X.K.lookup a=Ab o:=by
  cases tp with
  |true =>
   rcases q with (q|⟨o,q⟩)|⟨o,_,_,q,_⟩
   .exact .inl (by rw[q];intro z;cases z)
   .exact .inl (by rw[q];intro z;cases z)
   .exact .inr ⟨_,q⟩
  |false =>
   rcases q with (q|⟨o,q⟩)|⟨o,_,_,q,_⟩
   .exact .inl (by rw[q];intro z;cases z)
   .exact .inl (by rw[q];intro z;cases z)
   .exact .inr ⟨_,q⟩
 rintro rfl;rcases Y with k|⟨o,k⟩
 .exact k f.1
 .have e:=I.mod.kin a o k
  rcases f.2.2.2.1 with z|z
  .exact I.ok.noex a o e z
  .exact absurd (Ba (I.ok.bs a o e).1) (NE.mpr z)
theorem Inv.turnLay {fp:Aa Af}{T:Af}{xs:Aa V}{its:Aa Ac}(I:Inv X pins σ H s)(J:∀ b∈fp,xI X pins H b)(k:∀ b o,b ∉ fp->s.heap.get? b=Ab o->h'.get? b=Ab o)(j:∀ b∈fp,∃ o,h'.get? b=Ab o)
  (hT:s.heap.objs.size<=T) (M:qJ xs its) (B:Qr h' T its.toArray) (hz:xs.length<=sizeLine):Inv X pins σ (upd H T (.tup xs)) { s with heap:=h' }:=by
 have G:H T=none:=I.hok.fresh hT;have O:∀ b o,s.heap.get? b=Ab o->b≠T:=λb o e=>Cp (Bd (Ba e) hT);refine I.step (g':=s.gens) (d':=s.drawn) (t':=s.toks) (ch:=fp) (λb Y=>⟨(J b Y).2.2.2.1,(J b Y).2.1,(J b Y).2.2.2.2.1,(J b Y).2.2.2.2.2⟩) (λb o _ _ hc e _=>k b o hc e) (λb o _ _ hc e _=>⟨o.slots,k b o hc e⟩)
  (λb o _ e n=>by rw[qG (O b o e)];exact n) (λb o hc e=>⟨o,k b o hc e⟩) (λb ys e=>by rw[qG (qT e G)];exact e) (λb o u e=>by rw[qG (qT e G)];exact e)
  (λb y e=>⟨#[],by rw[qG (qT e G),e];simp⟩) (λm A=>?_) (λb u e=>?_) I.bare
 .obtain⟨o,L,w,E,r⟩:=A
  exact⟨o,L,w,k _ o (λz=>(J _ z).2.1 rfl) E,r⟩
 .by_cases Y:b=T
  .subst Y
   rw[qQ] at e;cases e;exact⟨hz,its,M,B⟩
  .rw[qG Y] at e
   refine(I.hok b u e).stay (λc v hc q=>k c v (λz=>?_) q) (λc q=>by rw[qG (qT q G)];exact q) λc ys q=>by rw[qG (qT q G)];exact q
   have U:=(J c z).1;rcases hc with rfl|hc
   .rw[U] at e;cases e
   .rw[U] at hc;cases hc
theorem Inv.turnL {fp:Aa Af}(I:Inv X pins σ H s)(Y:∀ b∈fp,xI X pins H b)(k:∀ b o,b ∉ fp->s.heap.get? b=Ab o->h'.get? b=Ab o):Inv X pins σ H { s with heap:=h' }:=by
 refine I.step (g':=s.gens) (d':=s.drawn) (t':=s.toks) (ch:=fp) (λb U=>⟨(Y b U).2.2.2.1,(Y b U).2.1,(Y b U).2.2.2.2.1,(Y b U).2.2.2.2.2⟩) (λb o _ _ hc e _=>k b o hc e) (λb o _ _ hc e _=>⟨o.slots,k b o hc e⟩)
  (λb o _ e n=>n) (λb o hc e=>⟨o,k b o hc e⟩) (λb ys e=>e) (λb o u e=>e) (λb T e=>⟨#[],by rw[e];simp⟩) (λm B=>?_) (λb u e=>?_) I.bare
 .obtain⟨o,G,L,O,r⟩:=B
  exact⟨o,G,L,k _ o (λz=>(Y _ z).2.1 rfl) O,r⟩
 .refine(I.hok b u e).stay (λc v hc q=>k c v (λz=>?_) q) (λc q=>q) λc ys q=>q
  have J:=(Y c z).1;rcases hc with rfl|hc
  .rw[J] at e;cases e
  .rw[J] at hc;cases hc
end
noncomputable def Itz (tp:As)(K:Aj)(a b:Af):It:=
  ⟨λi H=>∃ xs ys x y,Sq tp K H a xs/\Sq tp K H b ys/\xs[i]? = Ab x/\ys[i]? = Ab y,
   λi H v Y=>∃ T x y,v=.ref T/\H T=none/\Y=upd H T (.tup [x,y])/\(∀ xs,Sq tp K H a xs->xs[i]? = Ab x)/\∀ ys,Sq tp K H b ys->ys[i]? = Ab y,
   λi H=>∃ xs ys,Sq tp K H a xs/\Sq tp K H b ys/\(xs.length<=i\/ys.length<=i)⟩
def oC (tp:As)(z I O i j a b:Af)(k:Ai)(h:Bo):Prop:=∃ p q,Qx h z I O .none/\Jm h I (.ref i) (.ref j)/\Jm h O p q/\zE tp h i a k/\zE tp h j b k
theorem pW {z I O i j a b:Af}{k:Ai}{h:Bo}(st:oC tp z I O i j a b k h):∀ c∈[z,I,O,i,j],∃ o,h.get? c=Ab o/\∀ v,o.data≠.cell v:=λc Y=>by
 obtain⟨p,q,G,B,L,U,J⟩:=st;simp only[Az,Dq,Hr] at Y;rcases Y with rfl|rfl|rfl|rfl|rfl
 .exact⟨_,G,λv y=>by cases y⟩
 .exact⟨_,B,λv y=>by cases y⟩
 .exact⟨_,L,λv y=>by cases y⟩
 .exact U.there
 .exact J.there
theorem KH {c z I O i j:Af}(h:c ∉ [z,I,O,i,j]):c≠z/\c≠O/\c≠i/\c≠j:=by
 simp only[Az,Dq,Hr,Yb] at h;exact⟨h.1,h.2.2.1,h.2.2.2.1,h.2.2.2.2⟩
theorem JK {P:Bf}{w:Bx}{K:Aj}{zb:Aa Bt}{x1:Ai}{za:Ev}{z I O i j a b:Af}(D:ZA z I O i j):Turn P w K (.Tuple zb x1 za) (Itz tp K a b) [z,I,O,i,j] z (oC tp z I O i j a b) where
 mem:=.head _
 obj:=λk h st=>pW st
 keep:=λk h h' st g=>by
  obtain⟨p,q,G,M,s3,v,d⟩:=st;exact⟨p,q,g z (.head _) _ G,g I (.tail _ (.head _)) _ M,g O (.tail _ (.tail _ (.head _))) _ s3,v.keep λo e=>g i (.tail _ (.tail _ (.tail _ (.head _)))) o e,d.keep λo e=>g j (.tail _ (.tail _ (.tail _ (.tail _ (.head _))))) o e⟩
 item:=by
  intro X hP hw hK Y k L s σ H E J U st hg;subst hP hw hK;obtain⟨p,q,G,M,s3,v,d⟩:=st;obtain⟨xs,ys,x,y,r,f,hx,hy⟩:=hg;obtain⟨ia,ra,ha⟩:=r.at J;obtain⟨ib,rb,hb⟩:=f.at J;obtain⟨u,hu,ru⟩:=ra.get hx;obtain⟨u',zf,ze⟩:=rb.get hy;have off:∀ {c:Af} {A:Aa V},Sq tp X.K H c A->Off z O i j c:=λ{c A} B=>⟨B.off J (U z (.head _)),B.off J (U O (.tail _ (.tail _ (.head _)))),B.off J (U i (.tail _ (.tail _ (.tail _ (.head _))))),B.off J (U j (.tail _ (.tail _ (.tail _ (.tail _ (.head _))))))⟩;have hT:s.TypeIs (.ref z) "zip":=⟨_,G,rfl⟩;unfold Ni;refine Ad (Ix (DL (name:=Hu "__next__") hT Pr (Eg Pr hT xL
   (JS D (off r) (off f) G M s3 v d ha hb (by simpa using hu) (by simpa using zf) λh' a1 a2 a3 a4 a5 a6 a7=>Al ?_) (Zq _))))
  refine⟨_,rfl,wpAny_letOwnedTupleGo_zip (s:={ s with heap:=h' }) a1 λh2 b1 b2=>?_⟩
  have up:∀ c o,c≠z->h'.get? c=Ab o->h2.get? c=Ab o:=λc o n e=>(b2.2 c n).trans e;have zl:z<s.heap.objs.size:=Ba G;have T2:Jm h2 s.heap.objs.size u u':=up _ _ (Gj zl) a5;have zc:oC tp z I O i j a b (k+1) h2:=⟨u,u',b1,up _ _ D.Iz (a7 I _ D.Iz D.IO D.Ii D.Ij M),up _ _ D.Oz a2,a3.keep λo e=>up _ o D.iz e,a4.keep λo e=>up _ o D.jz e⟩;refine⟨.ref s.heap.objs.size,upd H s.heap.objs.size (.tup [x,y]),?_,rfl,⟨_,x,y,rfl,J.hok.fresh (Av _),rfl,λA qz=>by rw[qz.inj J r];exact hx,λA qz=>by rw[qz.inj J f];exact hy⟩,zc,λc Y=>?_⟩
  .show _L.Inv X L σ (upd H s.heap.objs.size (.tup [x,y])) { s with heap:=h2 }
   refine Inv.turnLay (fp:=[z,I,O,i,j]) (its:=[u,u']) J U (λc o Y e=>?_) (λc Y=>?_) (Av _) (.cons ru (.cons ze .nil)) ⟨_,T2,rfl,_,rfl⟩ (by show 2<=sizeLine;decide)
   .have Y:=KH Y
    exact up c o Y.1 (a7 c o Y.1 Y.2.1 Y.2.2.1 Y.2.2.2 e)
   .obtain⟨o,e,_⟩:=pW zc c Y
    exact⟨o,e⟩
  .have hn:=(U c Y).1
   rw[qG ?_]
   .exact hn
   .rintro rfl
    obtain⟨o,e,_⟩:=pW ⟨p,q,G,M,s3,v,d⟩ _ Y;exact absurd (Ba e) (Ej _)
 done:=by
  intro X hP hw hK Y k L s σ H E J U st hg;subst hP hw hK;obtain⟨p,q,G,M,s3,v,d⟩:=st;obtain⟨xs,ys,r,f,zd⟩:=hg;obtain⟨ia,ra,ha⟩:=r.at J;obtain⟨ib,rb,hb⟩:=f.at J;have off:∀ {c:Af} {A:Aa V},Sq tp X.K H c A->Off z O i j c:=λ{c A} B=>⟨B.off J (U z (.head _)),B.off J (U O (.tail _ (.tail _ (.head _)))),B.off J (U i (.tail _ (.tail _ (.tail _ (.head _))))),B.off J (U j (.tail _ (.tail _ (.tail _ (.tail _ (.head _))))))⟩;have hT:s.TypeIs (.ref z) "zip":=⟨_,G,rfl⟩;have l1:=ra.length;have l2:=rb.length;unfold Ni;refine Ad (Ix (DL (name:=Hu "__next__") hT Pr (Eg Pr hT xL
   (JU (J.ok.hd Y) D (off r) (off f) G M s3 v d ha hb ?_ λh' e g he=>?_) (Zq _))))
  .rcases zd with y|y
   .exact .inl (by simp;lia)
   .exact .inr (by simp;lia)
  .obtain⟨o,ho,zg⟩:=he
   refine Ad (Ow (T:="StopIteration") (b:=true) ⟨o,ho,zg⟩ Wl (Al ⟨rfl,Inv.turnL (fp:=[z,I,O,i,j]) J U λc o Y e=>?_⟩));have Y:=KH Y;exact g c o Y.1 Y.2.1 Y.2.2.1 Y.2.2.2 e
 self:=λ_ _ _ _ _ st h=>by
  obtain⟨p,q,G,_⟩:=st;exact x0 G h
noncomputable def vB (xs ys:Aa D):Aa D:=List.zipWith (λx y=>D.tup [x,y]) xs ys
noncomputable def EV (ds:Aa D):Am (Aa D):=match ds with
 |[.tup xs,.tup ys]=>Ab (vB xs ys)
 |[.lst xs,.lst ys]=>Ab (vB xs ys)
 |_=>none
noncomputable def tQ (f:DA):DI:=λenv S=>(f env S).bind λds Y=>vK (EV ds) Y
theorem JR {xs ys:Aa D}{i:Ai}:(vB xs ys)[i]? = match xs[i]?,ys[i]? with|some x,Ab y=>Ab (D.tup [x,y])|_,_=>none:=by
 unfold vB;rw[List.getElem?_zipWith];cases xs[i]? <;> cases ys[i]? <;> rfl
theorem mB (xs ys:Aa D):(vB xs ys).length=min xs.length ys.length:=by simp[vB]
section
variable {K:Aj}
theorem Sq.mono {P Y:Hp}(e:qE P Y){a:Af}{xs:Aa V}(q:Sq tp K P a xs):Sq tp K Y a xs:=by
 cases tp with
 |true=>exact yN e q
 |false=>exact e.seq q
theorem BE {P:Hp}{α:Aa Af}{a b:Af}{xs ys:Aa D}{Y:Aa V}(G:Sq tp K P a vs)(E:Sq tp K P b Y)(B:qD K P α xs vs)(A:qD K P α ys Y):ItD K (Itz tp K a b) P α (vB xs ys) where
 go:=λi H M J S U r e _=>by
  rw[mB] at U;have L:i<vs.length:=by rw[<- B.length];lia
  have O:i<Y.length:=by rw[<- A.length];lia
  exact⟨vs,Y,vs[i],Y[i],G.mono (e.trans r.sub),E.mono (e.trans r.sub),by simp,by simp⟩
 yld:=λi H x H' M J S U r e j y=>by
  obtain⟨T,u,w,rfl,n,rfl,g,s⟩:=y;rw[mB] at U;have L:i<xs.length:=by lia
  have O:i<ys.length:=by lia
  obtain⟨v1,d,c⟩:=B.get (Ap L);obtain⟨v2,f,v⟩:=A.get (Ap O);have q:=g vs (G.mono (e.trans r.sub));have p:=s Y (E.mono (e.trans r.sub));rw[d] at q;cases q;rw[f] at p;cases p;obtain⟨h,I⟩:=r.pure (o:=.tup [u,w]) n;refine⟨_,.tup [xs[i],ys[i]],?_,h,I,?_⟩
  .rw[JR,Ap L,Ap O]
  .exact bO (.of qQ) (.cons (Rep.mono (e.trans I) j _ _ c) (.cons (Rep.mono (e.trans I) j _ _ v) .nil))
 stop:=λi H M J S U r e _=>by
  rw[mB] at U;have l1:=B.length;have l2:=A.length;exact⟨vs,Y,G.mono (e.trans r.sub),E.mono (e.trans r.sub),by lia⟩
end
section
variable {X:Cx}{e1 e2:Bt}{elts:Aa Bt}{x1:Ai}{tpos:Ev}{f:DA}{p pos:Ev}
theorem YB {pins:Aa (Af × Cq)}{σ:_L.St}{H P:Hp}{α:Aa Af}{S:Sto}{s:Ag}{a b:Af}{xs ys:Aa D}{G:Aa V}(I:Inv X pins σ H s)(r:Rel X.K H P α S)(J:Sq tp X.K P a vs)(B:Sq tp X.K P b G)(u:qD X.K P α xs vs)(A:qD X.K P α ys G)
  (q:OkI X P α R (vB xs ys) S):Ao (Au X.prog X.w) X.A (call (.type "zip") [.ref a,.ref b]) (λv o=>Ao (Au X.prog X.w) X.A (Ol v) (PIE X pins σ (.Tuple elts x1 tpos) R) X.xe o) X.xe s:=by
 obtain⟨e,d,L⟩:=(J.mono r.sub).at I;obtain⟨n,i,T⟩:=(B.mono r.sub).at I;refine YK L T λh' Y j E w y g M=>?_;refine x0 (s:={ s with heap:=h' }) Y ?_
 have D:ZA (s.heap.objs.size+4) (s.heap.objs.size+2) (s.heap.objs.size+3) s.heap.objs.size (s.heap.objs.size+1):=by constructor <;> (intro z;simp at z)
 refine⟨_,[s.heap.objs.size+4,s.heap.objs.size+2,s.heap.objs.size+3,s.heap.objs.size,s.heap.objs.size+1],_,_,H,rfl,I.kept (t':=s.toks) M,JK (a:=a) (b:=b) D,⟨_,_,Y,j,E,w,y⟩,λc U=>?_,q _ _ P α r (qE.refl _) (Bh _) (BE J B u A)⟩;have O:s.heap.objs.size<=c:=by
  simp only[Az,Dq,Hr] at U;rcases U with rfl|rfl|rfl|rfl|rfl <;> simp
 exact I.fpOk O (I.hok.fresh O)
inductive ZipV (ds:Aa D)(its:Aa D):Prop
 |tup (xs ys:Aa D) (ed:ds=[.tup xs,.tup ys]) (e:its=vB xs ys)
 |lst (xs ys:Aa D) (ed:ds=[.lst xs,.lst ys]) (e:its=vB xs ys)
theorem MS (h:EV ds=Ab its):ZipV ds its:=by
 cases ds with
 |nil=>exact nn h
 |cons a ds =>
  cases a with
  |tup xs =>
   cases ds with
   |nil=>exact nn h
   |cons b ds =>
    cases b with
    |tup ys =>
     cases ds with
     |nil=>exact .tup xs ys rfl (Cy h).symm
     |cons _ _=>exact nn h
    |_=>exact nn h
  |lst xs =>
   cases ds with
   |nil=>exact nn h
   |cons b ds =>
    cases b with
    |lst ys =>
     cases ds with
     |nil=>exact .lst xs ys rfl (Cy h).symm
     |cons _ _=>exact nn h
    |_=>exact nn h
  |_=>exact nn h
theorem NH (hg:Gl X "zip")(hm:X.mg "zip" = none)(d:PA X [e1,e2] (tDA X f))(hs:Bm [e1,e2] X.env=(false,eval e1 X.env)::Bm [e2] X.env:=by rfl)(L:(Gh pos (Bm [e2] X.env)).any (·.1)=false:=by rfl) :
  PI X (.Tuple elts x1 tpos) (.Call (.Name "zip" p) [e1,e2] [] pos) (tDI X (tQ f)):=by
 intro o s σ H R I h;obtain⟨P,α,env,S,r,re,af⟩:=h;refine Call_ (vT I hg hm boot_zip (Hl (thn (wB d I r re af pos) λus s1 ⟨vs,H1,P1,n,ds,S1,y,j,c,za,g,e1,e2,T⟩=>?_) hs L));obtain⟨its,i,q⟩:=vL T;cases MS i with
 |tup xs ys U e =>
  subst U e;obtain⟨v,w,u,x,rfl,rfl,J,Y,O,A⟩:=uD g j;simp only[Rep] at J Y;obtain⟨a,va,rfl,G,E⟩:=J;obtain⟨b,vb,rfl,M,B⟩:=Y;cases (show u=Cg a from O)
  cases (show x=Cg b from A)
  exact YB (tp:=true) y c G M E B (q.base e1 e2)
 |lst xs ys U e =>
  subst U e;obtain⟨v,w,u,x,rfl,rfl,J,Y,O,A⟩:=uD g j;simp only[Rep] at J Y;obtain⟨a,va,rfl,G,E⟩:=J;obtain⟨b,vb,rfl,M,B⟩:=Y;cases (show u=Cg a from O)
  cases (show x=Cg b from A)
  exact YB (tp:=false) y c G.l M.l E B (q.base e1 e2)
end
def Src (K:Aj)(mg:Ar->Am Ac)(x:Ar)(st:EQ)(ps:Aa Ar):Prop:=∃ f Y,mg x=Ab (.ref f)/\Fun K x x st f Y/\vN K Y ps []
def Lk (K:Aj)(f:Af)(fd:Fu):Prop:=∃ U J Y,K.lookup f=Ab ⟨U,J,.func fd,Y⟩
theorem bD {K:Aj}{x q:Ar}{st:EQ}{f:Af}{fd:Fu}(F:Fun K x q st f fd):Lk K f fd:=by
 obtain⟨B,G,kV,U,L,T,O,E,Y,_,J,_⟩:=F.ex;exact⟨B,G,Y,J⟩
theorem Lk.one {K:Aj}{f:Af}{fd Y:Fu}(h:Lk K f fd)(h':Lk K f Y):fd=Y:=by
 obtain⟨T,L,O,e⟩:=h;obtain⟨B,G,U,J⟩:=h';rw[e] at J;cases J;rfl
noncomputable def Def (P:Bf)(w:Bx)(K:Aj)(mg:Ar->Am Ac)(base:Bo)(cm:As)(k:Ai)(x:Ar)(n:Ai)(F:DF):Prop:=
 ∃ f J Y,Y.length=n/\mg x=Ab (.ref f)/\Fi K (.ref f)=true/\vN K J Y [] /\ Lk K f J/\FnX P w K mg base cm k f J Y (spD K n F)
def sM (P:Bf)(w:Bx)(K:Aj)(mg:Ar->Am Ac)(base:Bo)(cm:As)(k:Ai)(x:Ar)(ps:Aa Ar)(F:DF):Prop:=
 ∃ f Y,mg x=Ab (.ref f)/\Fi K (.ref f)=true/\vN K Y ps [] /\ Lk K f Y/\FnX P w K mg base cm k f Y ps (spD K ps.length F)
section
variable {P:Bf}{w:Bx}{K:Aj}{mg:Ar->Am Ac}{base:Bo}{cm:As}
theorem JZ {x:Ar}{f:Af}{fd:Fu}{Y:Ac}(hm:mg x=Ab (.ref f))(J:Lk K f fd)(h:fd.code=Y/\Mod K mg base):kJ K x Y:=λc T e=>by
 obtain⟨O,G,U,J⟩:=J;rw[<- h.1];exact PySem.W.law_code h.2.kin h.2.glob e hm (h.2.kin _ _ J) rfl
theorem NC {x:Ar}{st:EQ}{ps:Aa Ar}{k:Ai}{g:DS}(h:Src K mg x st ps)(S:FnScope N ps (qH st))
  (U:∀ (f:Af) (J:Ac) (A:Br) (Y:Aa Il) (s:Ag) (H:Hp) (E:XK),kJ K x J->RoomC cm k (A.deeper (Go x (qH st) s.heap.objs.size f J)) ->
   PSs (cxC cm P w K mg base N x (qH st) f J A Y s H E) (zL st) (tDS (cxC cm P w K mg base N x (qH st) f J A Y s H E) g)):Def P w K mg base cm (k+1) x ps.length (qP N.length g):=by
 obtain⟨f,L,G,F,O⟩:=h;exact⟨f,L,ps,rfl,G,F.kp,O,bD F,fnX F S λJ A Y s H E T B=>U f J A Y s H E (JZ G (bD F) T) B⟩
theorem P7 {x:Ar}{st:EQ}{ps:Aa Ar}{k:Ai}{g:DS}(h:Src K mg x st ps)(S:FnScope N ps (qH st))
  (U:∀ (f:Af) (J:Ac) (A:Br) (Y:Aa Il) (s:Ag) (H:Hp) (E:XK),kJ K x J->RoomC cm k (A.deeper (Go x (qH st) s.heap.objs.size f J)) ->
   PSs (cxC cm P w K mg base N x (qH st) f J A Y s H E) (zL st) (tDS (cxC cm P w K mg base N x (qH st) f J A Y s H E) g)):sM P w K mg base cm (k+1) x ps (qP N.length g):=by
 obtain⟨f,L,G,F,O⟩:=h;exact⟨f,L,G,F.kp,O,bD F,fnX F S λJ A Y s H E T B=>U f J A Y s H E (JZ G (bD F) T) B⟩
theorem Def.any {x:Ar}{k n:Ai}{F:DF}(h:Def P w K mg base false k x n F):Def P w K mg base cm k x n F:=by
 obtain⟨f,B,U,O,G,J,Y,L,X⟩:=h;exact⟨f,B,U,O,G,J,Y,L,X.any⟩
end
section
variable {X:Cx}{cm:As}{k n:Ai}{F:DF}{x:Ar}{p pos:Ev}{e:Bt}{es:Aa Bt}{fa:DA}
theorem dcN (G:Def X.prog X.w X.K X.mg X.base cm k x n F)(E:RoomC cm k X.A)(L:Fn1 X)(I:Gl X x)(B:PA X (e::es) (tDA X fa))(J:(x == ("__debug__" : Ar))=false:=by decide)(H:Bm (e::es) X.env=(false,eval e X.env)::Bm es X.env:=by rfl)(Y:(Gh pos (Bm es X.env)).any (·.1)=false:=by rfl) :
  PE X (.Call (.Name x p) (e::es) [] pos) (tD X (qM n F fa)):=by
 obtain⟨f,w,M,A,U,T,O,j,G⟩:=G;exact GT G E L I U T O B J H Y
theorem N0 (U:Gl X x)(hm:X.mg x=Ab (.ref C))(J:Fi X.K (.ref C)=true)(Y:(x == ("__debug__" : Ar))=false:=by decide):PE X (.Name x pos) (tD X (dC (.obj C))):=
 aE U hm (v:=.ref C) rfl (λP α => by simp only[Rep];exact⟨trivial,J⟩) Y
end
noncomputable def xM:DF:=λds S=>match ds with
 |[.dct0]=>.bad
 |_=>rO ds S
theorem GG {X:Cx}:xQ X (.builtin "len") xM:=TJ trivial
noncomputable def pD:DE:=λ_ _=>.bad
theorem TY {X:Cx}{e:Bt}:PE X e (tD X pD):=λ_ _ _ _ _ _ ⟨_,_,_,_,_,_,h⟩=>An h
theorem JY:∃ C:Ak->Ak->As,C=sU:=⟨_,rfl⟩
def JX:Ak->Ak->As:=Tw JY
theorem sV:JX=sU:=Ou JY
def zJ:G2:=i2 JX λi j=>.int (i*j)
theorem iD {X:Cx}:OpD X (Ei .Mult) zJ:=by
 unfold zJ;rw[sV];exact BZ
theorem hu1 {cm:As}{k:Ai}{A:Br}(Y:RoomC cm k A):A.units+1<Fk:=by have:=Y.units;lia
noncomputable def okO (F:DF):DF:=λds S=>match F ds S with
 |.ok d Y=>.ok d Y
 |_=>.bad
theorem SG {F:DF}{S Y:Sto}{d:D}(h:F ds S=.ok d Y):okO F ds S=.ok d Y:=by unfold okO;rw[h]
section
variable {X:Cx}{cm:As}{k n:Ai}{F:DF}{x:Ar}{p pos:Ev}{e:Bt}{es:Aa Bt}{fa:DA}{f:Af}{fd:Fu}{ps:Aa Ar}
theorem FX {pins:Aa (Af × Cq)}{σ:_L.St}{H:Hp}{s:Ag}{Q:VK}{us:Aa Ac}{P:Hp}{α:Aa Af}{S:Sto}(G:FnX X.prog X.w X.K X.mg X.base cm k f fd ps (spD X.K n F))(y:RoomC cm k X.A)(E:vN X.K fd ps [])
  (I:Inv X pins σ H s) (r:Rel X.K H P α S) (L:qJ vs us) (T:qD X.K P α ds vs) (M:ds.length=n) (Y:qS X P α (okO F ds S) Q):Ao (Au X.prog X.w) X.A (call (.ref f) us) (EP X pins σ Q) X.xe s:=by
 have B:vs.length=n:=by rw[<- T.length];exact M
 have O:spD X.K n F vs H Q λ_ _ _=>Fn:=by
  refine⟨B,P,α,ds,S,r,T,?_⟩;unfold okO at Y;cases q:F ds S with
  |ok d j=>rw[q] at Y;exact Y
  |ex c x j=>rw[q] at Y;exact An Y
  |bad=>rw[q] at Y;exact Y
 have w:us.length=ps.length:=by rw[<- L.length];exact G.len _ _ _ _ O
 have J:=E s us I.kIn (by rw[Fv];exact w)
 rw[Fv] at J;refine Qh (Kj (G.run X.A X.stack s H ⟨us,[]⟩ us vs Q _ y I.env0 J L O) λr o U=>?_);cases r with
 |error u =>
  obtain⟨_,_,_,_,_,_,_,_,_,_,_,_,z⟩:=U;exact An z
 |ok A =>
  cases A with
  |ret u=>exact I.after U
  |next=>exact An U
  |brk=>exact An U
  |cont=>exact An U
theorem dcO (G:Def X.prog X.w X.K X.mg X.base cm k x n F)(i:RoomC cm k X.A)(c:Gl X x)(E:PA X (e::es) (tDA X fa))(U:(x == ("__debug__" : Ar))=false:=by decide)(he:Bm (e::es) X.env=(false,eval e X.env)::Bm es X.env:=by rfl)(Y:(Gh pos (Bm es X.env)).any (·.1)=false:=by rfl) :
  PE X (.Call (.Name x p) (e::es) [] pos) (tD X (qM n (okO F) fa)):=by
 obtain⟨f,fd,ps,d,w,A,T,hl,G⟩:=G;intro L s σ H Q I h;obtain⟨P,α,env,S,r,re,o⟩:=h;refine Hb (uF I c w ?_ U);refine Rh (h₀:=X.base) I.ok.mod.kin A (thn (wB E I r re o pos) λus s1 ⟨vs,H1,P1,u,ds,S1,B,v,g,q,rp,M,j,J⟩=>⟨B.kIn,?_⟩) he Y;obtain⟨y,O⟩:=lK (env:=env) (S:=S) J;exact FX G i T B g v rp y (qS.base M j O)
end
structure QE (X:Cx)(e:Bt)(f:DE):Prop where
 get:PE X e (tD X f)
structure QT (X:Cx)(e:Bt)(t:DT):Prop where
 get:PT X e (tDT X t)
structure QW (X:Cx)(e:Bt)(t:DT):Prop where
 get:PWD X e t
structure QA (X:Cx)(es:Aa Bt)(f:DA):Prop where
 get:PA X es (tDA X f)
structure QO (X:Cx)(e:Am Bt)(f:DO):Prop where
 get:PO X e (tDO X f)
structure QG (X:Cx)(t:Bt)(g:DG):Prop where
 get:PG X t (tDG X g)
structure QGs (X:Cx)(ts:Aa Bt)(g:DGs):Prop where
 get:PGs X ts (c8 X g)
structure QI (X:Cx)(tg it:Bt)(f:DI):Prop where
 get:PI X tg it (tDI X f)
structure QS (X:Cx)(s:EQ)(f:DS):Prop where
 get:PS X s (tDS X f)
structure QB (X:Cx)(ss:Aa EQ)(f:DS):Prop where
 get:PSs X ss (tDS X f)
structure QJ (X:Cx)(es:Aa Bt)(fs:Aa DE):Prop where
 get:PJ X es fs
structure ZOp (X:Cx)(f:Ac->Ac->Ko Ac)(g:G2):Prop where
 get:OpD X f g
structure ZUn (X:Cx)(f:Ac->Ko Ac)(g:D->Sto->Res D):Prop where
 get:UnD X f g
structure ZIx (X:Cx)(g:G2):Prop where
 get:IxD X g
structure ZCall (X:Cx)(f:Ac)(F:DF):Prop where
 get:xQ X f F
structure ZMt (X:Cx)(id:Em)(g:D->Aa D->Sto->Res D):Prop where
 get:MtD X id g
structure ZSet (X:Cx)(g:G3):Prop where
 get:sN X (sJ X g)
structure ZPass (X:Cx):Prop where
 get:Pm (Au X.prog X.w) X.A X.env X.xe
section
variable {X:Cx}{a b c e e1 e2 o i:Bt}{es rest:Aa Bt}{fa fb fc fe fo fi:DE}{ta tb:DT}{fA:DA}{f g:DS}{st:EQ}{sts:Aa EQ}{x:Ar}{p pos:Ev}{n k:Ai}{cm:As}{F:DF}{G2':G2}
theorem WD:QE X (.Constant .none j pos) (dC .non):=⟨N7⟩
theorem KP:QE X (.Constant (.bool v) j pos) (dC (.bl v)):=⟨HD⟩
theorem RG:QE X (.Constant (.int v) j pos) (dC (.int v)):=⟨N4⟩
theorem RK:QE X (.Constant (.str v) j pos) (dC (.str v)):=⟨NA⟩
theorem RL (m:Ai)(U:X.N[m]? = Ab x)(hv:Vis X.env.scope x)(J:(x == ("__debug__" : Ar))=false)(Y:(x == ("__classdict__" : Ar))=false):QE X (.Name x pos) (qB m):=⟨dv m U hv J Y⟩
theorem FH {nm:Em}(U:Gl X x)(hm:X.mg x=none)(hv:Gi x=Ab (.type nm))(Y:x ≠ "__name__")(J:(x == ("__debug__" : Ar))=false):QE X (.Name x pos) (dC (.ty nm)):=⟨GS U hm hv Y J⟩
theorem RD (J:Gl X x)(hm:X.mg x=Ab (.ref C))(U:Fi X.K (.ref C)=true)(Y:(x == ("__debug__" : Ar))=false):QE X (.Name x pos) (dC (.obj C)):=⟨N0 J hm U Y⟩
theorem FJ {v:Ak}(J:Gl X x)(hm:∃ t,X.mg x=Ab (.int v t))(Y:(x == ("__debug__" : Ar))=false):QE X (.Name x pos) (dC (.int v)):=⟨let ⟨_,h⟩:=hm;aE (v:=.int v) J h ⟨_,rfl⟩ (λ_ _=>by simp only[Rep]) Y⟩
theorem RC:QE X e pD:=⟨TY⟩
theorem AK {op:UnaryOp}{h:D->Sto->Res D}(J:ZUn X (sB op) h)(Y:QE X a fa):QE X (.UnaryOp op a pos) (d1 h fa):=⟨HI J.1 Y.1⟩
theorem RJ (Y:QE X a fa):QE X (.UnaryOp .Not a pos) (YS fa):=⟨N8 Y.1⟩
theorem AJ {op:Operator}(U:ZOp X (Ei op) G2')(J:QE X a fa)(Y:QE X b fb):QE X (.BinOp a op b pos) (d2 G2' fa fb):=⟨HH U.1 J.1 Y.1⟩
theorem WC {op:Xc}(U:ZOp X (Df op) G2')(J:QE X a fa)(Y:QE X b fb)(hm:Ma op b=false:=by first|exact kA _|with_unfolding_all rfl):QE X (.Compare a [op] [b] pos) (d2 G2' fa fb):=⟨N1 U.1 J.1 Y.1 hm⟩
theorem UP {op Y:Xc}{g':G2}(B:ZOp X (Df op) G2')(J:ZOp X (Df Y) g')(G:QE X a fa)(U:QE X b fb)(O:QE X c fc)(hm:Zn [op,Y] [b,c]=false:=by with_unfolding_all rfl):QE X (.Compare a [op,Y] [b,c] pos) (wL G2' g' fa fb fc):=⟨YU B.1 J.1 G.1 U.1 O.1 hm⟩
theorem WE  (h:QE X a fa):QE X (.BoolOp op [a] pos) fa:=⟨N9 h.1⟩
theorem WA (J:QE X a fa)(Y:QE X (.BoolOp .And (b::rest) pos) fb):QE X (.BoolOp .And (a::b::rest) pos) (pC fa fb):=⟨TX J.1 Y.1⟩
theorem AH (J:QT X c ta)(U:QE X a fa)(Y:QE X b fb):QE X (.IfExp c a b pos) (dIf ta fa fb):=⟨HF J.1 U.1 Y.1⟩
theorem WG  (h:QA X es fA):QE X (.Tuple es x1 pos) (zA fA):=⟨NB h.1⟩
theorem RI (h:QA X es fA):QE X (.List es pos) (xB fA):=⟨N6 h.1⟩
theorem FL (h:QA X es fA):QE X (.List es pos) (jE fA):=⟨GX h.1⟩
theorem RE:QE X (.Dict [] [] pos) tP:=⟨N2⟩
theorem FI:QE X (.Dict [] [] pos) dR:=⟨GV⟩
theorem AI (U:ZIx X G2')(J:QE X a fa)(Y:QE X b fb)(hs:tK b:=by intro _ _;rfl):QE X (.Subscript a b pos) (d2 G2' fa fb):=⟨HG U.1 J.1 Y.1 hs⟩
theorem UR {lo hi:Am Bt}{Y J:DO}{O:Ev}(B:QE X e fe)(G:QO X lo Y)(U:QO X hi J):QE X (.Subscript e (.Slice lo hi none O) pos) (dSl fe Y J):=⟨YW B.1 G.1 U.1⟩
theorem FQ:QO X none wN:=⟨PD⟩
theorem FR (Y:QE X e fe):QO X (Ab e) (xJ fe):=⟨PF Y.1⟩
theorem RF (Y:QE X e fe):QE X (.FormattedValue e (-1) none pos) (d1 tZ fe):=⟨N3 Y.1⟩
theorem RP:QJ X [] []:=⟨R0⟩
theorem FP {fs:Aa DE}(J:QE X e fe)(Y:QJ X es fs):QJ X (e::es) (fe::fs):=⟨F9 J.1 Y.1⟩
theorem FK {fs:Aa DE}(h:QJ X (e1::e2::rest) fs):QE X (.JoinedStr (e1::e2::rest) pos) (oN fs):=⟨GW h.1⟩
theorem W8:QA X [] qC:=⟨TU⟩
theorem iF (J:QE X e fa)(Y:QA X es fA)(hs:Bm (e::es) X.env=(false,eval e X.env)::Bm es X.env:=by rfl):QA X (e::es) (qA fa fA):=⟨GR J.1 Y.1 hs⟩
theorem qcN (G:Def X.prog X.w X.K X.mg X.base cm k x n F)(B:RoomC cm k X.A)(O:Fn1 X)(L:Gl X x)(U:QA X (e::es) fA)(J:(x == ("__debug__" : Ar))=false)(T:Bm (e::es) X.env=(false,eval e X.env)::Bm es X.env:=by rfl)(Y:(Gh pos (Bm es X.env)).any (·.1)=false:=by rfl):QE X (.Call (.Name x p) (e::es) [] pos) (qM n F fA):=⟨dcN G B O L U.1 J T Y⟩
theorem UO {id:Em}(O:ZCall X (.builtin id) F)(B:Gl X x)(hm:X.mg x=none)(hv:Gi x=Ab (.builtin id))(U:QA X (e::es) fA)(G:x ≠ "__name__")(J:(x == ("__debug__" : Ar))=false)(L:Bm (e::es) X.env=(false,eval e X.env)::Bm es X.env:=by rfl)(Y:(Gh pos (Bm es X.env)).any (·.1)=false:=by rfl):QE X (.Call (.Name x p) (e::es) [] pos) (qL F fA):=⟨YT O.1 B hm hv U.1 G J L Y⟩
theorem WB {T:Em}(B:ZCall X (.type T) F)(L:Gl X x)(hm:X.mg x=none)(hv:Gi x=Ab (.type T))(U:QA X (e::es) fA)(O:x ≠ "__name__")(Y:(x == ("__debug__" : Ar))=false)(G:Bm (e::es) X.env=(false,eval e X.env)::Bm es X.env:=by rfl)(J:(Gh pos (Bm es X.env)).any (·.1)=false:=by rfl):QE X (.Call (.Name x p) (e::es) [] pos) (qL F fA):=⟨ZT B.1 L hm hv U.1 O Y G J⟩
theorem t7 {T id:Em}{name:Ar}{J:Ev}{h:D->Aa D->Sto->Res D}(pa:PlainAttrs T)(slot:Slot T name id)(B:typeOf (.builtin id)=pure (.type "method_descriptor"))(hT:T = "list" \/ T = "dict" \/ T = "int" \/ T = "str")(hm:ZMt X id h)(E:QE X o fo)(L:QA X (e::es) fA)
  (U:Sl o name X.env (eval o X.env)=eval o X.env:=by rfl)
  (O:((Gh pos (Bm (e::es) X.env)).all (λx=>!x.1)&&(backToKw pos (keywordEach [] X.env)).all (λx=>x.1.isSome)&&decide ((e::es).length+([]:Aa Keyword).length+(if ([] : Aa Keyword).isEmpty then 0 else 1)<30))=true:=by rfl)
  (G:(J.endLine == pos.line)=true:=by rfl) (hs:Bm (e::es) X.env=(false,eval e X.env)::Bm es X.env:=by rfl) (Y:(Gh pos (Bm es X.env)).any (·.1)=false:=by rfl):QE X (.Call (.Attribute o name J) (e::es) [] pos) (dBm T h fo fA):=⟨HE pa slot B hT hm.1 E.1 L.1 U O G hs Y⟩
theorem KR (h:QW X e ta):QT X e ta:=⟨PWD.pt h.1⟩
theorem iJ (Y:QT X a ta):QW X (.BoolOp .And [a] pos) ta:=⟨PQ Y.1⟩
theorem t8 (Y:QT X a ta):QW X (.BoolOp .Or [a] pos) ta:=⟨NU Y.1⟩
theorem WQ (J:QT X a ta)(Y:QW X (.BoolOp .And (b::rest) pos) tb):QW X (.BoolOp .And (a::b::rest) pos) (dQ ta tb):=⟨NT J.1 Y.1⟩
theorem sH (J:QT X a ta)(Y:QW X (.BoolOp .Or (b::rest) pos) tb):QW X (.BoolOp .Or (a::b::rest) pos) (kO ta tb):=⟨HN J.1 Y.1⟩
theorem RW (Y:QT X a ta):QT X (.UnaryOp .Not a pos) (yH ta):=⟨NR Y.1⟩
theorem WM {op:Xc}(U:ZOp X (Df op) G2')(J:QE X a fa)(Y:QE X b fb)(hm:Ma op b=false:=by first|exact kA _|with_unfolding_all rfl):QT X (.Compare a [op] [b] pos) (dTr (d2 G2' fa fb)):=⟨NQ U.1 J.1 Y.1 hm⟩
theorem UX {op Y:Xc}{g':G2}(B:ZOp X (Df op) G2')(J:ZOp X (Df Y) g')(G:QE X a fa)(U:QE X b fb)(O:QE X c fc)(hm:Zn [op,Y] [b,c]=false:=by with_unfolding_all rfl):QT X (.Compare a [op,Y] [b,c] pos) (dTr (wL G2' g' fa fb fc)):=⟨V5 B.1 J.1 G.1 U.1 O.1 hm⟩
theorem WN (J:QE X a fa)(U:∀ Y,isTrue a X.env Y=(do let v <- Y;Sg a.pos;holding [v] (truthy v)):=by intro _;rfl):QT X a (dTr fa):=⟨NS J.1 U⟩
theorem FN (U:X.N.Nodup)(hi:X.N[m]? = Ab x)(J:Loc X.env.scope x)(Y:X.fn x=true\/X.env.scope.names.lookup x=Ab .local):QG X (.Name x pos) (gNm m):=⟨P8 U hi J Y⟩
theorem iG:QGs X [] yJ:=⟨P9⟩
theorem eQ {h:DG}{Y:DGs}(h1:QG X e h)(h2:QGs X es Y)(hs:(Hd (e::es) X.env).map (·.2)=assign e X.env::(Hd es X.env).map (·.2):=by rfl):QGs X (e::es) (zP h Y):=⟨YX h1.1 h2.1 hs⟩
theorem WH {kk:Ai}{J:DGs}(G:X.calm=true)(h:QGs X es J)(U:(Hd es X.env).length=n:=by rfl)(Y:(Hd es X.env).findIdx? (·.1)=none:=by rfl):QG X (.Tuple es kk pos) (gTp n J):=⟨NF G h.1 U Y⟩
theorem RM {h:G3}(J:QE X o fo)(hi:QE X i fi)(hs:ZSet X h)
  (Y:∀ v,assign (.Subscript o i pos) X.env v=(do
   let ov <- holding [v] (eval o X.env)
   let iv <- holding [v,ov] (eval i X.env)
   Sg pos
   holding [v,ov,iv] (setItem ov iv v)
   release [v,ov,iv] []):=by intro _;rfl):QG X (.Subscript o i pos) (gSb fo fi h):=⟨ND J.1 hi.1 hs.1 Y⟩
theorem RO {Y:Bt}(J:QE X e fa):QI X Y e (uM fa):=⟨NG J.1⟩
theorem UT {U:Bt}(G:Gl X "range")(hm:X.mg "range" = none)(J:QA X (e::es) fA)(hs:Bm (e::es) X.env=(false,eval e X.env)::Bm es X.env:=by rfl)(Y:(Gh pos (Bm es X.env)).any (·.1)=false:=by rfl):QI X U (.Call (.Name "range" p) (e::es) [] pos) (yL fA):=⟨YZ G hm J.1 hs Y⟩
theorem WK {Y:Aa Bt}{B:Ai}{J:Ev}(O:Gl X "zip")(hm:X.mg "zip" = none)(G:QA X [e1,e2] fA)(hs:Bm [e1,e2] X.env=(false,eval e1 X.env)::Bm [e2] X.env:=by rfl)(U:(Gh pos (Bm [e2] X.env)).any (·.1)=false:=by rfl):QI X (.Tuple Y B J) (.Call (.Name "zip" p) [e1,e2] [] pos) (tQ fA):=⟨NH O hm G.1 hs U⟩
theorem W9:QB X [] zV:=⟨NK⟩
theorem mZ (h:QS X st f):QB X [st] f:=⟨NL h.1⟩
theorem bN (h1:QS X st f)(h2:QB X sts g):QB X (st::sts) (qN f g):=⟨PH h1.1 h2.1⟩
theorem FS (Y:QE X e fa)(hs:Nq e none pos.line X.env=pure false:=by rfl):QS X (.Expr e pos) (xY fa):=⟨PL Y.1 hs⟩
theorem WL (Y:QE X e fa):QS X (.Return (Ab e) pos) (z9 fa):=⟨NN Y.1⟩
theorem KQ {Y bs:Aa EQ}(J:QT X c ta)(U:QB X Y f)(G:QB X bs g):QS X (.If c Y bs pos) (sIf ta f g):=⟨HL J.1 U.1 G.1⟩
theorem UW (hp:ZPass X)(J:QT X c ta)(Y:QB X body f):QS X (.While c body [] pos) (pR ta f):=⟨V4 hp.1 J.1 Y.1⟩
theorem RS {J Y:Bt}{U:DI}{h:DG}(hp:ZPass X)(O:X.calm=true)(hi:QI X J Y U)(B:QG X J h)(G:QB X body f)(hs:∀ x,Gc Y X.env x=pure x:=by intro _;rfl):QS X (.For J Y body [] pos) (u4 U h f):=⟨NJ hp.1 O hi.1 B.1 G.1 hs⟩
theorem RU {Y:Ev}(U:X.N.Nodup)(O:QE X e fa)(hi:X.N[m]? = Ab x)(G:Loc X.env.scope x)(hs:Nq e (Ab (.Name x Y)) pos.line X.env=pure false)(J:X.fn x=true\/X.env.scope.names.lookup x=Ab .local):QS X (.Assign [.Name x Y] e pos) (qV fa (gNm m)):=⟨NO U O.1 hi G hs J⟩
theorem RQ {Y:Bt}{h:DG}(J:QE X e fa)(U:QG X Y h)(hs:Lz [Y] e pos.line X.env=pure false:=by rfl)(hw:Ly [Y] e X.env=pure none:=by rfl)(h1:(Hd [Y] X.env).map (·.2)=[assign Y X.env]:=by rfl):QS X (.Assign [Y] e pos) (qV fa h):=⟨NI J.1 U.1 hs hw h1⟩
theorem RT {l:Ai}{y:Ar}{Y pt:Ev} {kt k2 pt2} (L:X.calm=true) (T:X.N.Nodup) (U:QA X [a,b] fA) (hi:X.N[m]? = Ab x) (G:X.N[l]? = Ab y) (J:m≠l) (O:X.env.scope.names.lookup x=Ab .local) (B:X.env.scope.names.lookup y=Ab .local)
  (hw:Ly [.Tuple [.Name x Y,.Name y py] kt pt] (.Tuple [a,b] k2 pt2) X.env=pure (Ab [x,y]):=by rfl) (hs:Lz [.Tuple [.Name x Y,.Name y py] kt pt] (.Tuple [a,b] k2 pt2) pos.line X.env=pure false:=by rfl) :
  QS X (.Assign [.Tuple [.Name x Y,.Name y py] kt pt] (.Tuple [a,b] k2 pt2) pos) (pQ m l fA):=⟨NM L T U.1 hi G J O B hw hs⟩
theorem UV {T:Af}{H Y:Ev}(E:X.calm=true)(O:Fn1 X)(I:Gl X x)(hm:X.mg x=Ab (.ref C))(B:fH X.K C T=true)(G:QA X (e::rest) fA)(J:(x == ("__debug__" : Ar))=false)(L:Bm (e::rest) X.env=(false,eval e X.env)::Bm rest X.env:=by rfl)(U:(Gh Y (Bm rest X.env)).any (·.1)=false:=by rfl) :
  QS X (.Raise (Ab (.Call (.Name x H) (e::rest) [] Y)) none pos) (uY (.ref C) fA):=⟨V3 E O I hm B G.1 J L U⟩
theorem RV {nm:Ar}{T:Af}{Y:EQ}{suite:Aa EQ}{w J:Ev}{L:Aa Ac}(H:Fn1 X)(I:∀ E U,ZPass (Cx.tryIn X E U)->QB (Cx.tryIn X E U) body f)(hs:∀ e,QB (Cx.suite X e) (Y::suite) g)(M:Gl X x)(hm:X.mg x=Ab (.ref T))(G:∀ c∈L,Ka X.K c (.ref T)=Ab true)(y:X.N.Nodup)(hi:X.N[m]? = Ab nm)(O:X.env.scope.names.lookup nm=Ab .local)(B:(x == ("__debug__" : Ar))=false)(j:X.N.length=n) :
  QS X (.Try body [.ExceptHandler (Ab (.Name x w)) (Ab nm) (Y::suite) J] [] [] pos) (fW n m L f g):=⟨j▸NP H (λE U A=>(I E U ⟨A⟩).1) (λe=>(hs e).1) M hm G y hi O B⟩
theorem IE:ZOp X (Ei .Add) zG:=⟨DY⟩
theorem IR:ZOp X (Ei .Sub) xC:=⟨SC⟩
theorem IK:ZOp X (Ei .Mult) zJ:=⟨iD⟩
theorem IF:ZOp X (Ei .FloorDiv) jO:=⟨DZ⟩
theorem IJ:ZOp X (Ei .Mod) jP:=⟨SA⟩
theorem IP:ZOp X (Ei .Pow) pJ:=⟨SB⟩
theorem qAT:ZOp X (Df .Lt) gLt:=⟨KM⟩
theorem qAS:ZOp X (Df .LtE) gLe:=⟨A9⟩
theorem qAQ:ZOp X (Df .Gt) gGt:=⟨A7⟩
theorem qAP:ZOp X (Df .GtE) gGe:=⟨A6⟩
theorem EM:ZOp X (Df .Is) gIs:=⟨A8⟩
theorem EL (Y:RoomC cm k X.A):ZOp X (Df .Eq) gEq:=⟨A5 Y.units⟩
theorem EU (Y:RoomC cm k X.A):ZOp X (Df .NotEq) gNe:=⟨KN Y.units⟩
theorem IL (Y:RoomC cm k X.A):ZOp X (Df .NotEq) (bE gNe):=⟨OpD.look (KN Y.units)⟩
theorem IM:ZUn X (sB .USub) kT:=⟨EF⟩
theorem qAR:ZIx X gIx:=⟨OP⟩
theorem GB:ZCall X (.builtin "isinstance") x5:=⟨ZI⟩
theorem EN {Y:Aa Af}(h:ClsK X.K Y):ZCall X (.builtin "isinstance") (zQ Y):=⟨GE h⟩
theorem GC:ZCall X (.builtin "len") xM:=⟨GG⟩
theorem GA (Y:X.calm=true):ZCall X (.builtin "all") (pG false):=⟨TF false Y⟩
theorem IH:ZCall X (.type "int") oS:=⟨TH⟩
theorem MR:ZCall X (.type "tuple") k9:=⟨YL⟩
theorem ER:ZCall X (.type "list") dU:=⟨GK⟩
theorem JN:ZMt X "list.append" xP:=⟨XO⟩
theorem MN:ZMt X "list.count" mK:=⟨U4⟩
theorem MP:ZMt X "list.index" mL:=⟨U5⟩
theorem IQ (Y:RoomC cm k X.A):ZSet X wZ:=⟨E0 (hu1 Y)⟩
end
section
variable {P:Bf}{w:Bx}{K:Aj}{mg:Ar->Am Ac}{base:Bo}{cm:As}
theorem o3 {J:Ar}{scope:El}{f:Af}{cd:Ac}{A:Br}{Y:Aa Il}{s:Ag}{H:Hp}{E:XK}:ZPass (cxC cm P w K mg base N J scope f cd A Y s H E):=⟨YQ⟩
theorem OG {x:Ar}{st:EQ}{ps:Aa Ar}{k:Ai}{g:DS}(h:Src K mg x st ps)(S:FnScope N ps (qH st))(G:zL st=body)
  (U:∀ (f:Af) (J:Ac) (A:Br) (Y:Aa Il) (s:Ag) (H:Hp) (E:XK),kJ K x J->RoomC cm k (A.deeper (Go x (qH st) s.heap.objs.size f J)) ->
   QB (cxC cm P w K mg base N x (qH st) f J A Y s H E) body g):Def P w K mg base cm (k+1) x ps.length (qP N.length g):=
 NC h S λf J A Y s H E O B=>G▸(U f J A Y s H E O B).1
theorem HJ {x:Ar}{st:EQ}{ps:Aa Ar}{k:Ai}{g:DS}(h:Src K mg x st ps)(S:FnScope N ps (qH st))(G:zL st=body)
  (U:∀ (f:Af) (J:Ac) (A:Br) (Y:Aa Il) (s:Ag) (H:Hp) (E:XK),kJ K x J->RoomC cm k (A.deeper (Go x (qH st) s.heap.objs.size f J)) ->
   QB (cxC cm P w K mg base N x (qH st) f J A Y s H E) body g):sM P w K mg base cm (k+1) x ps (qP N.length g):=
 P7 h S λf J A Y s H E O B=>G▸(U f J A Y s H E O B).1
theorem GZ {x:Ar}{st:EQ}{ps:Aa Ar}(h:Src K mg x st ps):Def P w K mg base cm 0 x ps.length λ_ _=>.bad:=by
 obtain⟨f,O,G,F,U⟩:=h;exact⟨f,O,ps,rfl,G,F.kp,U,bD F,⟨λvs H Q E z=>z.1,λA Y s H J B vs Q E _ _ _ _ z=>by obtain⟨_,_,_,_,_,_,_,z⟩:=z;exact An z⟩⟩
end
structure QTs (X:Cx)(ifs:Aa Bt)(t:DT):Prop where
 get:PTs X ifs t
section
variable {X:Cx}{elt tg iter e:Bt}{ifs es:Aa Bt}{scope:El}{pos p:Ev}{N':Aa Ar}{cap:Aa (Am Ai)}{fi:DI}{g:DG}{t u:DT}{fe:DE}{fa:DA}{x:Ar}{cm:As}{k n:Ai}{F:DF}
theorem iI:QTs X [] wM:=⟨PP⟩
theorem qcO (G:Def X.prog X.w X.K X.mg X.base cm k x n F)(O:RoomC cm k X.A)(B:Gl X x)(U:QA X (e::es) fa)(J:(x == ("__debug__" : Ar))=false)(L:Bm (e::es) X.env=(false,eval e X.env)::Bm es X.env:=by rfl)(Y:(Gh pos (Bm es X.env)).any (·.1)=false:=by rfl) :
  QE X (.Call (.Name x p) (e::es) [] pos) (qM n (okO F) fa):=⟨dcO G O B U.1 J L Y⟩
end
def stn (o:Am (Ai × MO))(S:Sto):Prop:=match o with
 |none=>Oe
 |some p=>S[p.1]? = Ab p.2
open Classical in
def QU (o:Am (Ai × MO))(S:Sto):As:=decide (stn o S)
theorem j6 {o:Am (Ai × MO)}{S:Sto}:QU o S=true↔stn o S:=by simp[QU]
structure ItD2 (K:Aj)(J:It)(P:Hp)(α : Aa Af)(o:Am (Ai × MO))(ds:Aa D):Prop where
 go:∀ i H P1 α1 S,i<ds.length->Rel K H P1 α1 S->stn o S->qE P P1->α<+:α1->J.go i H
 yld:∀ i H x H' P1 α1 S,i<ds.length->Rel K H P1 α1 S->stn o S->qE P P1->α<+:α1->J.yld i H x H'->∃ P2 d,ds[i]? = Ab d/\Rel K H' P2 α1 S/\qE P1 P2/\Rep K P2 α1 d x
 stop:∀ i H P1 α1 S,ds.length<=i->Rel K H P1 α1 S->stn o S->qE P P1->α<+:α1->J.stop i H
theorem ItD.two {K:Aj}{J:It}{P:Hp}{α:Aa Af}(h:ItD K J P α ds):ItD2 K J P α none ds:=
 ⟨λi H U Y S a b _ c d=>h.go i H U Y S a b c d,λi H x G U Y S a b _ c d e=>h.yld i H x G U Y S a b c d e,λi H U Y S a b _ c d=>h.stop i H U Y S a b c d⟩
abbrev DI2:=qF->Sto->Res (Am (Ai × MO) × Aa D)
inductive tDI2 (X:Cx)(f:DI2)(σ : _L.St)(H:Hp)(R:It->Hp->Prop):Prop
 |mk (P:Hp) (α : Aa Af) (env:qF) (S:Sto) (r:Rel X.K H P α S) (re:qY X.K P α σ env) (af:qI X P α (f env S) (λp S'=>∀ J H' P' α',Rel X.K H' P' α' S'->qE P P'->α<+:α'->ItD2 X.K J P' α' p.1 p.2->R J H')):tDI2 X f σ H R
noncomputable def xT (f:DI):DI2:=λenv S=>(f env S).bind λds Y=>.ok (none,ds) Y
section
variable {X:Cx}{K:Aj}{tg e:Bt}{fa:DE}{pos:Ev}
theorem PC {f:DI}(h:PI X tg e (tDI X f)):PI X tg e (tDI2 X (xT f)):=PI.weak h λσ H R ⟨P,α,env,S,r,re,Y⟩=>by
 refine⟨P,α,env,S,r,re,?_⟩;unfold xT at Y;cases q:f env S with
 |bad=>rw[q] at Y;exact Y
 |ex c x I=>rw[q] at Y;exact Y
 |ok ds E =>
  rw[q] at Y;exact λJ L G U T O B it=>Y J L G U T O B it.two
theorem BC {P:Hp}{α:Aa Af}{a:Af}{n:Ai}(Y:α[n]? = Ab a):ItD2 K (Itl K a) P α (Ab (n,.lst ds)) ds where
 go:=λi H O G S J r st e U=>by
  obtain⟨vs,z,t⟩:=r.at' n a _ (bL U Y) st;exact⟨vs,vs[i]'(by rw[<- t.length];exact J),.of z,by simp⟩
 yld:=λi H x E O G S J r st e U y=>by
  obtain⟨rfl,y⟩:=y;obtain⟨vs,z,t⟩:=r.at' n a _ (bL U Y) st;have L:=y vs (.of z);obtain⟨v,B,T⟩:=t.get (Ap J);rw[L] at B;cases B;exact⟨O,_,Ap J,r,qE.refl _,T⟩
 stop:=λi H O G S J r st e U=>by
  obtain⟨vs,z,t⟩:=r.at' n a _ (bL U Y) st;exact⟨vs,.of z,by rw[<- t.length];exact J⟩
noncomputable def itD (d:D)(S:Sto):Res (Am (Ai × MO) × Aa D):=match d with
 |.tup xs=>.ok (none,xs) S
 |.lst xs=>.ok (none,xs) S
 |.loc n=>match S[n]? with
  |some (.lst xs)=>.ok (Ab (n,.lst xs),xs) S
  |_=>.bad
 |_=>.bad
noncomputable def dIt (f:DE):DI2:=λenv S=>(f env S).bind λd Y=>itD d Y
theorem HK (T:PE X e (tD X fa)):PI X tg e (tDI2 X (dIt fa)):=by
 intro L s σ H R I h;obtain⟨P,α,env,S,r,re,af⟩:=h;refine thn (zM T I r re af) λM B ⟨v,x,u,A,d,w,Y,U⟩=>?_;have seq:∀ ds,zW d=Ab ds->(∀ J E O G,Rel X.K E O G w->qE P O->α<+:G->ItD2 X.K J O G none ds->R J E)->Ao (Au X.prog X.w) X.A (Ol M) (PIE X L σ tg R) X.xe B:=λds g q =>
  rY Y.inv Y.rel Y.val Y.rep g λJ E O G r' h1 c it=>q J E O G r' (Y.same.trans h1) (Y.pre.trans c) it.two
 cases d with
 |tup xs=>exact seq xs rfl U
 |lst xs=>exact seq xs rfl U
 |loc n =>
  obtain⟨xs,i,U⟩:=uW (X:=X) (f:=λxs=>Res.ok (Ab (n,MO.lst xs),xs) w) U;have j:=Y.rep;simp only[Rep] at j;obtain⟨a,rfl,T⟩:=j;cases (show M=Cg a from Y.val)
  obtain⟨vs,z,t⟩:=Y.rel.at' n a _ T i;obtain⟨its,rv,p,hz⟩:=Y.inv.list (SqL.of z);refine Gs p.isList ?_;refine⟨B.heap.objs.size,[B.heap.objs.size],_,_,x,rfl,Y.inv.kept (t':=B.toks) λb o e=>Ah _ e,dG a _,⟨_,Bc _ rfl,rfl,rfl⟩,λb y=>?_,U _ _ u A Y.rel Y.same Y.pre (BC T)⟩;have e:b=B.heap.objs.size:=by simpa using y
  subst e;exact Y.inv.fpOk (Av _) (Y.inv.hok.fresh (Av _))
 |_=>exact An U
end
noncomputable def emX (m:As)(Y:Bt)(acc:Ac)(env:Il):Ko Qf:=match m with
 |false=>do let _ <- call (.builtin "list.append") [acc,<- eval Y env]
 |true=>do let v <- eval Y env;Sg Y.pos;let _ <- call (.builtin "set.add") [acc,v]
noncomputable def xG (m:As)(J:Bt)(Y:Aa Ee)(scope:El)(G:Ev)(k:Ai)(acc:Ac)(env:Il):Ko Qf:=
 match Y[k+1]? with
 |some U=>do
  let x <- eval U.iter env
  Sg U.iter.pos
  let x <- Gc U.iter env x
  let it <- holding [x] (Ol x)
  let _ <- runOwn (.compStart (xX m J Y scope G) (k+1) it acc env) env
 |none=>emX m J acc env
theorem JJ (m:As)(G J U:Bt)(B:Aa Bt)(Y:Aa Ee)(scope:El)(O:Ev)(it acc:Ac)(env:Il)(k:Ai)(E:Y[k]? = Ab ⟨J,U,B,0⟩)(L:∀ g',Y[k+1]? = Ab g'->g'.is_async=0) :
  AaC (xX m G Y scope O) k it acc env=(do
   Sg U.pos
   match <- Ni it with
   |none=>pure (.done .next)
   |some v =>
    Kq J it v
    assign J env v
    let mut ok:=true
    for c in B do
     if ok then ok <- isTrue c env (eval c env)
    if ok then xG m G Y scope O k acc env
    again (.compLoop (xX m G Y scope O) k it acc env)):=by
 cases m <;>
 .unfold AaC xG xX emX
  simp only[E];cases q:Y[k+1]? with
  |none=>rfl
  |some g' =>
   have T:=L g' q;have I:(g'.is_async != 0)=false:=by rw[T];rfl
   simp only[I,Bw,Ec,bind_assoc,pure_bind];rfl
abbrev DK:=qF->Sto->Aa D->Res (qF × Aa D)
def goL (o:Am (Ai × MO))(g:DG)(t:DT)(k:DK):Aa D->DK
 |[],env,S,J=>if QU o S then .ok (env,J) S else .bad
 |d::ds,env,S,J=>if QU o S then (g d env S).bind λY O=>(t Y O).bind λb U =>
   if b then (k Y U J).bind λp G=>goL o g t k ds p.1 G p.2 else goL o g t k ds Y U J
  else .bad
noncomputable def zY (J:DE):DK:=λenv S Y=>(J env S).bind λx U=>if Y.length<lim then .ok (env,Y++[x]) U else .bad
def JV (B:Acc)(Y:Cx)(pins:Aa (Af × Cq))(P1:Hp)(J:Aa Af)(acc:Af)(env:qF)(S:Sto)(ds:Aa D)(s:Ag):Prop:=
 ∃ σ H P α o,TurnSt B Y pins P1 J [] acc env S ds s σ H P α o
def PK (B:Acc)(Y:Cx)(step:Ac->Ko Qf)(k:DK):Prop:=
 ∀ (U:Aa (Af × Cq)) (T:Hp) (O:Aa Af) (J:Af) (env G:qF) (S E:Sto) (ds L:Aa D) (s:Ag),(∀ H:Hp,H J=none->xI Y U H J)->JV B Y U T O J env S ds s->k env S ds=.ok (G,L) E ->
  Ao (Au Y.prog Y.w) Y.A (step (.ref J)) (λ_ I=>JV B Y U T O J G E L I) (λ_ _=>Fn) s
section
variable {B:Acc}{Y:Cx}{elt tg iter:Bt}{ifs:Aa Bt}{gens:Aa Ee}{scope:El}{pos:Ev}{k:Ai}{g:DG}{t:DT}{fe:DE}{it acc:Af}{fp:Aa Af}{J:It}{tn:Ai->Bo->Prop}{items:Aa D}{P1:Hp}{α1:Aa Af}{pins:Aa (Af × Cq)}
theorem X4 {X:Cx}{H:Hp}{b:Af}{h:Bo}(f:xI X pins H b)(I:b ∉ fp):xI X (pins++yZ fp h) H b:=by
 obtain⟨G,E,L,T,A,U⟩:=f;refine⟨G,E,L,T,A,λp O=>?_⟩;rcases By.mp O with z|z
 .exact U p (Dh _ z)
 .rcases By.mp z with z|z
  .exact U p (Cd _ z)
  .rintro rfl
   exact I (lZ z).1
theorem Res.bind_inv {β γ:Type}{r:Res β}{f:β->Sto->Res γ}{x:γ}{S:Sto}(h:r.bind f=.ok x S):∃ b U,r=.ok b U/\f b U=.ok x S:=by
 cases r with
 |ok b U=>exact⟨b,U,rfl,h⟩
 |_=>cases h
inductive GoC (o:Am (Ai × MO))(g:DG)(t:DT)(k:DK)(d:D)(ds acc:Aa D)(env:qF)(S SF:Sto)(x:qF × Aa D):Prop
 |no (env1:qF) (S1 S2:Sto) (z:stn o S) (q1:g d env S=.ok env1 S1) (q2:t env1 S1=.ok false S2) (r:goL o g t k ds env1 S2 acc=.ok x SF):GoC o g t k d ds acc env S SF x
 |yes (env1:qF) (S1 S2:Sto) (env5:qF) (ds5:Aa D) (S5:Sto) (z:stn o S) (q1:g d env S=.ok env1 S1) (q2:t env1 S1=.ok true S2) (q3:k env1 S2 acc=.ok (env5,ds5) S5) (r:goL o g t k ds env5 S5 ds5=.ok x SF):GoC o g t k d ds acc env S SF x
set_option tactic.hygienic true in
theorem VL {o:Am (Ai × MO)}{k:DK}{d:D}{acc:Aa D}{S:Sto}{x:qF × Aa D}(h:goL o g t k (d::ds) env S acc=.ok x SF):GoC o g t k d ds acc env S SF x:=by
 simp only[goL] at h
 split at h
 .rename_i z
  obtain⟨U,I,E,h⟩:=Res.bind_inv h;obtain⟨b,L,T,h⟩:=Res.bind_inv h;cases b with
  |false=>exact .no U I L (j6.mp z) E T h
  |true =>
   obtain⟨⟨G,O⟩,A,H,h⟩:=Res.bind_inv h;exact .yes U I L G O A (j6.mp z) E T H h
 .cases h
set_option tactic.hygienic true in
theorem B3 {o:Am (Ai × MO)}{k:DK}{acc:Aa D}{S:Sto}(h:goL o g t k [] env S acc=.ok (envF,dsF) SF):stn o S/\env=envF/\acc=dsF/\S=SF:=by
 simp only[goL] at h
 split at h
 .rename_i z
  cases h;exact⟨j6.mp z,rfl,rfl,rfl⟩
 .cases h
inductive LpI (B:Acc)(Y:Cx)(pins:Aa (Af × Cq))(P1:Hp)(α1:Aa Af)(fp:Aa Af)(acc:Af)(tn:Ai->Bo->Prop)(G:Aa D->DK)(items:Aa D)(x:qF × Aa D)(SF:Sto)(n:Ai)(s:Ag):Prop
 |mk (i:Ai) (σ : _L.St) (H P:Hp) (α : Aa Af) (o:Cq) (env:qF) (S:Sto) (ds:Aa D) (hn:n=items.length-i) (hi:i<=items.length) (st:TurnSt B Y pins P1 α1 fp acc env S ds s σ H P α o) (st1:tn i s.heap) (run:G (items.drop i) env S ds=.ok x SF):LpI B Y pins P1 α1 fp acc tn G items x SF n s
theorem MF {m:As}{M:Ky}{A:Br}{Q:Fin->Ag->Prop}{E:Ac->Ag->Prop}{s:Ag}{it acc:Ac}{U:Il}(O:gens[k]? = Ab ⟨tg,iter,ifs,0⟩)(has:∀ g',gens[k+1]? = Ab g'->g'.is_async=0)
  (L:∀ s,Qa s->Q (.again (.compLoop (xX m elt gens scope pos) k it acc U)) s) (j:∀ s,Qd s->Q (.done .next) s)
  (h:Ao M A (Ni it) (λr G=>(r=none->Qd G)/\∀ v,r=Ab v->Ao M A (Kq tg it v) (λ_ H=>Ao M A (assign tg U v) (λ_ w=>Ao M A (kH ifs U) (λb s4=>(b=false->Qa s4)/\(b=true->Ao M A (xG m elt gens scope pos k acc U) (λ_ I=>Qa I) E s4)) E w) E H) E G) E s) :
  Ao M A (AaC (xX m elt gens scope pos) k it acc U) Q E s:=by
 rw[JJ m elt tg iter ifs gens scope pos it acc U k O has];refine Ad (Oh (Ad (thn h λr G ⟨o,q⟩=>?_)));cases r with
 |none=>exact Al (j _ (o rfl))
 |some v =>
  refine Ad (thn (q v rfl) λ_ H u=>Ad (thn u λ_ w y=>Ad (thn y λb s4 T=>?_)));cases b with
  |false=>exact Al (L _ (T.1 rfl))
  |true=>exact Ad (thn (T.2 rfl) λ_ I p=>Al (L _ p))
theorem PZ (U:∀ H:Hp,(∀ b∈fp,H b=none)->∀ b∈fp,xI Y pins H b)(G:acc ∉ fp)(o:Cq)(O:Hp)(j:∀ b∈fp,O b=none):∀ b∈fp,xI Y (pins++[(acc,o)]) O b:=λb L=>by
 obtain⟨E,w,A,M,y,T⟩:=U O j b L;refine⟨E,w,A,M,y,λp I=>?_⟩;rcases By.mp I with z|z
 .exact T p (Dh _ z)
 .rcases By.mp z with z|z
  .exact T p (Cd _ z)
  .rw[Co.mp z]
   rintro rfl;exact G L
theorem jL {i:Ai}{h:Bo}(T:Turn Y.prog Y.w Y.K tg J fp it tn)(G:tn (i+1) h)(pl:∀ b∈fp,∃ o,h.get? b=Ab o/\∀ v,o.data≠.cell v){E:Ag}{O:_L.St}{L:Hp}(I:Inv Y (pins++yZ fp h) O L E):tn (i+1) E.heap/\(∀ b∈fp,L b=none):=by
 refine⟨T.keep _ _ _ G λb U o' e=>(I.pin (b,o') (Cd _ (Cd _ (uB U e)))).1,λb U=>?_⟩;obtain⟨o',e,H⟩:=pl b U;exact(I.pin (b,o') (Cd _ (Cd _ (uB U e)))).2.1
theorem oM {kk:DK}{E:Ac->Ag->Prop}{s:Ag}{σ:_L.St}{H P:Hp}{α:Aa Af}{S:Sto}{o:Cq}{i:Ai}(hc:Y.calm=true)(hx:Y.xe=λ_ _=>Fn)
  (T:Turn Y.prog Y.w Y.K tg J fp it tn) (zb:ItD2 Y.K J P1 α1 o' items) (hg:PG Y tg (tDG Y g)) (ht:PTs Y ifs t) (he:PK B Y (λacc=>xG B.m elt gens scope pos k acc Y.env) kk) (c:∀ H:Hp,H acc=none->xI Y pins H acc) (zq:∀ H:Hp,(∀ b∈fp,H b=none)->∀ b∈fp,xI Y pins H b) (zg:acc ∉ fp)
  (hi:i<=items.length) (st:TurnSt B Y pins P1 α1 fp acc env S ds s σ H P α o) (zd:tn i s.heap) (run:goL o' g t kk (items.drop i) env S ds=.ok (envF,dsF) SF)
  (hA:∀ s' za H' P' n o1 U S' zk,i<items.length->TurnSt B Y pins P1 α1 fp acc U S' zk s' za H' P' n o1->tn (i+1) s'.heap->goL o' g t kk (items.drop (i+1)) U S' zk=.ok (envF,dsF) SF->Qa s')
  (hD:∀ s' za H' P' n o',TurnSt B Y pins P1 α1 fp acc envF SF dsF s' za H' P' n o'->Qd s') :
  Ao (Au Y.prog Y.w) Y.A (Ni (.ref it)) (λr s1=>(r=none->Qd s1)/\∀ v,r=Ab v->Ao (Au Y.prog Y.w) Y.A (Kq tg (.ref it) v) (λ_ s2=>Ao (Au Y.prog Y.w) Y.A (assign tg Y.env v) (λ_ s3=>Ao (Au Y.prog Y.w) Y.A (kH ifs Y.env) (λb s4=>(b=false->Qa s4)/\(b=true->Ao (Au Y.prog Y.w) Y.A (xG B.m elt gens scope pos k (.ref acc) Y.env) (λ_ e=>Qa e) E s4)) E s3) E s2) E s1) E s:=by
 have I1:=_D.Inv.pin1 st.inv (c H st.acn) st.at' (B.cell st.acc);have zc:=PZ zq zg o;by_cases I:i<items.length
 .have zo:items.drop i=items[i]::items.drop (i+1):=Hy I
  rw[zo] at run;have run:=VL run;have ze:stn o' S:=by cases run with|no _ _ _ z=>exact z|yes _ _ _ _ _ _ z=>exact z
  refine fY (T.item Y rfl rfl rfl hc i _ s σ H (λ_ _=>Fn) I1 (zc H st.fpn) zd (zb.go i H P α S I st.rel ze st.same st.pre)) λr s1 ⟨u,hr,h1⟩=>⟨λz=>(by rw[hr] at z;cases z),λv hv=>?_⟩
  obtain rfl:v=u:=Cy (hv.symm.trans hr);refine fY h1 λ_ s2 ⟨x,H2,I2,rx,y,A,zn⟩=>?_;obtain⟨P2,d,hd,r2,e2,rp⟩:=zb.yld i H x H2 P α S I st.rel ze st.same st.pre y;cases (Ap I).symm.trans hd;have pl:=T.obj _ _ A;have zr:=I2.pinned (zc _ zn) pl;have two:∀ U h b j,g items[i] env S=.ok U h->t U h=.ok b j->(∀ s4 O q P4 L (I4:Inv Y (pins++yZ fp s2.heap) O q s4),TurnSt B Y pins P1 α1 fp acc U j ds s4 O q P4 L o->tn (i+1) s4.heap->(b=false->Qa s4)/\(b=true->Ao (Au Y.prog Y.w) Y.A (xG B.m elt gens scope pos k (.ref acc) Y.env) (λ_ e=>Qa e) E s4))->Ao (Au Y.prog Y.w) Y.A (assign tg Y.env v) (λ_ s3=>Ao (Au Y.prog Y.w) Y.A (kH ifs Y.env) (λb s4=>(b=false->Qa s4)/\(b=true->Ao (Au Y.prog Y.w) Y.A (xG B.m elt gens scope pos k (.ref acc) Y.env) (λ_ e=>Qa e) E s4)) E s3) E s2:=by
   intro U h b j q1 q2 next;refine fY (hx▸qAA hg zr r2 (st.env.mono e2 (Bh _)) rx rp q1) λ_ s3 ⟨O,H3,P3,zt,I3,r3,zp,e3,zi⟩=>?_;refine fY (hx▸AG ht I3 r3 zp q2) λb' s4 ⟨hb,q,P4,L,I4,r4,zm,e4,zf⟩=>?_;have w:Inv Y (pins++yZ fp s2.heap) O q s4:=I4.pins_of λp hp=>I4.pin p (Cd _ ((By.mp hp).elim (λz=>Dh _ (Dh _ z)) λz=>Cd _ z));have a4:=I4.pin (acc,o) (Cd _ (Dh _ (Cd _ (Co.mpr rfl))));rw[hb];exact next s4 O q P4 L w ⟨w.unpinned,r4,zm,((st.same.trans e2).trans e3).trans e4,(st.pre.trans zi).trans zf,(jL T A pl w).2,a4.2.1,a4.1,B.mono ((e2.trans e3).trans e4) (zi.trans zf) st.acc⟩ (jL T A pl w).1
  cases run with
  |no U h j _ q1 q2 run=>exact two U h false j q1 q2 λs4 O q P4 L I4 G zj=>⟨λ_=>hA s4 O q P4 L o U j ds I G zj run,λz=>(by cases z)⟩
  |yes U h j f zh S5 _ q1 q2 q3 run =>
   refine two U h true j q1 q2 λs4 O q P4 L I4 G zj=>⟨λz=>(by cases z),λ_=>?_⟩
   refine fY (he (pins++yZ fp s2.heap) P1 α1 acc U f j S5 ds zh s4 (λH hn=>X4 (c H hn) zg) ⟨O,q,P4,L,o,I4,G.rel,G.env,G.same,G.pre,λb hb=>(by cases hb),G.acn,G.at',G.acc⟩ q3) λ_ e ⟨zs,H5,P5,zl,o5,M⟩=>?_
   exact hA e zs H5 P5 zl o5 f S5 zh I ⟨M.inv.unpinned,M.rel,M.env,M.same,M.pre,(jL T A pl M.inv).2,M.acn,M.at',M.acc⟩ (jL T A pl M.inv).1 run
 .rw[Nz li] at run
  obtain⟨z,rfl,rfl,rfl⟩:=B3 run;refine fY (T.done Y rfl rfl rfl hc i _ s σ H (λ_ _=>Fn) I1 (zc H st.fpn) zd (zb.stop i H P α _ li st.rel z st.same st.pre)) λr s1 ⟨hr,I2⟩=>⟨λ_=>?_,λv hv=>(by rw[hr] at hv;cases hv)⟩
  have a:=_D.Inv.pinned1 I2;exact hD s1 σ H P α o ⟨I2.unpinned,st.rel,st.env,st.same,st.pre,st.fpn,a.2,a.1,st.acc⟩
theorem U2 (P:Bf)(w:Bx)(m:As)(elt:Bt)(gens:Aa Ee)(scope:El)(pos:Ev)(k:Ai)(it acc:Ac)(env:Il):(Au P w).den (.compLoop (xX m elt gens scope pos) k it acc env)=(AaC (xX m elt gens scope pos) k it acc env).onRaise (λx=>do Sh x env;theTreesLotGoes x):=by cases m <;> rfl
theorem U3 (A:Br)(m:As)(elt:Bt)(gens:Aa Ee)(scope:El)(pos:Ev)(k:Ai)(it acc:Ac)(env:Il):A.under (.compLoop (xX m elt gens scope pos) k it acc env)=A:=by cases m <;> rfl
theorem oK {kk:DK}{R:Ya->Ag->Prop}{s:Ag}{σ:_L.St}{H P:Hp}{α:Aa Af}{S:Sto}{G:Aa D}{o:Cq}(hc:Y.calm=true)(e:Y.xe=λ_ _=>Fn)(f:gens[k]? = Ab ⟨tg,iter,ifs,0⟩)(has:∀ g',gens[k+1]? = Ab g'->g'.is_async=0)
  (T:Turn Y.prog Y.w Y.K tg J fp it tn) (d:ItD2 Y.K J P1 α1 o' items) (hg:PG Y tg (tDG Y g)) (x:PTs Y ifs t) (he:PK B Y (λacc=>xG B.m elt gens scope pos k acc Y.env) kk) (I:∀ H:Hp,H acc=none->xI Y pins H acc) (M:∀ H:Hp,(∀ b∈fp,H b=none)->∀ b∈fp,xI Y pins H b) (y:acc ∉ fp)
  (st:TurnSt B Y pins P1 α1 fp acc env S G s σ H P α o) (c:tn 0 s.heap) (run:goL o' g t kk items env S G=.ok (envF,dsF) SF)
  (hR:∀ s' O p q U o',TurnSt B Y pins P1 α1 fp acc envF SF dsF s' O p q U o'->R (.ok .next) s') :
  Ih (Au Y.prog Y.w) Y.A (.compLoop (xX B.m elt gens scope pos) k (.ref it) (.ref acc) Y.env) R s:=by
 refine codeAny_loop rfl (LpI B Y pins P1 α1 fp acc tn (goL o' g t kk) items (envF,dsF) SF) (λn s r=>?_) items.length ⟨0,σ,H,P,α,o,env,S,G,rfl,Hk _,st,c,run⟩;obtain⟨i,σ,H,P,α,o,env,S,ds,hn,hi,st,j,run⟩:=r;subst hn;rw[U2,U3];refine wpAny_noted (MF (m:=B.m) f has (Qa:=λs'=>∃ m,m<items.length-i/\LpI B Y pins P1 α1 fp acc tn (goL o' g t kk) items (envF,dsF) SF m s') (Qd:=R (.ok .next)) (λ_ h=>⟨rfl,h⟩) (λ_ h=>h) ?_);exact oM hc e T d hg x he I M y hi st j run (λs' O p q U o1 L S' v A u w E=>⟨_,Nat.sub_succ_lt_self _ _ A,i+1,O,p,q,U,o1,L,S',v,rfl,A,u,w,E⟩) hR
set_option tactic.hygienic true in
theorem FA (n:Y.xe=λ_ _=>Fn)(L:gens[k+1]? = none)(he:PE Y elt (tD Y fe)):PK accL Y (λacc=>xG false elt gens scope pos k acc Y.env) (zY fe):=by
 intro pins P1 α1 acc env v S S' ds zb s O ⟨σ,H,P,α,o,st⟩ run;show Ao _ _ (xG false elt gens scope pos k (.ref acc) Y.env) _ _ s;unfold xG;rw[L];dsimp only[emX];unfold zY at run;cases M:fe env S with
 |bad=>rw[M] at run;cases run
 |ex c z S'=>rw[M] at run;cases run
 |ok d5 S5 =>
  rw[M,Res.bind_ok] at run
  split at run
  .rename_i f
   cases run;have i:=O H st.acn;have x:=_D.Inv.pin1 st.inv i st.at' (accL.cell st.acc);refine Ad (fY (n▸OZ he x st.rel st.env M) λA I ⟨h,d,P5,u,U⟩=>?_);have J:=_D.Inv.pinned1 U.inv;have r:=U.inv.unpinned;obtain⟨p,y⟩:=J;obtain⟨its,n5,vs,ho,T,E,hz⟩:=st.acc;subst ho;have w:vs.length=ds.length:=E.length.symm;have za:=T.length;refine Ad (Ny Yg ⟨_,p,rfl⟩ Xl (Wu _ _) (Zm acc its.toArray n5 A (by rw[AT];rw[<- zH];lia)) ⟨p,?_⟩)
   have q:=wP p (·.push A)
   have G:=O d y;have keep:∀ b o,b≠acc->I.heap.get? b=Ab o->(I.heap.update acc (Fc (·.push A))).get? b=Ab o:=λb o j e=>(Dj I.heap _ (Gb j)).trans e
   have I6:=r.turned (t':=I.toks) keep y G.2.1 G.2.2.2.1 G.2.2.2.2.1 G.2.2.2.2.2;refine Al ⟨σ,d,P5,u,_,I6,U.rel,U.env,st.same.trans U.same,st.pre.trans U.pre,λb j=>(by simp at j),y,q,?_⟩
   refine⟨its++[A],_,vs++[h],by simp <;> rfl,T.append (.cons U.val .nil),?_,by simp;lia⟩
   exact(qD.mono U.same U.pre _ _ E).append (.cons U.rep .nil)
  .cases run
end
theorem sZ {prog:Bf}{w:Bx}{A:Br}{R:Ya->Ag->Prop}{s:Ag}{J:Bt}{Y:Aa Ee}{scope:El}{U:Ev}{k:Ai}{it acc:Ac}{env:Il}{g:Ee}{m:As}(E:Y[k]? = Ab g)(L:g.is_async=0)
  (h0:Ih (Au prog w) A (.compLoop (xX m J Y scope U) k it acc env) R s)
  (h:Ao (Au prog w) A (Ol it) (λG s'=>Ih (Au prog w) A (.compLoop (xX m J Y scope U) k G acc env) R s') (notedBy (Au prog w) A env λx s'=>R (.error x) s') s) :
  Ih (Au prog w) A (.compStart (xX m J Y scope U) k it acc env) R s:=by
 refine Ps ?_;have T:(Au prog w).den (.compStart (xX m J Y scope U) k it acc env)=(compStart (xX m J Y scope U) k it acc env).onRaise (λx=>do Sh x env;Sg theWindowsPlace):=by cases m <;> rfl
 have H:A.under (.compStart (xX m J Y scope U) k it acc env)=A:=by cases m <;> rfl
 have B:(AaY (xX m J Y scope U) k it acc env).quiet=true/\∀ G,(AaY (xX m J Y scope U) k G acc env).quiet=true:=by cases m <;> exact⟨rfl,λ_=>rfl⟩
 rw[T,H];refine wpAny_notedAt ?_;have O:clausesOf (xX m J Y scope U)=Y:=by cases m <;> rfl
 have I:(g.is_async != 0)=false:=by rw[L];rfl
 unfold compStart;simp only[O,E,Option.elim,I,Bw,Ec];refine Ad (Kg (wpAny_ite ?_))
 split
 .exact Al (And.intro B.1 h0)
 .refine Ad (He ?_)
  exact Ad (Oh (Ad (Gm h (λG s' h'=>Al (And.intro (B.2 _) h')) λ_ _ x=>x)))
noncomputable def mkM (m:As)(r:Res (qF × Aa D)):Res D:=match r with
 |.ok p Y=>if m then .ok (.loc Y.length) (Y++[.lst p.2]) else .ok (.lst p.2) Y
 |_=>.bad
def zI (m:As)(Y:Aa (Am Ai))(J:DI2)(g:DG)(t:DT)(k:DK):DE:=λenv S=>(J env S).bind λp U=>mkM m (goL p.1 g t k p.2 (wD Y env) U [])
section
variable {X:Cx}{elt tg iter:Bt}{ifs:Aa Bt}{scope:El}{pos:Ev}{N':Aa Ar}{cap:Aa (Am Ai)}{fi:DI2}{g:DG}{t:DT}{kk:DK}{rest:Aa Ee}{mm:As}
theorem XR {P:Hp}{α:Aa Af}{r:Res (qF × Aa D)}{Ok:D->Sto->Prop}(h:qI X P α (mkM mm r) Ok):∃ envF ds SF,r=.ok (envF,ds) SF/\(if mm then Ok (.loc SF.length) (SF++[.lst ds]) else Ok (.lst ds) SF):=by
 cases r with
 |ok p S =>
  obtain⟨envF,ds⟩:=p;refine⟨envF,ds,S,rfl,?_⟩;cases mm <;> exact h
 |ex c x S=>exact An h
 |bad=>exact An h
theorem V6 {pins:Aa (Af × Cq)}{σ:_L.St}{P1:Hp}{Y:Aa Af}{acc:Af}{s:Ag}{Q:VK}(c:jU X pins σ P1 Y ds SF acc C s)(ok:if mm then OkV X P1 Y Q (.loc SF.length) (SF++[.lst ds]) else OkV X P1 Y Q (.lst ds) SF):EP X pins σ Q (.ref acc) s:=by
 cases mm with
 |false=>exact PR c ok
 |true =>
  obtain⟨y,j,G,vs,I,r,E,B,T,w,_⟩:=c;exact⟨.ref acc,_,I,rfl,bG r E w λv M U J O L A H=>ok v M U J O (B.trans L) (T.trans A) H⟩
theorem ZX {M:Ky}{A:Br}{E:Ac->Ag->Prop}{s:Ag}{Y:Af}{J:Aa (Ar × Af)}{U:Ar}{env:Il}{Q:Il->Ag->Prop}
  (T:Q (newEnv scope s.heap.objs.size Y (Hw (s.heap.objs.size+1) scope.names J) U none .none (Ab env) Qe) { s with heap:=Zr (s.heap.push { cls:=.type "dict",data:=.dict #[] }) scope.names }) :
  Ao M A (Wm scope Y J [] U none .none (Ab env)) Q E s:=by
 simp only[Wm,Yh,Eh];refine Ad (wpAny_alloc ?_);refine Ad (wpAny_layCells _ (λL G B=>by cases O:G == Ot <;> simp[O]) _ _ _ _ ?_)
 rw[show ({ s with heap:=s.heap.push { cls:=.type "dict",data:=.dict #[] } } : Ag).heap.objs.size=s.heap.objs.size+1 from Dz ..]
 refine Ad ?_;rw[Qu];exact Al (Al T)
theorem bV {B:Acc}{o0:Cq}{pins:Aa (Af × Cq)}{σ:_L.St}{q P1:Hp}{α1:Aa Af}{U:Ag}{S1:Sto}{items:Aa D}{it:Af}{fp:Aa Af}{tn:Ai->Bo->Prop}{J:It}{E:Ac->Ag->Prop}{RR:Ac->Af->Ya->Ag->Prop}
  (hc:X.calm=true) (S:CompSc X.env.scope X.N scope N' cap) (has:∀ g',(⟨tg,iter,ifs,0⟩::rest:Aa Ee)[0+1]? = Ab g'->g'.is_async=0)
  (hg:∀ w C f G O,PG (qX X N' scope w C f G O) tg (tDG (qX X N' scope w C f G O) g))
  (ht:∀ w C f G O,PTs (qX X N' scope w C f G O) ifs t) (he:∀ w C f G O,PK B (qX X N' scope w C f G O) (λacc=>xG B.m elt (⟨tg,iter,ifs,0⟩::rest) scope pos 0 acc (qX X N' scope w C f G O).env) kk)
  (I2:Inv X pins σ q U) (r:Rel X.K q P1 α1 S1) (re:qY X.K P1 α1 σ env) (T:Turn X.prog X.w X.K tg J fp it tn) (s:tn 0 U.heap) (hf:∀ b∈fp,xI X pins q b) (zk:ItD2 X.K J P1 α1 o' items) (run:goL o' g t kk items (wD cap env) S1 [] = .ok (envF,ds) SF)
  (h0:B.O X.K P1 α1 [] o0) (zh:o0.isFreed=false) (zj:∀ acc C s',U.heap.objs.size<=acc->(∃ m,s'.heap.Ns C m)->U.heap.objs.size<=C->acc≠C->(∃ w zf H' P' za o',TurnSt B (qX X N' scope w C fp U q) [] P1 α1 fp acc envF SF ds s' zf H' P' za o')->RR (.ref acc) C (.ok .next) s') :
  Ao (Au X.prog X.w) X.A (Wm scope X.env.globals (wK X.env.cells scope.names []) [] X.env.qual none .none (Ab X.env)) (λu ze =>
   Ih (Au X.prog X.w) X.A (.compStart (xX B.m elt (⟨tg,iter,ifs,0⟩::rest) scope pos) 0 (.ref it) (.ref U.heap.objs.size) { u with scope:=relabel scope X.env }) (RR (.ref U.heap.objs.size) u.locals) ze) E { U with heap:=U.heap.push o0 }:=by
 have y:∀ b∈fp,b<U.heap.objs.size:=λb M=>by
  obtain⟨o,e,_⟩:=T.obj 0 _ s b M;exact Ba e
 refine ZX ?_;dsimp only;generalize i:U.heap.push o0=L;have zb:L.objs.size=U.heap.objs.size+1:=by rw[<- i,Dz]
 have hC:U.heap.objs.size<=L.objs.size:=by rw[zb];exact Oo _
 have zc:U.heap.objs.size≠L.objs.size:=by rw[zb];exact Cp (Jb _)
 have kp:∀ b o,L.get? b=Ab o->(Zr (L.push { cls:=.type "dict",data:=.dict #[] }) scope.names).get? b=Ab o:=λb o e=>pushCells_keeps _ _ b o (Ah _ e);have A:(Zr (L.push { cls:=.type "dict",data:=.dict #[] }) scope.names).Ns L.objs.size (λ_=>none):=(Heap.Ns.new L (.type "dict")).keeps (pushCells_keeps _ _);have co:=cellsFrom_ok scope.names (L.push { cls:=.type "dict",data:=.dict #[] }) (L.objs.size+1) [] ⟨λ_ _ j=>(nomatch j),Np⟩ (by rw[Dz];exact Av _)
 rw[Dz] at co;generalize zi:Zr (L.push { cls:=.type "dict",data:=.dict #[] }) scope.names=I at kp A co ⊢;have keep:∀ b o,U.heap.get? b=Ab o->I.get? b=Ab o:=λb o e=>kp b o (i▸Ah _ e);have zd:I.get? U.heap.objs.size=Ab o0:=kp _ _ (i▸Bc _ zh);have I4:∀ n,Inv (qX X N' scope (kM X scope L.objs.size) L.objs.size fp U q) [] (v9 cap σ) q { U with heap:=I,toks:=n }:=λn =>
  YN (s4:={ U with heap:=I,toks:=n }) S I2 hf y hC A rfl rfl keep co
 have d:∀ n,Ih (Au X.prog X.w) X.A (.compLoop (xX B.m elt (⟨tg,iter,ifs,0⟩::rest) scope pos) 0 (.ref it) (.ref U.heap.objs.size) (compEnvC scope (kM X scope L.objs.size) L.objs.size X.env)) (RR (.ref U.heap.objs.size) L.objs.size) { U with heap:=I,toks:=n }:=λn=>by
  refine oK (B:=B) (kk:=kk) (o':=o') (Y:=qX X N' scope (kM X scope L.objs.size) L.objs.size fp U q) (pins:=[]) (fp:=fp) (acc:=U.heap.objs.size) (P1:=P1) (α1:=α1) (σ:=v9 cap σ) (H:=q) (P:=P1) (α:=α1) (o:=o0) hc rfl rfl has T zk
   (hg _ _ _ _ _) (ht _ _ _ _ _) (he _ _ _ _ _) (λH hn=>?_) (λH hn b M=>?_) (λj=>Ej _ (y _ j)) ⟨I4 n,r,WR re cap,qE.refl _,Bh _,λb M=>(hf b M).1,I2.hok.fresh (Av _),zd,h0⟩ (T.keep _ _ _ s λb M o e=>keep b o e) run λs' zf H' P' za o' st=>?_
  .refine⟨hn,zc,λj=>?_,.inr (Av _),λx c h z=>?_,λp hp=>absurd (show p∈([]:Aa (Af × Cq)) from hp) (by simp)⟩
   .obtain⟨_,o,ho,_⟩:=I2.stack.mem j
    exact Ej _ (Ba ho)
   .rcases xE S I2.ok h with⟨m,_⟩|⟨m,_⟩
    .exact Ej _ (Mx hC (z▸(co.empty x c m).2))
    .obtain⟨v,ob,zg,_⟩:=I2.cell x c m
     rw[z] at zg;exact Ej _ (Ba zg)
  .obtain⟨_,h1,h2,h3,h4,h5⟩:=hf b M
   refine⟨hn b M,Cp (Bd (y b M) hC),λj=>?_,.inl M,λx c h=>(by
    rcases xE S I2.ok h with⟨m,_⟩|⟨m,_⟩
    .exact Gb (Cp (Iq (Bd (y b M) hC) (co.empty x c m).2))
    .exact h4 x c m),λp hp=>absurd (show p∈([]:Aa (Af × Cq)) from hp) (by simp)⟩
   rcases Az.mp (I2.stkSub b j) with z|z
   .exact h1 z
   .exact h2 z
  .obtain⟨m,j,_⟩:=st.inv.loc
   exact zj _ _ s' (Av _) ⟨m,j⟩ hC zc ⟨_,_,_,_,_,_,st⟩
 exact sZ (k:=0) rfl rfl (d _) (T.self X.A 0 _ _ _ (T.keep _ _ _ s λb M o e=>keep b o e) (d _))
theorem YV (hc:X.calm=true)(S:CompSc X.env.scope X.N scope N' cap)(hi:PI X tg iter (tDI2 X fi))
  (hg:∀ E C ex Y U,PG (qX X N' scope E C ex Y U) tg (tDG (qX X N' scope E C ex Y U) g))
  (ht:∀ E C ex Y U,PTs (qX X N' scope E C ex Y U) ifs t) (has:∀ g',(⟨tg,iter,ifs,0⟩::rest:Aa Ee)[0+1]? = Ab g'->g'.is_async=0) (he:∀ E C ex Y U,PK accL (qX X N' scope E C ex Y U) (λacc=>xG false elt (⟨tg,iter,ifs,0⟩::rest) scope pos 0 acc (qX X N' scope E C ex Y U).env) kk)
  (hs:∀ x,Gc iter X.env x=pure x:=by intro _;rfl):PE X (.ListComp elt (⟨tg,iter,ifs,0⟩::rest) scope pos) (tD X (zI mm cap fi g t kk)):=by
 intro L s σ H Q I h;obtain⟨P,α,env,S0,r,re,af⟩:=h;rw[eval_ListComp];have O:qI X P α ((fi env S0).bind λp A=>mkM mm (goL p.1 g t kk p.2 (wD cap env) A [])) (OkV X P α Q):=af;refine Tg (use:=none) rfl hs (aA S I.ok) S.kind S.names ?_;refine thn (hi L s σ H (λJ H1=>∃ (M:Hp) (G:Aa Af) (p:Am (Ai × MO) × Aa _D.D) (A:Sto),Rel X.K H1 M G A/\qE P M/\α<+:G/\ItD2 X.K J M G p.1 p.2/\qI X P α (mkM mm (goL p.1 g t kk p.2 (wD cap env) A [])) (OkV X P α Q)) I ⟨P,α,env,S0,r,re,?_⟩) λxv s1 h1=>thn h1 λze s2 h2=>?_
 .cases q:fi env S0 with
  |bad=>rw[q] at O;exact O
  |ex c x S'=>rw[q] at O;exact O
  |ok p A=>rw[q] at O;exact λJ H1 M G n j y it=>⟨M,G,p,A,n,j,y,it,O⟩
 obtain⟨it,fp,tn,J,H2,rfl,I2,T,zb,hf,M,G,p,A,n,j,y,zc,za⟩:=h2;obtain⟨envF,ds,SF,run,ok⟩:=XR za;refine Dm (bV (B:=accL) (o0:={ cls:=.type "list",dict:=none,data:=.seq ([] : Aa Ac).toArray }) (RR:=λacc C=>compPost (Au X.prog X.w) X.A X.xe none (EP X L σ Q) acc C) hc S has hg ht he I2 n (re.mono j y) T zb hf zc run ⟨[],0,[],rfl,.nil,.nil,Hk _⟩ rfl ?_);intro acc C s' hA ⟨m,hm⟩ hC d ⟨E,zf,Hf,Pf,zg,of,zd⟩;have fin:∀ h',Ew C s'.heap h'->jU X L σ M G ds SF acc C { s' with heap:=h' }:=λh' i=>r0 I2 hf rfl hC hA d zd i
 refine⟨m,hm,λh' i=>V6 (mm:=mm) (fin h' i) ?_⟩;cases mm with
 |false=>exact λv o P3 w f u q2 e=>ok v o P3 w f (j.trans u) (y.trans q2) e
 |true=>exact λv o P3 w f u q2 e=>ok v o P3 w f (j.trans u) (y.trans q2) e
theorem V2 {i:Ai}{y:Ar}{py w:Ev}(hc:X.calm=true)(hN:X.N.Nodup)(S:CompSc X.env.scope X.N scope N' cap)(hi:PI X tg iter (tDI2 X fi))
  (hg:∀ j C ex Y U,PG (qX X N' scope j C ex Y U) tg (tDG (qX X N' scope j C ex Y U) g))
  (ht:∀ j C ex Y U,PTs (qX X N' scope j C ex Y U) ifs t) (has:∀ g',(⟨tg,iter,ifs,0⟩::rest:Aa Ee)[0+1]? = Ab g'->g'.is_async=0) (he:∀ j C ex Y U,PK accL (qX X N' scope j C ex Y U) (λacc=>xG false elt (⟨tg,iter,ifs,0⟩::rest) scope pos 0 acc (qX X N' scope j C ex Y U).env) kk)
  (hy:X.N[i]? = Ab y:=by rfl) (ze:Loc X.env.scope y:=by first|exact AaP rfl|exact wS rfl) (hf:X.fn y=true\/X.env.scope.names.lookup y=Ab .local:=by first|exact .inl rfl|exact .inr rfl|assumption)
  (hsw:Nq (.ListComp elt (⟨tg,iter,ifs,0⟩::rest) scope pos) (Ab (.Name y py)) w.line X.env=pure true:=by rfl)
  (hs:∀ x,Gc iter X.env x=pure x:=by intro _;rfl):PS X (.Assign [.Name y py] (.ListComp elt (⟨tg,iter,ifs,0⟩::rest) scope pos) w) (tDS X (qV (zI mm cap fi g t kk) (gNm i))):=by
 intro G s σ H D I h;obtain⟨P,α,env,S0,r,re,af⟩:=h;have zk:=w5 af;have L:qI X P α ((fi env S0).bind λp f=>mkM mm (goL p.1 g t kk p.2 (wD cap env) f [])) (λd S=>qZ X P α (.nx (env.set i (Ab d)) S) D):=zk;rw[exec_Assign_Name_used _ _ _ _ hsw];refine Ad (Oh (Ad ?_));show Ao _ X.A (do let _ <- comprehension (.ListComp elt (⟨tg,iter,ifs,0⟩::rest) scope pos) scope X.env _ (newList []) false (eval iter X.env) (Ab (assign (.Name y py) X.env))) _ _ s
 refine Ad (Gm (Tg (use:=Ab (assign (.Name y py) X.env)) (Q:=λ_ M=>SP X G D .next M) rfl hs (aA S I.ok) S.kind S.names ?_) (λ_ M hq=>Al (Al hq)) λ_ _ e=>e);refine thn (hi G s σ H (λJ H1=>∃ (n:Hp) (O:Aa Af) (p:Am (Ai × MO) × Aa _D.D) (f:Sto),Rel X.K H1 n O f/\qE P n/\α<+:O/\ItD2 X.K J n O p.1 p.2/\qI X P α (mkM mm (goL p.1 g t kk p.2 (wD cap env) f [])) (λd S=>qZ X P α (.nx (env.set i (Ab d)) S) D)) I ⟨P,α,env,S0,r,re,?_⟩) λxv s1 h1=>thn h1 λzm s2 h2=>?_
 .cases q:fi env S0 with
  |bad=>rw[q] at L;exact L
  |ex c x S'=>rw[q] at L;exact L
  |ok p f=>rw[q] at L;exact λJ H1 n O r1 v e2 it=>⟨n,O,p,f,r1,v,e2,it,L⟩
 obtain⟨it,fp,tn,J,H2,rfl,I2,T,zh,zc,n,O,p,f,r1,v,e2,zi,zg⟩:=h2;obtain⟨envF,ds,SF,run,ok⟩:=XR zg;refine Dm (bV (B:=accL) (o0:={ cls:=.type "list",dict:=none,data:=.seq ([] : Aa Ac).toArray }) (RR:=λacc C=>compPost (Au X.prog X.w) X.A X.xe (Ab (assign (.Name y py) X.env)) (λ_ M=>SP X G D .next M) acc C) hc S has hg ht he I2 r1 (re.mono v e2) T zh zc zi run ⟨[],0,[],rfl,.nil,.nil,Hk _⟩ rfl ?_);intro acc C M hA ⟨m,hm⟩ hC zb ⟨j,zn,Hf,Pf,zo,of,zl⟩;have fin:∀ h',Ew C M.heap h'->jU X G σ n O ds SF acc C { M with heap:=h' }:=λh' sb=>r0 I2 zc rfl hC hA zb zl sb
 show Ao _ X.A (assign (.Name y py) X.env (.ref acc)) _ _ M;obtain⟨H3,P3,A,vs,I3,r3,za,q1,q2,rp,zj⟩:=fin M.heap (Sn _ _);obtain⟨r4,e4⟩:=r3.pure (o:=.lst vs) za;have u:(upd H3 acc (.lst vs)) C=none:=by rw[qG (Gb zb)];exact zj
 have fC:=I2.fpOk hC u;refine Zd (dE I3 hN hy ze (show qK (V.ref acc) (Cg acc) from rfl) (λs5 I5 ⟨a,sb,ha⟩=>?_) hf)
 have zf:C≠a:=by
  rcases ha with rfl|ha
  .exact fC.2.1
  .exact λz=>fC.2.2.2.2.1 _ _ ha z.symm
 refine⟨m,hm.sameBut sb zf,λh' zd=>?_⟩;have I6:Inv X G (σ.set i (Ab (V.ref acc))) (upd H3 acc (.lst vs)) { s5 with heap:=h' }:=I5.turned (t':=s5.toks) (λb o hb e=>(zd.2 b hb).trans e) u fC.2.1 fC.2.2.2.1 fC.2.2.2.2.1 fC.2.2.2.2.2
 cases mm with
 |false =>
  refine⟨_,_,I6,ok _ _ (upd P3 acc (.lst vs)) A r4 ?_ ((v.trans q1).trans e4) (e2.trans q2)⟩;exact((re.mono v e2).mono (q1.trans e4) q2).set i (nX (.inl (.inl qQ)) (qD.mono e4 (Bh _) _ _ rp))
 |true =>
  have E:A<+:A++[acc]:=Fq _ _;have r5:=r3.new (o:=.lst vs) (m:=.lst ds) za ⟨vs,qQ,qD.mono (qE.refl _) E _ _ rp⟩;refine⟨_,_,I6,ok _ _ P3 (A++[acc]) r5 ?_ (v.trans q1) ((e2.trans q2).trans E)⟩;refine((re.mono v e2).mono q1 (q2.trans E)).set i ?_;simp only[Rep];exact⟨acc,rfl,by rw[<- r3.len];simp⟩
end
section
variable {prog:Bf}{w:Bx}{A:Br}{E:Ac->Ag->Prop}{s:Ag}
theorem ZW {e it l:Af}{i:Ai}{x Y:Ac}(he:Vu s.heap e it i Y)(za:zE tp s.heap it l i)(hl:xR tp s.heap l xs)(hx:xs[i]? = Ab x)(p:e≠it)
  (hQ:∀ g,IsEnumOut g e it ((i:Ak)+1) x s.heap.objs.size->zE tp g it l (i+1)->Jm g s.heap.objs.size (.int i s.toks) x->g.objs.size=s.heap.objs.size+1->(∀ b o,b≠e->b≠it->s.heap.get? b=Ab o->g.get? b=Ab o)->Q (.ref s.heap.objs.size) { s with heap:=g,toks:=s.toks+1 }) :
  Ao (Au prog w) A (Ik.«enumerate.__next__» ⟨[.ref e],[]⟩) (λfin s'=>∃ v,fin=.done (.ret v)/\Q v s') E s:=by
 obtain⟨U,B,O,J,os⟩:=s;show Ao _ _ (field (.ref e) 2 >>= _) _ _ _;refine Ad (Dx he rfl (x:=.ref it) rfl (Ad (gF za hl hx λT i1 H=>?_)))
 replace H:Ew it U T:=H
 have e1:Vu T e it i Y:=(H.2 e p).trans he;show Ao _ _ (field (.ref e) 3 >>= _) _ _ ⟨T,B,O,J,os⟩;refine Ad (Dx e1 rfl (x:=Gn i) rfl ?_);show Ao _ _ (field (.ref e) 4 >>= _) _ _ ⟨T,B,O,J,os⟩;refine Ad (Dx e1 rfl (x:=.none) rfl ?_);show Ao _ _ (mkInt i >>= _) _ _ ⟨T,B,O,J,os⟩;refine Ad (wpAny_mkInt ?_);show Ao _ _ (setField (.ref e) 3 (Gn ((i:Ak)+1)) >>= _) _ _ ⟨T,B,O,J+1,os⟩;refine Ad (Fd e1 (by simp) λc e2 M=>?_)
 replace M:Ew e T c:=M
 replace e2:Vu c e it ((i:Ak)+1) Y:=e2
 show Ao _ _ (setField (.ref e) 4 .none >>= _) _ _ ⟨c,B,O,J+1,os⟩;refine Ad (Fd e2 (by simp) λI e3 j=>?_)
 replace j:Ew e c I:=j
 replace e3:Vu I e it ((i:Ak)+1) Y:=e3
 show Ao _ _ (newTuple [.int i J,x] >>= _) _ _ ⟨I,B,O,J+1,os⟩;refine Ad (Wk ?_);have n:Vu (I.push { cls:=.type "tuple",data:=.seq #[.int i J,x] }) e it ((i:Ak)+1) Y:=Ah _ e3;generalize r:I.push { cls:=.type "tuple",data:=.seq #[.int i J,x] } = L at n;have sz:I.objs.size=U.objs.size:=by rw[j.1,M.1,H.1]
 have el:e<U.objs.size:=Ba he;have t4:Jm L U.objs.size (.int i J) x:=by rw[<- r,<- sz];exact Bc _ rfl
 have z4:L.objs.size=U.objs.size+1:=by rw[<- r,Dz,sz]
 have k4:∀ b o,b≠e->b≠it->U.get? b=Ab o->L.get? b=Ab o:=λb o G b2 q=>by
  rw[<- r];exact Ah _ (j.extBut b o G (M.extBut b o G (H.extBut b o b2 q)))
 have i4:zE tp L it l (i+1):=i1.keep λo q=>by rw[<- r];exact Ah _ (j.extBut _ o p.symm (M.extBut _ o p.symm q))
 show Ao _ _ (Et (.ref e) >>= _) _ _ ⟨L,B,O,J+1,os⟩;rw[sz];refine Ad ?_;unfold Et;refine Ad (Dx n rfl (x:=.none) rfl (Al ?_));simp only[Eh];refine Ad (He (Ad (Dx n rfl (x:=Y) rfl (Ad (Fd n (by simp) λh e5 f=>?_)))))
 replace f:Ew e L h:=f
 replace e5:Vu h e it ((i:Ak)+1) x:=e5
 show Ao _ _ (Gx (.ref e) (.ref U.objs.size) >>= _) _ _ ⟨h,B,O,J+1,os⟩;refine Ad ?_;unfold Gx;refine Ad (Fd e5 (by simp) λg6 e6 y=>?_)
 replace y:Ew e h g6:=y
 replace e6:IsEnumOut g6 e it ((i:Ak)+1) x U.objs.size:=e6
 refine Fd e6 (by simp) λu e7 d=>?_
 replace d:Ew e g6 u:=d
 replace e7:IsEnumOut u e it ((i:Ak)+1) x U.objs.size:=e7
 have up:∀ b o,b≠e->L.get? b=Ab o->u.get? b=Ab o:=λb o G q=>d.extBut b o G (y.extBut b o G (f.extBut b o G q));exact Ad (Vt (Al ⟨_,rfl,hQ u e7 (i4.keep λo q=>up _ o p.symm q) (up _ _ (Gj el) t4) (by rw[d.1,y.1,f.1,z4]) λb o G b2 q=>up b o G (k4 b o G b2 q)⟩))
set_option maxHeartbeats 4000000 in
set_option tactic.hygienic true in
theorem V8 (tp:As)(l:Af)(xs:Ay Ac) :
  Meets (Ik.«enumerate.__new__» ⟨[.type "enumerate",.ref l],[]⟩) (λ_ R s=>(∃ n J L,s.heap.get? l=Ab { cls:=.type (if tp then "tuple" else "list"),dict:=J,data:=.seq xs n,slots:=L }) /\ R (.ok (.ret (.ref (s.heap.push (vR tp l)).objs.size))) { s with heap:=(s.heap.push (vR tp l)).push { cls:=.type "enumerate",data:=.fields #[.none,.bool false,.ref s.heap.objs.size,Gn 0,.none,.none] } }):=
 .of_wp λprog w A R s h=>by
  obtain⟨G,I,T,O,os⟩:=s;obtain⟨⟨n,J,L,Y⟩,h⟩:=h;have B:=sub_enumerate;cases tp
  .have U:wT (Ov ⟨G,I,T,O,os⟩) l xs:=⟨_,Y,rfl,n,rfl⟩
   wp_walk using Gy Y
   refine wpAny_stack_any λst=>Al ?_
   split
   .rename_i c _ _ _ _ _
    cases (c == Hc "enumerate") <;> (wp_walk using Gy Y,Gs U;exact⟨_,rfl,h⟩)
   .wp_walk using Gy Y,Gs U;exact⟨_,rfl,h⟩
  .have U:Yw (Ov ⟨G,I,T,O,os⟩) l xs:=⟨_,Y,rfl,n,rfl⟩
   wp_walk using Gy Y
   refine wpAny_stack_any λst=>Al ?_
   split
   .rename_i c _ _ _ _ _
    cases (c == Hc "enumerate") <;> (wp_walk using Gy Y,Ha U;exact⟨_,rfl,h⟩)
   .wp_walk using Gy Y,Ha U;exact⟨_,rfl,h⟩
theorem ZE {tp:As}{l:Af}{xs:Ay Ac}{Q:Ac->Ag->Prop}(O:∃ n J U,s.heap.get? l=Ab { cls:=.type (if tp then "tuple" else "list"),dict:=J,data:=.seq xs n,slots:=U })
  (h:∀ g,Vu g (s.heap.objs.size+1) s.heap.objs.size 0 .none->zE tp g s.heap.objs.size l 0->(∀ b o,s.heap.get? b=Ab o->g.get? b=Ab o)->Q (.ref (s.heap.objs.size+1)) { s with heap:=g }) :
  Ao (Au prog w) A (call (.type "enumerate") [.ref l]) Q E s:=by
 refine callType_new F.called_enumerate (by decide) (F.typeCall_enumerate_1 _) (F.newCall_enumerate_1 _) (λobj=>F.args_object_init_2 obj _) F.entry_enumerate_new (V8 tp l xs) ⟨O,?_⟩
 have G:(s.heap.push (vR tp l)).objs.size=s.heap.objs.size+1:=Dz ..;show _/\_;have Y:((s.heap.push (vR tp l)).push { cls:=.type "enumerate",data:=.fields #[.none,.bool false,.ref s.heap.objs.size,Gn 0,.none,.none] }).get? (s.heap.push (vR tp l)).objs.size=Ab _:=Bc _ rfl;rw[G] at Y ⊢;exact⟨⟨_,Y,rfl⟩,h _ Y (kZ (Ah _ (Bc _ rfl))) λb o x=>Ah _ (Ah _ x)⟩
end
noncomputable def Ite (tp:As)(K:Aj)(a:Af):It:=
  ⟨λi H=>∃ xs x,Sq tp K H a xs/\xs[i]? = Ab x,
   λi H v Y=>∃ T x,v=.ref T/\H T=none/\Y=upd H T (.tup [.int i,x])/\∀ xs,Sq tp K H a xs->xs[i]? = Ab x,
   λi H=>∃ xs,Sq tp K H a xs/\xs.length<=i⟩
def Z4 (tp:As)(e it l:Af)(k:Ai)(h:Bo):Prop:=∃ Y,Vu h e it k Y/\zE tp h it l k
theorem Y0 {P:Bf}{w:Bx}{K:Aj}{L:Aa Bt}{x1:Ai}{A:Ev}{e it a:Af}(ne:e≠it):Turn P w K (.Tuple L x1 A) (Ite tp K a) [e,it] e (Z4 tp e it a) where
 mem:=by simp
 obj:=λk h st c Y=>by
  obtain⟨U,J,O⟩:=st;simp only[Az,Dq,Hr] at Y;rcases Y with rfl|rfl
  .exact⟨_,J,λv y=>by cases y⟩
  .exact O.there
 keep:=λk h h' st d=>by
  obtain⟨U,J,O⟩:=st;exact⟨U,d e (by simp) _ J,O.keep λo q=>d it (by simp) o q⟩
 item:=by
  intro X r hw i Y k M s σ H E G j st hg;subst r hw i;obtain⟨U,J,O⟩:=st;obtain⟨xs,x,p,hx⟩:=hg;obtain⟨ia,ra,f⟩:=p.at G;obtain⟨u,hu,ru⟩:=ra.get hx;have I:s.TypeIs (.ref e) "enumerate":=⟨_,J,rfl⟩;unfold Ni;refine Ad (Ix (DL (name:=Hu "__next__") I Lc (Eg Lc I Vf
   (ZW J O f (by simpa using hu) ne λh' a1 a2 a3 a4 a5=>Al ?_) (Uf _))))
  refine⟨_,rfl,wpAny_letOwnedTupleGo_enum (s:={ s with heap:=h',toks:=s.toks+1 }) a1 λg b1 b2=>?_⟩
  have up:∀ c o,c≠e->h'.get? c=Ab o->g.get? c=Ab o:=λc o n q=>(b2.2 c n).trans q;have el:e<s.heap.objs.size:=Ba J;have T2:Jm g s.heap.objs.size (.int k s.toks) u:=up _ _ (Gj el) a3;have B:Z4 tp e it a (k+1) g:=⟨u,b1,a2.keep λo q=>up _ o ne.symm q⟩;refine⟨.ref s.heap.objs.size,upd H s.heap.objs.size (.tup [.int k,x]),?_,rfl,⟨_,x,rfl,G.hok.fresh (Av _),rfl,λzs qz=>by rw[qz.inj G p];exact hx⟩,B,λc Y=>?_⟩
  .have:=Inv.turnLay (fp:=[e,it]) (its:=[.int k s.toks,u]) (h':=g) (xs:=[.int k,x]) G j (λc o Y q=>by
    simp only[Az,Dq,Hr,Yb] at Y;exact up c o Y.1 (a5 c o Y.1 Y.2 q)) (λc Y=>by
    obtain⟨zc,t1,t2⟩:=B;simp only[Az,Dq,Hr] at Y;rcases Y with rfl|rfl
    .exact⟨_,t1⟩
    .obtain⟨o,q,_⟩:=t2.there;exact⟨o,q⟩) (Av _) (.cons ⟨_,rfl⟩ (.cons ru .nil)) ⟨_,T2,rfl,_,rfl⟩ (by show 2<=sizeLine;decide)
   exact this.tok (s.toks+1)
  .have hn:=(j c Y).1
   rw[qG ?_]
   .exact hn
   .rintro rfl
    obtain⟨o,q,_⟩:∃ o,s.heap.get? s.heap.objs.size=Ab o/\Oe:=by
     simp only[Az,Dq,Hr] at Y;rcases Y with z|z
     .exact⟨_,z▸J,trivial⟩
     .obtain⟨o,e',_⟩:=O.there;exact⟨o,z▸e',trivial⟩
    exact absurd (Ba q) (Ej _)
 done:=by
  intro X r hw i Y k M s σ H E G j st hg;subst r hw i;obtain⟨U,J,O⟩:=st;obtain⟨xs,p,zd⟩:=hg;obtain⟨ia,ra,f⟩:=p.at G;have I:s.TypeIs (.ref e) "enumerate":=⟨_,J,rfl⟩;have l1:=ra.length;unfold Ni;refine Ad (Ix (DL (name:=Hu "__next__") I Lc (Eg Lc I Vf ?_ (Uf _))));show Ao _ _ (field (.ref e) 2 >>= _) _ _ _;refine Ad (Dx J rfl (x:=.ref it) rfl (Ad (uU (G.ok.hd Y) O f (by simp;omega) λh' x d zb=>?_)))
  obtain⟨o,ho,za⟩:=zb;refine Ad (Ow (T:="StopIteration") (b:=true) ⟨o,ho,za⟩ Wl (Al ⟨rfl,Inv.turnL (fp:=[e,it]) G j λc o Y q=>?_⟩));simp only[Az,Dq,Hr,Yb] at Y;exact d c o Y.2 q
 self:=λ_ _ _ _ _ st h=>by
  obtain⟨U,J,_⟩:=st;exact Zs J h
noncomputable def yI (xs:Aa D):Aa D:=xs.mapIdx λi x=>D.tup [.int i,x]
noncomputable def K1 (ds:Aa D):Am (Aa D):=match ds with
 |[.tup xs]=>Ab (yI xs)
 |[.lst xs]=>Ab (yI xs)
 |_=>none
noncomputable def mE (f:DA):DI:=λenv S=>(f env S).bind λds Y=>vK (K1 ds) Y
theorem ZV (xs:Aa D)(i:Ai):(yI xs)[i]? = (xs[i]?).map λx=>D.tup [.int i,x]:=by
 unfold yI;rw[List.getElem?_mapIdx]
theorem pF (xs:Aa D):(yI xs).length=xs.length:=by simp[yI]
theorem VR {K:Aj}{P:Hp}{α:Aa Af}{a:Af}{xs:Aa D}(G:Sq tp K P a vs)(U:qD K P α xs vs):ItD K (Ite tp K a) P α (yI xs) where
 go:=λi H O J S Y r e _=>by
  rw[pF] at Y;have q:i<vs.length:=by rw[<- U.length];omega
  exact⟨vs,vs[i],G.mono (e.trans r.sub),by simp⟩
 yld:=λi H x c O J S Y r e j y=>by
  obtain⟨T,u,rfl,I,rfl,E⟩:=y;rw[pF] at Y;obtain⟨p,w,A⟩:=U.get (Ap Y);have B:=E vs (G.mono (e.trans r.sub));rw[w] at B;cases B;obtain⟨M,L⟩:=r.pure (o:=.tup [.int i,u]) I;refine⟨_,.tup [.int i,xs[i]],?_,M,L,?_⟩
  .rw[ZV,Ap Y];rfl
  .exact bO (.of qQ) (.cons (by simp only[Rep]) (.cons (Rep.mono (e.trans L) j _ _ A) .nil))
 stop:=λi H O J S Y r e _=>by
  rw[pF] at Y;have g:=U.length;exact⟨vs,G.mono (e.trans r.sub),by omega⟩
section
variable {X:Cx}{e1:Bt}{elts:Aa Bt}{x1:Ai}{tpos:Ev}{f:DA}{p pos:Ev}
theorem Sq.obj {pins:Aa (Af × Cq)}{σ:_L.St}{H:Hp}{s:Ag}{a:Af}{xs:Aa V}(I:Inv X pins σ H s)(q:Sq tp X.K H a xs):∃ its:Aa Ac,qJ xs its/\∃ n O U,s.heap.get? a=Ab { cls:=.type (if tp then "tuple" else "list"),dict:=O,data:=.seq its.toArray n,slots:=U }:=by
 obtain⟨its,L,h⟩:=q.at I;refine⟨its,L,?_⟩;cases tp with
 |true =>
  obtain⟨o,G,J,n,Y⟩:=h;obtain⟨c,d,B,U⟩:=o;dsimp only at J Y;subst J;subst Y;exact⟨n,_,_,G⟩
 |false =>
  obtain⟨o,G,J,n,Y⟩:=h;obtain⟨c,d,B,U⟩:=o;dsimp only at J Y;subst J;subst Y;exact⟨n,_,_,G⟩
theorem aF {pins:Aa (Af × Cq)}{σ:_L.St}{H P:Hp}{α:Aa Af}{S:Sto}{s:Ag}{a:Af}{xs:Aa D}(I:Inv X pins σ H s)(r:Rel X.K H P α S)(J:Sq tp X.K P a vs)(L:qD X.K P α xs vs)
  (q:OkI X P α R (yI xs) S):Ao (Au X.prog X.w) X.A (call (.type "enumerate") [.ref a]) (λv T=>Ao (Au X.prog X.w) X.A (Ol v) (PIE X pins σ (.Tuple elts x1 tpos) R) X.xe T) X.xe s:=by
 obtain⟨M,A,O⟩:=Sq.obj I (J.mono r.sub);refine ZE (tp:=tp) O λh' Y B E=>?_;refine Zs (s:={ s with heap:=h' }) Y ?_
 refine⟨_,[s.heap.objs.size+1,s.heap.objs.size],_,_,H,rfl,I.kept (t':=s.toks) E,Y0 (tp:=tp) (a:=a) (by intro z;simp at z),⟨_,Y,B⟩,λc U=>?_,q _ _ P α r (qE.refl _) (Bh _) (VR J L)⟩
 have G:s.heap.objs.size<=c:=by
  simp only[Az,Dq,Hr] at U;rcases U with rfl|rfl <;> simp
 exact I.fpOk G (I.hok.fresh G)
theorem tN:Gi "enumerate" = Ab (.type "enumerate"):=by decide +kernel
theorem V7 (h:K1 ds=Ab its):∃ d xs,ds=[d]/\ItV d xs/\its=yI xs:=by
 cases ds with
 |nil=>exact nn h
 |cons d ds =>
  cases ds with
  |cons _ _=>cases d <;> exact nn h
  |nil =>
   cases d with
   |tup xs=>exact⟨_,xs,rfl,.tup rfl,(Cy h).symm⟩
   |lst xs=>exact⟨_,xs,rfl,.lst rfl,(Cy h).symm⟩
   |_=>exact nn h
theorem PB (g:Gl X "enumerate")(hm:X.mg "enumerate" = none)(w:PA X [e1] (tDA X f))(hs:Bm [e1] X.env=(false,eval e1 X.env)::Bm [] X.env:=by rfl)(G:(Gh pos (Bm [] X.env)).any (·.1)=false:=by rfl) :
  PI X (.Tuple elts x1 tpos) (.Call (.Name "enumerate" p) [e1] [] pos) (tDI X (mE f)):=by
 intro A s σ H R I h;obtain⟨P,α,env,S,r,re,e⟩:=h;refine Call_ (vT I g hm tN (Hl (thn (wB w I r re e pos) λus s1 ⟨vs,H1,P1,j,ds,S1,T,c,M,o,x,e1,E,O⟩=>?_) hs G));obtain⟨its,y,q⟩:=vL O;obtain⟨d,xs,rfl,n,rfl⟩:=V7 y;obtain⟨v,u,rfl,rfl,Y,L⟩:=y8 x c;cases n with
 |tup J =>
  subst J;simp only[Rep] at Y;obtain⟨a,i,rfl,U,B⟩:=Y;cases (show u=Cg a from L)
  exact aF (tp:=true) T M U B (q.base e1 E)
 |lst J =>
  subst J;simp only[Rep] at Y;obtain⟨a,i,rfl,U,B⟩:=Y;cases (show u=Cg a from L)
  exact aF (tp:=false) T M U.l B (q.base e1 E)
end
section
variable {X:Cx}
noncomputable def wG:D->Aa D->Sto->Res D:=λa ds S=>match a,ds with
 |.loc n,[i,x]=>match S[n]? with
  |some (.dct Y)=>match wO i with
   |some k=>match zT Y k with
    |some d=>.ok d S
    |none=>if Y.length<lim then .ok x (S.set n (.dct (zX Y k x))) else .bad
   |none=>.bad
  |_=>.bad
 |_,_=>.bad
theorem bS (a b c:Ac):Aa0 "dict.setdefault" ⟨[a,b,c],[]⟩:=by unfold Aa0;kernel_rfl
inductive SdV (a:D)(ds:Aa D)(S:Sto):Prop
 |bad (e:wG a ds S=.bad)
 |of (n:Ai) (i x:D) (kvs:Aa (Key × D)) (k:Key) (ea:a=.loc n) (ed:ds=[i,x]) (hS:S[n]? = Ab (.dct kvs)) (hk:wO i=Ab k) (e:wG a ds S=(match zT kvs k with|some d=>.ok d S|none=>if kvs.length<lim then .ok x (S.set n (.dct (zX kvs k x))) else .bad))
theorem sdV (a:D)(ds:Aa D)(S:Sto):SdV a ds S:=by
 cases a with
 |loc n =>
  cases ds with
  |nil=>exact .bad rfl
  |cons i ds =>
   cases ds with
   |nil=>exact .bad rfl
   |cons x ds =>
    cases ds with
    |cons _ _=>exact .bad rfl
    |nil =>
     have z:wG (.loc n) [i,x] S=(match S[n]? with|some (.dct Y)=>(match wO i with|some k=>(match zT Y k with|some d=>.ok d S|none=>if Y.length<lim then .ok x (S.set n (.dct (zX Y k x))) else .bad)|none=>.bad)|_=>.bad):=rfl
     cases U:S[n]? with
     |none=>rw[U] at z;exact .bad z
     |some m =>
      rw[U] at z;cases m with
      |dct Y =>
       cases J:wO i with
       |none=>rw[J] at z;exact .bad z
       |some k=>rw[J] at z;exact .of n i x Y k rfl rfl U J z
      |_=>exact .bad z
 |_=>exact .bad rfl
theorem XQ:MtD X "dict.setdefault" wG:=by
 intro za σ H s P α S v vv vs us a ds Q I r rv p M j Y;cases sdV a ds S with
 |bad e=>rw[e] at Y;exact An Y
 |of n i x U k ea ed h hk e =>
  rw[e] at Y;subst ea ed;clear e;obtain⟨vi,T,ui,ux,rfl,rfl,pi,y,qi,c⟩:=uD j M;simp only[Rep] at p;obtain⟨b,rfl,q⟩:=p;obtain⟨o,z,t⟩:=r.at' n b _ q h;cases mS hk pi;cases (show vv=Cg b from rv)
  obtain⟨hz,u,O,J,g⟩:=oP I.hok z;have w:O.length<=sizeLine:=by rw[<- J.length];exact hz
  obtain⟨k1,k2⟩:=bC (k:=k) t;have G:=J.val k;refine call_meetsIn Qk g.typeIs PySem.F.entry_dict_setdefault (bS _ _ _) (kt_meets_setdefault (zO X.prog X.w) b (g9 qi) u ux) ⟨O,g,w,λv' B=>?_,λhn h' L hs=>?_⟩
  .cases hv:zT U k with
   |none =>
    rw[k2 hv,B] at G;exact An G
   |some d =>
    obtain⟨w',A,f⟩:=k1 d hv;rw[hv] at Y;rw[A,B] at G;exact⟨w',H,I.tok _,G,xr Y r f⟩
  .cases hv:zT U k with
   |some d =>
    obtain⟨w',A,f⟩:=k1 d hv;rw[A,hn] at G;exact An G
   |none =>
    rw[hv] at Y;obtain⟨hl,Y⟩:=x9 (X:=X) Y;have E:(yM o k T).length<=sizeLine:=by
     have:=jQ o k T;have e3:=nH t;rw[<- zH];lia
    have he:∃ q,h'.get? b=Ab q:=let ⟨q,_,_,hq,_⟩:=L;⟨q,hq⟩
    have I':=tR (t':=s.toks+1) I (by rw[z];exact Hg) hs he (ZU E u (J.put k c) L)
    exact⟨T,_,I',c,Y _ _ P α (r.put (m':=.dct (zX U k x)) q h (by intro z;cases z) ⟨_,qQ,i3 y t⟩) (qE.refl _) (Bh _) y⟩
noncomputable def xS:Aa D->Am (Aa Ak)
 |[]=>Ab []
 |.int i::r=>(xS r).map (i::·)
 |_::_=>none
theorem lP (Y:Aa Ak):xS (Y.map D.int)=Ab Y:=by
 induction Y with
 |nil=>rfl
 |cons n r J=>exact congrArg (Option.map (n::·)) J
theorem uR:∀ {ds:Aa D} {Y:Aa Ak},xS ds=Ab Y->ds=Y.map D.int
 |[],Y,h=>by cases h;rfl
 |d::r,Y,h=>by
  cases d with
  |int i =>
   obtain⟨m,J,rfl⟩:=De.mp (show (xS r).map (i::·)=Ab Y from h)
   rw[uR J];rfl
  |_=>exact nn h
theorem yQ {K:Aj}{P:Hp}{α:Aa Af}:∀ {Y:Aa Ak} {vs:Aa V},qD K P α (Y.map D.int) vs->vs=Y.map V.int
 |[],vs,r=>by rw[r.nil_inv];rfl
 |n::Y,vs,r=>by
  obtain⟨w,J,rfl,p,t⟩:=r.cons_inv;simp only[Rep] at p;rw[p,yQ t];rfl
noncomputable def n8:G2:=λa b S=>match a,b with
 |.tup xs,.tup ys=>match xS xs,xS ys with
  |some J,Ab Y=>.ok (.bl (_H.lexLt J Y)) S
  |_,_=>.bad
 |_,_=>gLt a b S
end
section
variable {X:Cx}
theorem c9 {pins:Aa (Af × Cq)}{σ:_L.St}{H P:Hp}{α:Aa Af}{S:Sto}{s:Ag}{xs:Aa D}{v:V}{U:Ac}{J:Aa Ak}(I:Inv X pins σ H s)(r:Rel X.K H P α S)(B:qK v U)(p:Rep X.K P α (.tup xs) v)(h:xS xs=Ab J) :
  ∃ a its,U=.ref a/\Qr s.heap a (List.toArray its)/\Ke its J:=by
 have:=uR h;subst this;obtain⟨a,vs,its,rfl,L,O,Y,G,T,_⟩:=vY I r p;have:=yQ O;subst this;exact⟨a,its,B,G,by simpa using kX Y⟩
set_option tactic.hygienic true in
theorem S9 (B:X.A.units<Fk):OpD X (Df .Lt) n8:=by
 intro J σ H s P α S v u T j a b Q I r G O pa pb Y;unfold n8 at Y
 split at Y
 .rename_i xs ys
  split at Y
  .rename_i y q E L
   obtain⟨a,its,rfl,A,w⟩:=c9 I r G pa E;obtain⟨b,U,rfl,M,i2⟩:=c9 I r O pb L;exact _H.lt_tupInts A M (by simpa using w) (by simpa using i2) B ⟨.bl _,H,I,rfl,xr Y r (by simp only[Rep])⟩
  .exact An Y
 .exact KM J σ H s P α S v u T j a b Q I r G O pa pb Y
end
section
variable {X:Cx}
noncomputable def dW:DF:=λds S=>match ds with
 |[.int a,.int b]=>.ok (.int (if b>a then b else a)) S
 |_=>.bad
inductive Two (ds:Aa D):Prop
 |no (h:∀ (g:Ak->Ak->Res D),(match ds with|[.int a,.int b]=>g a b|_=>.bad)=.bad)
 |of (a b:Ak) (ed:ds=[.int a,.int b])
theorem EC (ds:Aa D):Two ds:=by
 cases ds with
 |nil=>exact .no λ_=>rfl
 |cons d ds =>
  cases d with
  |int a =>
   cases ds with
   |nil=>exact .no λ_=>rfl
   |cons e ds =>
    cases e with
    |int b =>
     cases ds with
     |nil=>exact .of a b rfl
     |cons _ _=>exact .no λ_=>rfl
    |_=>exact .no λ_=>rfl
  |_=>exact .no λ_=>rfl
theorem GM (A:X.calm=true):xQ X (.builtin "max") dW:=by
 intro Y σ H s P α S vs y ds Q I r M j U;cases EC ds with
 |no h=>exact(mC (X:=X) (r:=dW ds S) (h _) U).elim
 |of a b E =>
  subst E;obtain⟨v,w,u,x,rfl,rfl,p,L,q,B⟩:=uD j M;cases zR p;cases zR L;obtain⟨t,rfl⟩:=q;obtain⟨t',rfl⟩:=B;refine max_two_ints (I.ok.hd A) λh' G T=>?_;have O:Inv X Y σ H { s with heap:=h',toks:=G }:=I.kept (t':=G) T
  by_cases J:b>a
  .rw[Be J]
   exact⟨.int b,H,O,⟨t',rfl⟩,xr U r (by simp only[Rep];rw[Be J])⟩
  .rw[Bg J]
   exact⟨.int a,H,O,⟨t,rfl⟩,xr U r (by simp only[Rep];rw[Bg J])⟩
end
section
variable {K:Aj}{H P:Hp}{α : Aa Af}{S:Sto}
theorem Rel.still {a:Af}{n:Ai}{m:MO}{o:HO}(r:Rel K H P α S)(G:α[n]? = Ab a)(hs:S[n]? = Ab m)(L:m≠.dead):Rel K (upd H a o) (upd P a o) α (S.set n .dead)/\qE P (upd P a o):=by
 have E:=r.sep n a m G hs L;have T:qE P (upd P a o):=gL E;have Y:=r.put (o:=o) (m':=.dead) G hs L trivial;have I:n<S.length:=(Aw.mp hs).1;refine⟨⟨Y.tb.keep (λ_ _ q _=>q) λb u q _ p n=>⟨(qG λ(z:b=a)=>n (by rw[z];exact Bq G)).trans p,n⟩,λb u e=>?_,Y.len,Y.nd,λi b u O J B=>?_,λi b u O J=>(Y.at' i b u O J).mono T (Bh _),Y.own⟩,T⟩
 .by_cases U:b=a
  .subst U;rw[qQ] at e ⊢;exact e
  .rw[qG U] at e ⊢;exact r.sub _ _ e
 .have U:b≠a:=by
   rintro rfl;have:=lY r.nd O G;subst this;rw[Dd I] at J;cases J;exact B rfl
  rw[qG U];exact Y.sep i b u O J B
end
noncomputable def qAf (f:DE):DI:=λenv S=>(f env S).bind λd J=>match d with
 |.loc n=>match J[n]? with
  |some (.dct Y)=>.ok (Y.map (·.2)) (J.set n .dead)
  |_=>.bad
 |_=>.bad
theorem i6 {K:Aj}{P:Hp}{α:Aa Af}:∀ {kvs:Aa (Key × D)} {vs:Aa (Key × V)},KVs K P α kvs vs->qD K P α (kvs.map (·.2)) (vs.map (·.2))
 |_,_,.nil=>.nil
 |_,_,.cons z t=>.cons z.2 (i6 t)
section
variable {X:Cx}{tg o:Bt}{fo:DE}{apos cpos:Ev}
theorem Y3 {S:Sto}{n:Ai}{kvs:Aa (Key × D)}(h:S[n]? = Ab (.dct kvs)):tyD (.loc n) S=Ab "dict":=by
 show (match S[n]? with|some (.lst _)=>Ab "list" | some (.dct _)=>Ab "dict" | _=>none)=_
 rw[h]
end
section
variable {X:Cx}
def bA:G2:=λa b S=>match a,b with
 |.lst xs,.int k=>if 0<=k/\k<2 ^ 62/\xs.length*k.toNat<=lim then .ok (.lst (Dg k.toNat xs).flatten) S else .bad
 |_,_=>zJ a b S
theorem eY {K:Aj}{P:Hp}{α:Aa Af}(r:qD K P α ds vs):∀ k:Ai,qD K P α (Dg k ds).flatten (Dg k vs).flatten
 |0=>by simpa using qD.nil
 |k+1=>by
  rw[Gr,Gr,Im,Im];exact r.append (eY r k)
inductive MulV (a b:D)(S:Sto):Prop
 |old (e:bA a b S=zJ a b S)
 |of (xs:Aa D) (k:Ak) (ea:a=.lst xs) (eb:b=.int k)
theorem OR (a b:D)(S:Sto):MulV a b S:=by
 cases a with
 |lst xs=>cases b with
  |int k=>exact .of xs k rfl rfl
  |_=>exact .old rfl
 |_=>exact .old rfl
theorem F0:OpD X (Ei .Mult) bA:=by
 intro E σ H s P α S v u y f a b Q I r q o pa pb L;cases OR a b S with
 |old e =>
  rw[e] at L;exact iD E σ H s P α S v u y f a b Q I r q o pa pb L
 |of xs k ea eb =>
  subst ea eb;obtain⟨g,L⟩:=x9 (X:=X) L;obtain⟨h1,x,j⟩:=g;obtain⟨l,vs,its,n,rfl,h,d,O,e,i,_⟩:=vU I r pa;cases (show y=Cg l from q)
  have:=zR pb;subst this;obtain⟨t,rfl⟩:=o;have hl:its.length=vs.length:=O.length.symm;have A:its.toArray.size*k.toNat<=sizeLine:=by rw[AT,<- i,<- zH];exact j
  have B:¬ its.toArray.size*k.toNat>(2 ^ 63-1)/8:=by
   have:(sizeLine:Ai)<=(2 ^ 63-1)/8:=by decide
   omega
  have G:¬ (!Builtin.List.listFitsIndex k)=true:=by
   rw[fitsIndex_both om om];exact Fp
  have Y:¬ Mt (its.toArray.size*k.toNat)=true:=by
   rw[UC A];exact Fp
  have J:AaH (λM w=>M++w) #[] (Dg (if its.toArray.isEmpty=true then 0 else k.toNat) its.toArray)=(Dg k.toNat its).flatten.toArray:=by
   have p:∀ m:Ai,AaH (λM w=>M++w) #[] (Dg m its.toArray)=(Dg m its).flatten.toArray:=λm=>by
    have:=lN its m [];rw[Ip] at this;exact this
   rw[p];cases its with
   |nil=>simp
   |cons a r'=>rw[Bg (by simp)]
  refine wpAny_binaryOp_repeat_ref (T:="list") (U:="int") (by decide) ⟨_,e,rfl⟩ (λc=>typeIs_int c k t) noFill_list_mul F.fills_int_mul F.slot_int_rmul repeat_list F.slot_int_index.lookup
   (Ny F.slot_int_rmul (typeIs_int s k t) F.entry_int_rmul (F.args_int_rmul_2 _ _) (int___rmul___int_list k t l its.toArray n)
    ⟨e,rfl,⟨_,e,rfl⟩,Ny F.slot_list_mul ⟨_,e,rfl⟩ F.entry_list_mul (F.args_list_mul_2 _ _) (AutoListH.list___mul___list_int_3 l its.toArray n k t G B Y) ⟨e,?_⟩⟩)
  rw[J];exact fR I r (eY d k.toNat) (O.rep k.toNat) (by rw[BM,Nat.mul_comm];exact j) L
theorem YH:Gi "set" = Ab (.type "set"):=by decide +kernel
variable {e:Bt}{fa:DE}{p1 p2 pos1 pos2:Ev}
end
structure QI2 (X:Cx)(tg it:Bt)(f:DI2):Prop where
 get:PI X tg it (tDI2 X f)
structure QK (B:Acc)(Y:Cx)(step:Ac->Ko Qf)(k:DK):Prop where
 get:PK B Y step k
section
variable {B:Acc}{X Y:Cx}{tg it e o elt iter ie:Bt}{es ifs rest:Aa Bt}{fa fo fe fi:DE}{fA:DA}{fI:DI}{f2:DI2}{g:DG}{t:DT}{kk:DK}{p pos:Ev}{n k:Ai}{x:Ar}{cm:As}{F:DF}{f:DS}{gens grest:Aa Ee}{scope:El}{N':Aa Ar}{cap:Aa (Am Ai)}{mm:As}
theorem WJ (h:QI X tg it fI):QI2 X tg it (xT fI):=⟨PC h.1⟩
theorem RN (h:QE X e fa):QI2 X tg e (dIt fa):=⟨HK h.1⟩
theorem FO {e1:Bt}{J:Aa Bt}{T:Ai}{U:Ev}(L:Gl X "enumerate")(hm:X.mg "enumerate" = none)(O:QA X [e1] fA)(hs:Bm [e1] X.env=(false,eval e1 X.env)::Bm [] X.env:=by rfl)(G:(Gh pos (Bm [] X.env)).any (·.1)=false:=by rfl) :
  QI X (.Tuple J T U) (.Call (.Name "enumerate" p) [e1] [] pos) (mE fA):=⟨PB L hm O.1 hs G⟩
theorem iH (U:Y.xe=λ_ _=>Fn)(J:gens[k+1]? = none)(G:QE Y elt fe):QK accL Y (λacc=>xG false elt gens scope pos k acc Y.env) (zY fe):=⟨FA U J G.1⟩
theorem UQ (T:X.calm=true)(S:CompSc X.env.scope X.N scope N' cap)(hi:QI2 X tg iter f2)(E:∀ G C O J U,QG (qX X N' scope G C O J U) tg g)(I:∀ G C O J U,QTs (qX X N' scope G C O J U) ifs t)
  (has:∀ g',(⟨tg,iter,ifs,0⟩::grest:Aa Ee)[0+1]? = Ab g'->g'.is_async=0)
  (L:∀ G C O J U,QK accL (qX X N' scope G C O J U) (λacc=>xG false elt (⟨tg,iter,ifs,0⟩::grest) scope pos 0 acc (qX X N' scope G C O J U).env) kk) (hs:∀ x,Gc iter X.env x=pure x) :
  QE X (.ListComp elt (⟨tg,iter,ifs,0⟩::grest) scope pos) (zI mm cap f2 g t kk):=
 ⟨YV T S hi.1 (λG C O s H=>(E G C O s H).1) (λG C O s H=>(I G C O s H).1) has (λG C O s H=>(L G C O s H).1) hs⟩
theorem UU {y:Ar}{L:Ev}(j:X.calm=true)(u:X.N.Nodup)(S:CompSc X.env.scope X.N scope N' cap)(hi:QI2 X tg iter f2)(I:∀ O C G J U,QG (qX X N' scope O C G J U) tg g)(A:∀ O C G J U,QTs (qX X N' scope O C G J U) ifs t)
  (has:∀ g',(⟨tg,iter,ifs,0⟩::grest:Aa Ee)[0+1]? = Ab g'->g'.is_async=0)
  (E:∀ O C G J U,QK accL (qX X N' scope O C G J U) (λacc=>xG false elt (⟨tg,iter,ifs,0⟩::grest) scope pos 0 acc (qX X N' scope O C G J U).env) kk) (w:X.N[m]? = Ab y) (T:Loc X.env.scope y) (M:X.fn y=true\/X.env.scope.names.lookup y=Ab .local)
  (hsw:Nq (.ListComp elt (⟨tg,iter,ifs,0⟩::grest) scope pos) (Ab (.Name y py)) L.line X.env=pure true) (hs:∀ x,Gc iter X.env x=pure x):QS X (.Assign [.Name y py] (.ListComp elt (⟨tg,iter,ifs,0⟩::grest) scope pos) L) (qV (zI mm cap f2 g t kk) (gNm m)):=
 ⟨V2 j u S hi.1 (λO C G s H=>(I O C G s H).1) (λO C G s H=>(A O C G s H).1) has (λO C G s H=>(E O C G s H).1) w T M hsw hs⟩
theorem JP:ZMt X "dict.setdefault" wG:=⟨XQ⟩
theorem II (J:RoomC cm k X.A):ZOp X (Df .Lt) n8:=⟨S9 (by have:=hu1 J;omega)⟩
theorem ET:ZOp X (Ei .Mult) bA:=⟨F0⟩
end
noncomputable def jT (H:Hp):Aa (Af × HO)->Hp
 |[]=>H
 |p::Y=>jT (upd H p.1 p.2) Y
theorem lB {b:Af}:∀ {L:Aa (Af × HO)} {H:Hp},b ∉ L.map (·.1)->jT H L b=H b
 |[],_,_=>rfl
 |p::Y,H,h=>by
  simp only[Ek,Az,Yb] at h;show jT (upd H p.1 p.2) Y b=H b;rw[lB h.2,qG h.1]
theorem cB {b:Af}{u:HO}:∀ {L:Aa (Af × HO)} {H:Hp},jT H L b=Ab u->(b,u)∈L\/H b=Ab u
 |[],_,h=>.inr h
 |p::J,H,h=>by
  rcases cB (L:=J) (H:=upd H p.1 p.2) h with h|h
  .exact .inl (Bp _ h)
  .by_cases Y:b=p.1
   .subst Y
    rw[qQ] at h;cases h;exact .inl (Cn ..)
   .rw[qG Y] at h
    exact .inr h
section
variable {X:Cx}{pins:Aa (Af × Cq)}{σ : _L.St}{H:Hp}{s:Ag}
theorem Inv.laidL {L:Aa (Af × HO)}{t':Ai}(I:Inv X pins σ H s)(k:∀ b u,s.heap.get? b=Ab u->h'.get? b=Ab u)(hp:∀ p∈L,s.heap.objs.size<=p.1)(new:∀ p∈L,zC X.prog X.w (jT H L) h' p.1 p.2) :
  Inv X pins σ (jT H L) { s with heap:=h',toks:=t' }:=by
 have Y:∀ b u,H b=Ab u->jT H L b=Ab u:=λb u e=>by
  rw[lB (L:=L)]
  .exact e
  .intro hb
   obtain⟨p,J,rfl⟩:=Ci.mp hb;rw[I.hok.fresh (hp p J)] at e;cases e
 have G:∀ b,b<s.heap.objs.size->jT H L b=H b:=λb hb=>lB λU=>by
  obtain⟨p,J,rfl⟩:=Ci.mp U;exact absurd (Bd hb (hp p J)) (Ej _)
 refine I.un ⟨λb u q _ _ _=>k b u q,λb u q _ _ _=>⟨u.slots,k b u q⟩,λb u q n _=>by rw[G b (Ba q)];exact n,λb u q _=>⟨u,k b u q⟩,λb xs q=>Y b _ q,λb o xs q=>Y b _ q,λb O q=>⟨#[],by rw[Y b _ q];simp⟩⟩ λb u e=>?_
 rcases cB e with U|hb
 .exact new (b,u) U
 .exact(I.hok b u hb).stay (λc v _ q=>k c v q) (λc q=>Y c _ q) λc xs q=>Y c _ q
end
noncomputable def kD:Key->D
 |.inl i=>.int i
 |.inr x=>.str x
theorem LJ {K:Aj}{P:Hp}{α:Aa Af}(k:Key):Rep K P α (kD k) (kV k):=by
 cases k <;> simp only[kD,kV,Rep]
theorem CA {k:Key}{u:Ac}(h:gA k u=true):qK (kV k) u:=by
 rcases zU h with⟨i,t,rfl,rfl⟩|⟨x,t,rfl,rfl⟩
 .exact⟨t,rfl⟩
 .exact⟨t,rfl⟩
theorem XD {κ:Type}:∀ {vs:Aa (κ × V)} {us:Aa (κ × Ac)},KV vs us->∀ {j:Ai} {q:κ × V},vs[j]? = Ab q->∃ u,us[j]? = Ab (q.1,u)/\qK q.2 u
 |_,_,.nil,j,q,h=>by simp at h
 |_,_,.cons (a:=x) (b:=y) z t,j,q,h=>by
  cases j with
  |zero =>
   simp at h;subst h;exact⟨y.2,by simp;exact Lq z.1.symm rfl,z.2⟩
  |succ j =>
   obtain⟨u,Y,J⟩:=XD t (j:=j) (q:=q) (by simpa using h)
   exact⟨u,by simpa using Y,J⟩
section
variable {X:Cx}{cm:As}{k:Ai}
theorem ES (Y:X.calm=true):ZCall X (.builtin "max") dW:=⟨GM Y⟩
end
end _D
namespace _S
open PySem
variable {mask:Ai}{xs:Ay Ai}
def Rs (xs:Ay Ai):Prop:=xs.toList.Pairwise (· < ·)
theorem Rs.lt (h:Rs xs){a b:Ai}{x y:Ai}(Q:a<b)(J:xs[a]? = Ab x)(Y:xs[b]? = Ab y):x<y:=by
 obtain⟨U,G⟩:=Dy.mp J;obtain⟨N,O⟩:=Dy.mp Y;have:=Jt.mp h a b (by simpa using U) (by simpa using N) Q
 rw[<- G,<- O];simpa using this
theorem getD_some {i x d:Ai}(h:xs[i]? = Ab x):xs.getD i d=x:=by
 obtain⟨Q,Y⟩:=Dy.mp h;simp[Gv,Q,Y]
structure Bel (xs:Ay Ai)(j p:Ai):Prop where
 le:p<=xs.size
 lo:∀ i x,i<p->xs[i]? = Ab x->x<j
 hi:∀ i x,p<=i->xs[i]? = Ab x->j<=x
set_option tactic.hygienic true in
theorem fF (h:Rs xs)(j:Ai):∀ (fuel lo hi:Ai),hi-lo<=fuel->lo<=hi->hi<=xs.size ->
  (∀ i x,i<lo->xs[i]? = Ab x->x<j)->(∀ i x,hi<=i->xs[i]? = Ab x->j<=x)->Bel xs j (Zt xs j fuel lo hi)
 |0,lo,hi,L,B,U,J,G=>by
  have:lo=hi:=by lia
  subst this;exact⟨U,J,G⟩
 |fuel+1,lo,hi,L,B,U,J,G=>by
  unfold Zt;by_cases Y:lo<hi
  .rw[Be Y]
   have C:(lo+hi)/2<xs.size:=by lia
   have e:xs[(lo+hi)/2]? = Ab xs[(lo+hi)/2]:=Eb C;simp only[getD_some e]
   split
   .rename_i O
    refine fF h j fuel _ hi (by lia) (by lia) U (λi x N Q=>?_) G
    by_cases q:i=(lo+hi)/2
    .subst q;rw[e] at Q;cases Q;exact O
    .exact Iq (h.lt (by lia) Q e) O
   .rename_i O
    refine fF h j fuel lo _ (by lia) (by lia) (by lia) J (λi x N Q=>?_)
    by_cases q:i=(lo+hi)/2
    .subst q;rw[e] at Q;cases Q;lia
    .have:=h.lt (show (lo+hi)/2<i by lia) e Q
     lia
  .rw[Bg Y]
   have:lo=hi:=by lia
   subst this;exact⟨U,J,G⟩
theorem uL (h:Rs xs)(j:Ai):Bel xs j (Cj xs j):=
 fF h j _ _ _ (by lia) (by lia) (Av _) (λi x Y=>by lia) λi x Y Q=>by
  have:=(Dy.mp Q).1
  lia
theorem fE (h:Rs xs){i j:Ai}(e:xs[i]? = Ab j):Cj xs j=i:=by
 have b:=uL h j;have U:=(Dy.mp e).1;by_cases J:Cj xs j<i
 .have Q:xs[Cj xs j]? = Ab xs[Cj xs j]:=Eb (by lia)
  have:=h.lt J Q e;have:=b.hi _ _ (Av _) Q
  lia
 .by_cases Y:i<Cj xs j
  .have:=b.lo _ _ Y e
   lia
  .lia
theorem oG (h:Rs xs){i j:Ai}(e:xs[i]? = Ab j):Cj xs (j+1)=i+1:=by
 have b:=uL h (j+1);have G:=(Dy.mp e).1;have U:i<Cj xs (j+1):=by
  apply Fx;intro q;have:=b.hi _ _ (by lia) e
  lia
 by_cases Y:i+1<Cj xs (j+1)
 .have J:i+1<xs.size:=by have:=b.le;lia
  have Q:xs[i+1]? = Ab xs[i+1]:=Eb J;have:=b.lo _ _ Y Q;have:=h.lt (Jb i) e Q
  lia
 .lia
theorem oH (h:Rs xs):Cj xs 0=0:=by
 have b:=uL h 0;apply Fx;intro q;have Y:0<xs.size:=by have:=b.le;lia
 have Q:xs[0]? = Ab xs[0]:=Eb Y;have:=b.lo _ _ (by lia) Q
 lia
structure Tb (t:Fy):Prop where
 rs:Rs t.place
 dm:t.dummies=#[]
theorem aP (j:Ai):Yx #[] j=false:=by simp[Yx]
theorem d8 {t:Fy}(T:Tb t){i j:Ai}(e:t.place[i]? = Ab j):t.slot j=.live i:=by
 unfold AaZ;simp only[fE T.rs e,e];simp
theorem QM {t:Fy}(T:Tb t)(j:Ai):(∃ i,t.slot j=.live i/\t.place[i]? = Ab j)\/(t.slot j=.empty/\j ∉ t.place.toList):=by
 by_cases h:j∈t.place.toList
 .obtain⟨i,J,e⟩:=Cz.mp h
  have Q:t.place[i]? = Ab j:=by rw[<- Bk,Ap J,e]
  exact .inl ⟨i,d8 T Q,Q⟩
 .refine .inr ⟨?_,h⟩
  unfold AaZ;simp only[T.dm,aP];rw[Bg,Bg (by simp)]
  intro q;apply h;have:t.place[Cj t.place j]? = Ab j:=by simpa using q
  obtain⟨U,Y⟩:=Dy.mp this;rw[<- Y];simp
theorem WV (h:Rs xs){j:Ai}(O:j ∉ xs.toList):Rs (Cc xs (Cj xs j) j):=by
 have b:=uL h j;unfold Rs;rw[Th];have Y:∀ (i:Ai) (x:Ai),xs.toList[i]? = Ab x->(i<Cj xs j->x<j)/\(Cj xs j<=i->j<x):=λi x e=>by
  have G:xs[i]? = Ab x:=by rw[<- Bk];exact e
  refine⟨λq=>b.lo _ _ q G,λq=>?_⟩;have C:=b.hi _ _ q G;have:x≠j:=by
   rintro rfl;exact O (Bq e)
  lia
 have U:∀ x∈xs.toList.take (Cj xs j),x<j:=λx Q=>by
  obtain⟨i,J,e⟩:=Cz.mp Q;rw[Ez] at J;rw[So] at e;exact(Y i x (by rw[Ap (by lia),e])).1 (by lia)
 have N:∀ x∈xs.toList.drop (Cj xs j),j<x:=λx Q=>by
  obtain⟨i,J,e⟩:=Cz.mp Q;rw[Hx] at J;rw[Sr] at e;exact(Y (Cj xs j+i) x (by rw[Ap (by lia),e])).2 (by lia)
 rw[Ef,Eu];refine⟨List.Pairwise.take h,⟨N,List.Pairwise.drop h⟩,λx Q y hy=>?_⟩;rcases Az.mp hy with rfl|hy
 .exact U x Q
 .exact Iq (U x Q) (N y hy)
theorem mM {α:Type}(xs:Ay α){p:Ai}(hp:p<=xs.size)(x:α)(i:Ai):(Cc xs p x)[i]? = if i<p then xs[i]? else if i=p then Ab x else xs[i-1]?:=by
 rw[<- Bk,Th];have U:(xs.toList.take p).length=p:=by simp;lia
 by_cases Q:i<p
 .rw[Be Q,Bi (by lia),Mr Q,Bk]
 .rw[Bg Q,Cw (by lia),U]
  by_cases Y:i=p
  .subst Y;simp
  .rw[Bg Y]
   obtain⟨k,J⟩:∃ k,i-p=k+1:=⟨i-p-1,by lia⟩
   rw[J,Ug,Yl,Bk]
   congr 1;lia
theorem vP {α:Type}(xs:Ay α)(p:Ai)(x:α):(Cc xs p x).size=xs.size+1:=by
 have:=(Jc xs p x).length_eq;simpa using this
theorem RA {t:Fy}(T:Tb t){j:Ai}(Q:j ∉ t.place.toList):Tb (t.put j).1:=by
 refine⟨WV T.rs Q,?_⟩;show (if Yx t.dummies j then _ else t.dummies)=#[]
 rw[T.dm,aP];rfl
open PySem.SetTable (Probe leap runEnd turns bits)
noncomputable def adv (mask:Ai)(p:Nt):Nt:=if p.more>0 then { p with j:=p.j+1,more:=p.more-1 } else { p with j:=(leap mask p.i p.perturb).1,more:=Ht mask (leap mask p.i p.perturb).1-(leap mask p.i p.perturb).1,i:=(leap mask p.i p.perturb).1,perturb:=(leap mask p.i p.perturb).2 }
theorem T6 (t:Fy)(p:Nt):t.advance p=adv t.mask p:=rfl
noncomputable def it (mask:Ai):Ai->Nt->Nt
 |0,p=>p
 |n+1,p=>it mask n (adv mask p)
theorem bB (mask:Ai):∀ (n:Ai) (p:Nt),it mask (n+1) p=adv mask (it mask n p)
 |0,p=>rfl
 |n+1,p=>bB mask n (adv mask p)
theorem mQ (mask:Ai):∀ (m n:Ai) (p:Nt),it mask (m+n) p=it mask n (it mask m p)
 |0,n,p=>by rw[Hi];rfl
 |m+1,n,p=>by rw[Rj];exact mQ mask m n (adv mask p)
noncomputable def rs (mask i Q:Ai):Nt:={ j:=i,more:=Ht mask i-i,i,perturb:=Q,dummy:=none }
noncomputable def st (mask:Ai)(h:Ak):Nt:=rs mask (bits h % (mask+1)) (bits h)
theorem AV (t:Fy)(h:Ak):t.probeStart h=st t.mask h:=rfl
theorem pL (mask i Q:Ai):∀ k,k<=Ht mask i-i->it mask k (rs mask i Q)={ j:=i+k,more:=Ht mask i-i-k,i,perturb:=Q,dummy:=none }
 |0,_=>rfl
 |k+1,Y=>by
  rw[bB,pL mask i Q k (by lia)]
  unfold adv;rw[Be (by show Ht mask i-i-k>0;lia)]
  simp only[Probe.mk.injEq,and_true,true_and]
  lia
theorem aW (mask i Q:Ai):it mask (Ht mask i-i+1) (rs mask i Q)=rs mask (leap mask i Q).1 (leap mask i Q).2:=by
 rw[bB,pL mask i Q _ (Av _)];unfold adv;rw[Bg (by show ¬ (Ht mask i-i-(Ht mask i-i)>0);lia)]
 rfl
theorem RY (mask i:Ai):Ht mask i-i+1<=10:=by
 unfold Ht
 split <;> lia
noncomputable def lp (mask:Ai):Ai->Ai × Ai->Ai × Ai
 |0,q=>q
 |n+1,q=>lp mask n (leap mask q.1 q.2)
theorem XM (mask:Ai):∀ (m n:Ai) (q:Ai × Ai),lp mask (m+n) q=lp mask n (lp mask m q)
 |0,n,p=>by rw[Hi];rfl
 |m+1,n,p=>by rw[Rj];exact XM mask m n _
theorem KA (mask:Ai):∀ (n i Q:Ai),∃ k,k<=10*n/\it mask k (rs mask i Q)=rs mask (lp mask n (i,Q)).1 (lp mask n (i,Q)).2
 |0,i,Q=>⟨0,by lia,rfl⟩
 |n+1,i,Q=>by
  obtain⟨k,Y,e⟩:=KA mask n (leap mask i Q).1 (leap mask i Q).2;refine⟨(Ht mask i-i+1)+k,by have:=RY mask i;lia,?_⟩
  rw[mQ,aW,e];rfl
theorem iA (mask:Ai):∀ (n i Q:Ai),(lp mask n (i,Q)).2=Q/32 ^ n
 |0,i,Q=>by simp[lp]
 |n+1,i,Q=>by
  show (lp mask n ((leap mask i Q).1,Q/32)).2=_;rw[iA mask n _ (Q/32),Nat.div_div_eq_div_mul,<- Nat.pow_succ']
theorem nK (mask i Q:Ai):(leap mask i Q).1<=mask:=Ld (Ql _ (Qc _))
theorem KE (mask:Ai):∀ (n i Q:Ai),i<=mask->(lp mask n (i,Q)).1<=mask
 |0,i,Q,h=>h
 |n+1,i,Q,h=>KE mask n _ _ (nK mask i Q)
theorem cX (h:Ak):bits h<2 ^ 64:=by
 unfold bits;have Y:(0:Ak)<=h % 2 ^ 64:=Kv _ (by decide)
 have Q:h % 2 ^ 64<(2 ^ 64:Ak):=Ji _ (by decide)
 lia
noncomputable def cyc (mask:Ai):Ai->Ai->Ai
 |0,i=>i
 |n+1,i=>cyc mask n ((i*5+1) % (mask+1))
theorem pZ (mask:Ai):∀ (m n i:Ai),cyc mask (m+n) i=cyc mask n (cyc mask m i)
 |0,n,p=>by rw[Hi];rfl
 |m+1,n,p=>by rw[Rj];exact pZ mask m n _
theorem XN (mask:Ai):∀ (n i:Ai),(lp mask n (i,0)).1=cyc mask n i
 |0,i=>rfl
 |n+1,i=>by
  show (lp mask n (leap mask i 0)).1=_;have:leap mask i 0=((i*5+1) % (mask+1),0):=by simp[leap]
  rw[this,XN mask n];rfl
def Msk (mask:Ai):Prop:=mask=7\/mask=31\/mask=127\/mask=511\/mask=2047
noncomputable def orb (mask:Ai):Ai->Ai->Ai->Ai
 |0,_,Q=>Q
 |n+1,i,Q=>orb mask n ((i*5+1) % (mask+1)) (Q ||| 1 <<< i)
noncomputable def ZO (mask:Ai):As:=orb mask (mask+1) 0 0 == 2 ^ (mask+1)-1&&cyc mask (mask+1) 0 == 0
theorem ZP (h:Msk mask):ZO mask=true:=by
 rcases h with rfl|rfl|rfl|rfl|rfl <;> decide +kernel
theorem iE (mask e:Ai):∀ (n i acc:Ai),(orb mask n i acc).testBit e=true->acc.testBit e=true\/∃ m,m<n/\cyc mask m i=e
 |0,i,acc,h=>.inl h
 |n+1,i,acc,h=>by
  rcases iE mask e n _ _ h with q|⟨m,Q,q⟩
  .rw[Nat.testBit_or,Ml] at q
   rcases q with q|q
   .exact .inl q
   .rw[Nat.one_shiftLeft,Nat.testBit_two_pow,Ch] at q
    exact .inr ⟨0,by lia,q⟩
  .exact .inr ⟨m+1,by lia,q⟩
theorem YR (h:Msk mask){i e:Ai}(hi:i<=mask)(J:e<=mask):∃ n,n<=mask/\cyc mask n i=e:=by
 have a:=ZP h;unfold ZO at a;rw[Ax] at a;obtain⟨Q,U⟩:=a;have Q:orb mask (mask+1) 0 0=2 ^ (mask+1)-1:=by simpa using Q
 have g:∀ e,e<=mask->∃ n,n<=mask/\cyc mask n 0=e:=λe J=>by
  have q:(orb mask (mask+1) 0 0).testBit e=true:=by rw[Q,Nat.testBit_two_pow_sub_one];simp;lia
  rcases iE mask e _ _ _ q with q|⟨n,G,q⟩
  .simp at q
  .exact⟨n,by lia,q⟩
 have N:cyc mask (mask+1) 0=0:=by simpa using U
 obtain⟨m,O,em⟩:=g i hi;obtain⟨n,G,Y⟩:=g e J;by_cases q:m<=n
 .refine⟨n-m,by lia,?_⟩
  rw[<- em,<- pZ,show m+(n-m)=n by lia]
  exact Y
 .refine⟨n+(mask+1)-m,by lia,?_⟩
  rw[<- em,<- pZ,show m+(n+(mask+1)-m)=(mask+1)+n by lia,pZ,N]
  exact Y
theorem eB (h:Msk mask){i Q e:Ai}(hi:i<=mask)(hp:Q<2 ^ 64)(J:e<=mask):∃ n,n<=mask+13/\(lp mask n (i,Q)).1=e:=by
 have Y:(lp mask 13 (i,Q)).2=0:=by
  rw[iA];apply Nat.div_eq_of_lt;exact Iq hp (by decide)
 obtain⟨n,U,q⟩:=YR h (KE mask 13 i Q hi) J;refine⟨13+n,by lia,?_⟩
 rw[XM];have:lp mask 13 (i,Q)=((lp mask 13 (i,Q)).1,0):=by rw[<- Y]
 rw[this,XN];exact q
theorem rX (h:Msk mask)(hs:Ak){e:Ai}(Y:e<=mask):∃ n,n<10*turns mask/\(it mask n (st mask hs)).j=e:=by
 obtain⟨n,J,q⟩:=eB h (i:=bits hs % (mask+1)) (Ld (Ql _ (Qc _))) (cX hs) Y;obtain⟨k,U,Q⟩:=KA mask n (bits hs % (mask+1)) (bits hs);refine⟨k,by unfold turns;lia,?_⟩
 show (it mask k (rs mask _ _)).j=e;rw[Q];exact q
theorem fQ (mask:Ai):∀ (n:Ai) (p:Nt),(it mask n p).dummy=p.dummy
 |0,p=>rfl
 |n+1,p=>by
  show (it mask n (adv mask p)).dummy=_;rw[fQ mask n];unfold adv
  split <;> rfl
def Way (t:Fy)(p:Nt)(n:Ai):Prop:=∀ m,m<n->(it t.mask m p).j∈t.place.toList
inductive Meets (t:Fy)(hashAt:Ai->Ak)(h:Ak)(p:Nt)(fuel:Ai):Am SetTable.Met->Prop
 |emp (n:Ai) (hn:n<fuel) (w:Way t p n) (e:(it t.mask n p).j ∉ t.place.toList) (q:∀ m i,m<n->t.place[i]? = Ab (it t.mask m p).j->hashAt i≠h):Meets t hashAt h p fuel (Ab (.empty (it t.mask n p).j none))
 |cand (n i:Ai) (hn:n<fuel) (w:Way t p n) (e:t.place[i]? = Ab (it t.mask n p).j) (hh:hashAt i=h) (q:∀ m i,m<n->t.place[i]? = Ab (it t.mask m p).j->hashAt i≠h):Meets t hashAt h p fuel (Ab (.candidate (it t.mask n p).j i (it t.mask (n+1) p)))
theorem WU (h:Rs xs){a b x:Ai}(Y:xs[a]? = Ab x)(Q:xs[b]? = Ab x):a=b:=by rw[<- fE h Y,fE h Q]
set_option tactic.hygienic true in
theorem kU {t:Fy}(T:Tb t)(hashAt:Ai->Ak)(h:Ak):∀ (fuel:Ai) (p:Nt),p.dummy=none->(∃ n,n<fuel/\(it t.mask n p).j ∉ t.place.toList)->Meets t hashAt h p fuel (Lf t hashAt h fuel p)
 |0,p,_,⟨n,u,_⟩=>by lia
 |fuel+1,p,A,⟨n,u,J⟩=>by
  unfold Lf;rcases QM T p.j with⟨i,e,G⟩|⟨e,q⟩
  .rw[e]
   simp only
   split
   .rename_i I
    exact Meets.cand 0 i (by lia) (λm Y=>by lia) G (by simpa using I) λm i Y=>by lia
   .rename_i I
    have E:hashAt i≠h:=by simpa using I
    have o:n≠0:=by
     rintro rfl;exact J (Bq (by rw[Bk];exact G))
    obtain⟨L,rfl⟩:∃ L,n=L+1:=⟨n-1,by lia⟩
    have H:=kU T hashAt h fuel (adv t.mask p) (by rw[<- A];exact fQ t.mask 1 p) ⟨L,by lia,J⟩
    rw[T6];have Q:p.j∈t.place.toList:=Bq (by rw[Bk];exact G)
    have up:∀ {k:Ai},Way t (adv t.mask p) k->Way t p (k+1):=λ{k} w m Y=>by
     cases m with
     |zero=>exact Q
     |succ m=>exact w m (by lia)
    have U:∀ {k:Ai},(∀ m i,m<k->t.place[i]? = Ab (it t.mask m (adv t.mask p)).j->hashAt i≠h)->∀ m i,m<k+1->t.place[i]? = Ab (it t.mask m p).j->hashAt i≠h:=λ{k} q m B Y M=>by
     cases m with
     |zero=>rw[WU T.rs M G];exact E
     |succ m=>exact q m B (by lia) M
    generalize g:Lf t hashAt h fuel (adv t.mask p)=r at H;cases H with
    |emp k y w N C=>exact Meets.emp (p:=p) (k+1) (by lia) (up w) N (U C)
    |cand k B y w N O C=>exact Meets.cand (p:=p) (k+1) B (by lia) (up w) N O (U C)
  .rw[e]
   simp only[A];exact Meets.emp (p:=p) 0 (by lia) (λm Y=>by lia) q λm i Y=>by lia
end _S
namespace _S
open PySem
open PySem.SetTable (Probe leap runEnd turns bits)
variable {us:Aa Ai}{mask:Ai}{owner:Ay (Am Ai)}
structure Own (mask:Ai)(owner:Ay (Am Ai))(us:Aa Ai):Prop where
 size:owner.size=mask+1
 nd:us.Nodup
 le:∀ u∈us,u<=mask
 at':∀ j k,j<=mask->(owner.getD j (Ab 0)=Ab k↔us[k]? = Ab j)
theorem l0 {i:Ai}(hi:i<=mask):Ht mask i<=mask:=by
 unfold Ht
 split <;> lia
theorem l5 (mask i:Ai):i<=Ht mask i:=by
 unfold Ht
 split <;> lia
theorem Own.none (O:Own mask owner us){j:Ai}(Q:j<=mask):(owner.getD j (Ab 0)).isNone=true↔j ∉ us:=by
 constructor
 .intro h J
  obtain⟨k,Y,e⟩:=Cz.mp J;have:=(O.at' j k Q).mpr (by rw[Ap Y,e])
  rw[this] at h;cases h
 .intro h
  cases q:owner.getD j (Ab 0) with
  |none=>rfl
  |some k=>exact absurd (Bq ((O.at' j k Q).mp q)) h
theorem lO (O:Own mask owner us):∀ (fuel i Q:Ai),i<=mask->(∃ L,L<fuel/\(lp mask L (i,Q)).1 ∉ us) ->
  ∃ n,Jd mask owner fuel i Q=Ab (it mask n (rs mask i Q)).j/\(it mask n (rs mask i Q)).j<=mask/\(it mask n (rs mask i Q)).j ∉ us/\∀ m,m<n->(it mask m (rs mask i Q)).j∈us
 |0,i,Q,E,⟨L,d,_⟩=>by lia
 |fuel+1,i,Q,E,⟨L,d,J⟩=>by
  unfold Jd;have o:=l0 E;have I:=l5 mask i;cases T:(Cu (Ht mask i+1-i)).find? λk=>(owner.getD (i+k) (Ab 0)).isNone with
  |some k =>
   obtain⟨p,A,H⟩:=List.find?_range_eq_some.mp T;have C:k<Ht mask i+1-i:=Du.mp A;have G:(it mask k (rs mask i Q)).j=i+k:=by rw[pL mask i Q k (by lia)]
   refine⟨k,?_,?_,?_,λm B=>?_⟩
   .rw[G]
   .rw[G];lia
   .rw[G];exact(O.none (by lia)).mp p
   .rw[pL mask i Q m (by lia)]
    have:=H m B;apply Fx;intro q;rw[(O.none (show i+m<=mask by lia)).mpr q] at this
    cases this
  |none =>
   have Y:∀ k,k<Ht mask i+1-i->i+k∈us:=λk C=>by
    have:=Ym.mp T k (Du.mpr C);apply Fx;intro q;exact this ((O.none (show i+k<=mask by lia)).mpr q)
   have y:L≠0:=by
    rintro rfl;exact J (Y 0 (by lia))
   obtain⟨U,rfl⟩:∃ U,L=U+1:=⟨L-1,by lia⟩
   obtain⟨n,M,c,u,g⟩:=lO O fuel (leap mask i Q).1 (leap mask i Q).2 (nK mask i Q) ⟨U,by lia,J⟩
   have e:∀ m,it mask (Ht mask i-i+1+m) (rs mask i Q)=it mask m (rs mask (leap mask i Q).1 (leap mask i Q).2):=λm=>by rw[mQ,aW]
   refine⟨Ht mask i-i+1+n,?_,?_,?_,λm B=>?_⟩
   .rw[e];exact M
   .rw[e];exact c
   .rw[e];exact u
   .by_cases w:m<Ht mask i-i+1
    .rw[pL mask i Q m (by lia)]
     exact Y m (by lia)
    .obtain⟨N,rfl⟩:∃ N,m=Ht mask i-i+1+N:=⟨m-(Ht mask i-i+1),by lia⟩
     rw[e];exact g N (by lia)
theorem gap (h:us.length<=mask):∃ e,e<=mask/\e ∉ us:=by
 apply Fx;intro q;have:Cu (mask+1) ⊆ us:=λe Q=>by
  apply Fx;intro r;exact q ⟨e,by have:=Du.mp Q;lia,r⟩
 have:=List.Nodup.length_le_of_subset Aa1 this;rw[Ju] at this
 lia
theorem F4 (mask:Ai):Own mask (Array.replicate (mask+1) none) []:=by
 refine⟨by simp,Nl,λu Q=>by simp at Q,λj k Y=>?_⟩
 have:j<mask+1:=by lia
 simp[Gv,this]
theorem UI (O:Own mask owner us){j:Ai}(H:j<=mask)(C:j ∉ us):Own mask (owner.setIfInBounds j (Ab us.length)) (us++[j]):=by
 refine⟨by simp[O.size],?_,λu B=>?_,λi k E=>?_⟩
 .rw[Ho]
  refine⟨O.nd,by simp,λa L b N=>?_⟩
  simp at N;rintro rfl;subst N;exact C L
 .rcases By.mp B with h|h
  .exact O.le u h
  .simp at h;lia
 .have I:=O.size
  have Y:i<owner.size:=by lia
  have T:∀ {k},us[k]? = Ab i->k<us.length:=λq=>(Aw.mp q).1;by_cases Q:j=i
  .subst Q
   have U:(owner.setIfInBounds j (Ab us.length)).getD j (Ab 0)=Ab us.length:=by simp[Gv,Y]
   rw[U];constructor
   .intro q;cases q;simp
   .intro q
    by_cases G:k<us.length
    .rw[Bi G] at q
     exact absurd (Bq q) C
    .rw[Cw (by lia)] at q
     have:k-us.length=0:=by
      cases J:k-us.length with
      |zero=>rfl
      |succ z=>rw[J] at q;simp at q
     congr 1;lia
  .have U:(owner.setIfInBounds j (Ab us.length)).getD i (Ab 0)=owner.getD i (Ab 0):=by
    simp[Gv,Y,Array.getElem_setIfInBounds,Q]
   rw[U,O.at' i k E];constructor
   .intro q;rw[Bi (T q)];exact q
   .intro q
    by_cases G:k<us.length
    .rw[Bi G] at q;exact q
    .rw[Cw (by lia)] at q
     cases J:k-us.length with
     |zero=>rw[J] at q;simp at q;exact absurd q Q
     |succ z=>rw[J] at q;simp at q
def o7 (mask:Ai)(us:Aa Ai)(hs:Aa Ak):Prop:=∀ (k:Ai) (h:Ak),hs[k]? = Ab h->∃ n,us[k]? = Ab (it mask n (st mask h)).j/\∀ m,m<n->(it mask m (st mask h)).j∈us
theorem lM (H:Msk mask):∀ (hs done:Aa Ak) (owner:Ay (Am Ai)) (us:Aa Ai),Own mask owner us->us.length=done.length->done.length+hs.length<=mask->o7 mask us done ->
  ∃ Q Y,hs.foldl (λacc h=>do
   let (owner,k) <- acc
   let j <- Jd mask owner (turns mask) (bits h % (mask+1)) (bits h)
   pure (owner.setIfInBounds j (Ab k),k+1)) (Ab (owner,us.length))=Ab (Q,Y.length)/\Own mask Q Y/\Y.length=done.length+hs.length/\o7 mask Y (done++hs)
 |[],done,owner,us,O,G,_,E=>⟨owner,us,rfl,O,by simpa using G,by simpa using E⟩
 |h::hs,done,owner,us,O,G,U,E=>by
  rw[Ca] at U;obtain⟨e,he,T⟩:=gap (mask:=mask) (us:=us) (by lia)
  obtain⟨L,f,I⟩:=eB H (i:=bits h % (mask+1)) (Ld (Ql _ (Qc _))) (cX h) he;obtain⟨n,y,c,p,g⟩:=lO O (turns mask) (bits h % (mask+1)) (bits h) (Ld (Ql _ (Qc _))) ⟨L,by unfold turns;lia,by rw[I];exact T⟩
  have o:=UI O c p;have C:o7 mask (us++[(it mask n (rs mask (bits h % (mask+1)) (bits h))).j]) (done++[h]):=λk u J=>by
   by_cases w:k<done.length
   .rw[Bi w] at J
    obtain⟨d,x,r⟩:=E k u J;exact⟨d,by rw[Bi (by lia)];exact x,λm N=>Dh _ (r m N)⟩
   .rw[Cw (by lia)] at J
    cases B:k-done.length with
    |succ z=>rw[B] at J;simp at J
    |zero =>
     rw[B] at J;simp at J;subst J;refine⟨n,?_,λm N=>Dh _ (g m N)⟩;rw[Cw (by lia),G,B]
     rfl
  obtain⟨Q,Y,A,M,q,s⟩:=lM H hs (done++[h]) _ _ o (by simp[G]) (by simp;lia) C
  refine⟨Q,Y,?_,M,by simpa [Nat.add_assoc,Ub 1] using q,by simpa using s⟩
  rw[Ks];rw[Cf] at A;have v:(do
   let (owner,k) <- Ab (owner,us.length)
   let j <- Jd mask owner (turns mask) (bits h % (mask+1)) (bits h)
   pure (owner.setIfInBounds j (Ab k),k+1))=Ab (owner.setIfInBounds (it mask n (rs mask (bits h % (mask+1)) (bits h))).j (Ab us.length),us.length+1):=by
   show (Jd mask owner (turns mask) (bits h % (mask+1)) (bits h)).bind _=_;rw[y];rfl
  rw[v];exact A
theorem dH (G:Msk mask)(hs:Ay Ak)(Y:hs.size<=mask):∃ owner us,Zu mask hs=Ab owner/\Own mask owner us/\us.length=hs.size/\o7 mask us hs.toList:=by
 obtain⟨Q,J,U,C,N,O⟩:=lM G hs.toList [] _ [] (F4 mask) rfl (by simpa using Y) (λk h e=>by simp at e)
 refine⟨Q,J,?_,C,by simpa using N,by simpa using O⟩
 unfold Zu;rw[<- Array.foldl_toList];have:(([]:Aa Ai).length)=0:=rfl;rw[this] at U
 erw [U]
 rfl
structure Laid (mask:Ai)(hs:Ay Ak)(t:Fy)(qR:Ay Ai):Prop where
 msk:t.mask=mask
 tb:Tb t
 size:t.place.size=hs.size
 le:∀ x∈t.place.toList,x<=mask
 perm:qR.toList.Perm (Cu hs.size)
 way:∀ (i k:Ai) (h:Ak),qR[i]? = Ab k->hs[k]? = Ab h->∃ n,t.place[i]? = Ab (it mask n (st mask h)).j/\Way t (st mask h) n
theorem XE (hM:Msk mask)(hs:Ay Ak)(B:hs.size<=mask)(finger moves:Ai)(led plain:As) :
  ∃ t qR,Xo mask finger moves led plain hs=Ab (t,qR)/\t.led=led/\t.plain=plain/\Laid mask hs t qR:=by
 obtain⟨owner,us,e,O,hl,hL⟩:=dH hM hs B;have u:∀ j,j<=mask->owner.getD j none=owner.getD j (Ab 0):=λj A=>by
  have:j<owner.size:=by rw[O.size];lia
  simp[Gv,this]
 generalize G:((Cu (mask+1)).filterMap λj=>(owner.getD j none).map (j,·))=live
 have mem:∀ (j k:Ai),(j,k)∈live↔us[k]? = Ab j:=λj k=>by
  rw[<- G,Gz];constructor
  .rintro⟨L,H,q⟩
   have U:L<=mask:=by have:=Du.mp H;lia
   rw[u L U] at q;cases Y:owner.getD L (Ab 0) with
   |none=>rw[Y] at q;cases q
   |some y =>
    rw[Y] at q;simp at q;obtain⟨rfl,rfl⟩:=q;exact(O.at' _ _ U).mp Y
  .intro q
   have A:j<=mask:=O.le j (Bq q);refine⟨j,Du.mpr (by lia),?_⟩
   rw[u j A,(O.at' j k A).mpr q];rfl
 have C:live.map (·.1)=(Cu (mask+1)).filter λj=>(owner.getD j none).isSome:=by
  rw[<- G,List.map_filterMap];generalize owner.getD=f
  induction Cu (mask+1) with
  |nil=>rfl
  |cons a l w =>
   rw[Gp,Tz];cases Y:f a none with
   |none=>simpa using w
   |some k=>simpa using w
 have o:(live.map (·.1)).Pairwise (· < ·):=by
  rw[C];exact List.Pairwise.filter _ List.pairwise_lt_range
 have T:(live.map (·.2)).Nodup:=by
  unfold Qm;rw[Ep];have N:=Ep.mp o;refine Ti (λ{a b} d c za=>?_) N;intro q;have ea:=(mem a.1 a.2).mp d;have eb:=(mem b.1 b.2).mp c;rw[<- q,ea] at eb;simp at eb
  lia
 have p:(live.map (·.2)).Perm (Cu hs.size):=by
  rw[List.perm_ext_iff_of_nodup T Aa1];intro k;rw[Ci,Du,<- hl];constructor
  .rintro⟨⟨j,y⟩,N,rfl⟩
   exact(Aw.mp ((mem j y).mp N)).1
  .intro E
   exact⟨(us[k],k),(mem _ _).mpr (Ap E),rfl⟩
 have J:∀ j,j∈live.map (·.1)↔j∈us:=λj=>by
  rw[Ci];constructor
  .rintro⟨⟨L,k⟩,N,rfl⟩
   exact Bq ((mem _ _).mp N)
  .intro N
   obtain⟨k,E,e⟩:=Cz.mp N;exact⟨(j,k),(mem _ _).mpr (by rw[Ap E,e]),rfl⟩
 refine⟨{ mask,place:=(live.map (·.1)).toArray,dummies:=#[],finger,led,moves,plain },(live.map (·.2)).toArray,?_,rfl,rfl,rfl,⟨?_,rfl⟩,?_,λx v=>?_,?_,λi k h r e2=>?_⟩
 .unfold Xo
  rw[e,<- G];rfl
 .exact o
 .have:=p.length_eq
  simp at this ⊢;exact this
 .exact O.le x ((J x).mp v)
 .exact p
 .have Q:(live.map (·.2))[i]? = Ab k:=by simpa using r
  rw[Dn] at Q;cases Y:live[i]? with
  |none=>rw[Y] at Q;cases Q
  |some g =>
   rw[Y] at Q;simp at Q;have M:=Bq Y;have hu:=(mem g.1 g.2).mp M;obtain⟨n,I,s⟩:=hL k h (by rw[Bk];exact e2)
   rw[<- Q] at I;rw[hu] at I;refine⟨n,?_,λm hm=>?_⟩
   .rw[<- I]
    simp[Y]
   .have:=(J _).mpr (s m hm)
    simpa using this
theorem M4 {t:Fy}{hs:Ay Ak}{w:Ai}:SetTable.relaid t hs w=Xo (Fe w-1) t.finger (t.movedTo (Fe w-1)) t.led t.plain hs:=rfl
end _S
namespace _S
open PySem
open PySem.SetTable (Probe leap runEnd turns bits)
structure Set0 {K:Type}(is:K->Ac->Prop)(hash:K->Ak)(es:Ay (Ak × Ac))(seen:Aa K):Prop where
 good:∀ e∈es.toList,∃ k,e.1=hash k/\is k e.2
 nd:es.toList.Pairwise λa b=>∀ k,is k a.2->¬ is k b.2
 mem:∀ k,k∈seen↔∃ e∈es.toList,is k e.2
section
variable {K:Type}{is:K->Ac->Prop}{hash:K->Ak}{es es':Ay (Ak × Ac)}{seen seen':Aa K}
theorem Set0.perm (Z:Set0 is hash es seen)(p:es'.toList.Perm es.toList):Set0 is hash es' seen:=
 ⟨λe Q=>Z.good e (p.mem_iff.mp Q),(p.pairwise_iff λ{x y} h k J Y=>h k Y J).mpr Z.nd,λk=>(Z.mem k).trans ⟨λ⟨e,Q,q⟩=>⟨e,p.mem_iff.mpr Q,q⟩,λ⟨e,Q,q⟩=>⟨e,p.mem_iff.mp Q,q⟩⟩⟩
theorem Set0.nil:Set0 is hash #[] []:=⟨λe Q=>by simp at Q,by simp,λk=>by simp⟩
theorem Set0.push (Z:Set0 is hash es seen)(inj:∀ {k Q:K} {v:Ac},is k v->is Q v->k=Q){k:K}{x:Ac}(Y:is k x)(N:k ∉ seen)(p:es'.toList.Perm (es.toList++[(hash k,x)])):Set0 is hash es' (k::seen):=by
 refine Set0.perm (es:=es.push (hash k,x)) ⟨λe he=>?_,?_,λQ=>?_⟩ (by simpa using p)
 .rw[Er] at he
  rcases By.mp he with he|he
  .exact Z.good e he
  .simp at he;subst he;exact⟨k,rfl,Y⟩
 .rw[Er,Ef]
  refine⟨Z.nd,by simp,λa U b J Q O G=>?_⟩
  simp at J;subst J;have:=inj Y G;subst this;exact N ((Z.mem k).mpr ⟨a,U,O⟩)
 .rw[Az,Z.mem,Er]
  constructor
  .rintro (rfl|⟨e,he,q⟩)
   .exact⟨(hash Q,x),by simp,Y⟩
   .exact⟨e,Dh _ he,q⟩
  .rintro⟨e,he,q⟩
   rcases By.mp he with he|he
   .exact .inr ⟨e,he,q⟩
   .simp at he;subst he;exact .inl (inj q Y)
theorem Set0.again (Z:Set0 is hash es seen){k:K}(Q:k∈seen):Set0 is hash es (k::seen):=
 ⟨Z.good,Z.nd,λY=>by rw[Az,Z.mem];exact⟨λh=>h.elim (λe=>by subst e;exact(Z.mem _).mp Q) id,.inr⟩⟩
end
section
open Classical in
theorem fS {K:Type}{is:K->Ac->Prop}:∀ (L:Aa (Ak × Ac)) (U:Aa K),L.Pairwise (λa b=>∀ k,is k a.2->¬ is k b.2)->(∀ e∈L,∃ k∈U,is k e.2)->L.length<=U.length
 |[],U,_,_=>Hk _
 |e::L,U,J,h=>by
  rw[Eu] at J;obtain⟨G,Q,C⟩:=h e (by simp)
  have O:=fS L (U.erase G) J.2 λN Y=>by
   obtain⟨k,B,q⟩:=h N (by simp[Y])
   have:k≠G:=λz=>J.1 N Y G C (z▸q);exact⟨k,(Ww this).mpr B,q⟩
  rw[Mu Q] at O;have:0<U.length:=Ob Q;rw[Ca]
  lia
open Classical in
theorem Set0.few {K:Type}{is:K->Ac->Prop}{Y:K->Ak}{es:Ay (Ak × Ac)}{seen U:Aa K}{k:K}(Z:Set0 is Y es seen)(O:∀ Q∈seen,Q∈U)(G:k∈U)(C:k ∉ seen):es.size<U.length:=by
 have:=fS es.toList (U.erase k) Z.nd λe N=>by
  obtain⟨Q,_,q⟩:=Z.good e N;have hs:=(Z.mem Q).mpr ⟨e,N,q⟩;have J:Q≠k:=λz=>C (z▸hs);exact⟨Q,(Ww J).mpr (O Q hs),q⟩
 rw[Mu G,Bl] at this;have:0<U.length:=Ob G
 lia
end
structure TabT (t:Fy)(es:Ay (Ak × Ac)):Prop where
 tb:Tb t
 msk:Msk t.mask
 size:t.place.size=es.size
 le:∀ x∈t.place.toList,x<=t.mask
 few:es.size*5<t.mask*3
 way:∀ (i:Ai) (e:Ak × Ac),es[i]? = Ab e->∃ n,t.place[i]? = Ab (it t.mask n (st t.mask e.1)).j/\Way t (st t.mask e.1) n
 plain:t.plain=true
theorem TabT.fits {t:Fy}{es:Ay (Ak × Ac)}(T:TabT t es):t.fits es.size=true:=by
 have Q:=T.size;have Y:=T.few;have J:t.fill=es.size:=by unfold Mc;rw[T.tb.dm,Q];rfl
 unfold Xp;rw[J,Q];rcases T.msk with h|h|h|h|h <;> rw[h] at Y ⊢ <;> simp <;> lia
theorem TabT.gap {t:Fy}{es:Ay (Ak × Ac)}(T:TabT t es):∃ e,e<=t.mask/\e ∉ t.place.toList:=by
 apply _S.gap;rw[Bl,T.size];have Q:=T.few;rcases T.msk with h|h|h|h|h <;> rw[h] at Q ⊢ <;> lia
theorem TabT.odd {t:Fy}{es:Ay (Ak × Ac)}(T:TabT t es):t.gaveWay=false:=by
 unfold SetTable.gaveWay;rcases T.msk with h|h|h|h|h <;> rw[h] <;> rfl
theorem TabT.put {t:Fy}{es:Ay (Ak × Ac)}(T:TabT t es){h:Ak}{x:Ac}{n:Ai}(w:Way t (st t.mask h) n)(L:(it t.mask n (st t.mask h)).j ∉ t.place.toList)(Y:(it t.mask n (st t.mask h)).j<=t.mask) :
  let es':=Cc es (t.put (it t.mask n (st t.mask h)).j).2 (h,x)
  Tb (t.put (it t.mask n (st t.mask h)).j).1/\(t.put (it t.mask n (st t.mask h)).j).1.place.size=es'.size/\(∀ y∈(t.put (it t.mask n (st t.mask h)).j).1.place.toList,y<=t.mask) /\
  (∀ (i:Ai) (e:Ak × Ac),es'[i]? = Ab e->∃ m,(t.put (it t.mask n (st t.mask h)).j).1.place[i]? = Ab (it t.mask m (st t.mask e.1)).j/\Way (t.put (it t.mask n (st t.mask h)).j).1 (st t.mask e.1) m):=by
 generalize I:(it t.mask n (st t.mask h)).j=j at *;have O:∀ y,y∈(t.put j).1.place.toList↔y=j\/y∈t.place.toList:=λy=>by
  show y∈(Cc t.place (Cj t.place j) j).toList↔_;rw[(Jc _ _ _).mem_iff];simp[or_comm]
 have N:Cj t.place j<=t.place.size:=(uL T.tb.rs j).le;have U:∀ {p:Nt} {m:Ai},Way t p m->Way (t.put j).1 p m:=λ{p m} w q E=>(O _).mpr (.inr (w q E));refine⟨RA T.tb L,?_,λy hy=>?_,λi e H=>?_⟩
 .show (Cc t.place _ j).size=(Cc es _ (h,x)).size
  rw[vP,vP,T.size]
 .rcases (O y).mp hy with rfl|hy
  .exact Y
  .exact T.le y hy
 .have Q:(if i<Cj t.place j then es[i]? else if i=Cj t.place j then Ab (h,x) else es[i-1]?)=Ab e:=by
   rw[<- mM es (by rw[<- T.size];exact N)]
   exact H
  have pl:(t.put j).1.place[i]? = if i<Cj t.place j then t.place[i]? else if i=Cj t.place j then Ab j else t.place[i-1]?:=mM t.place N j i
  rw[pl];by_cases B:i<Cj t.place j
  .rw[Be B] at Q ⊢
   obtain⟨m,J,G⟩:=T.way i e Q;exact⟨m,J,U G⟩
  .rw[Bg B] at Q ⊢
   by_cases C:i=Cj t.place j
   .rw[Be C] at Q ⊢
    cases Q;exact⟨n,by rw[I],U w⟩
   .rw[Bg C] at Q ⊢
    obtain⟨m,J,G⟩:=T.way _ e Q;exact⟨m,J,U G⟩
theorem K9 {mask:Ai}(p:Nt)(hp:p.j+p.more<=mask):∀ n,(it mask n p).j+(it mask n p).more<=mask
 |0=>hp
 |n+1=>by
  rw[bB];have Y:=K9 p hp n;unfold adv
  split
  .show (it mask n p).j+1+((it mask n p).more-1)<=mask
   lia
  .show (leap mask _ _).1+(Ht mask (leap mask _ _).1-(leap mask _ _).1)<=mask
   have J:=l0 (nK mask (it mask n p).i (it mask n p).perturb);have Q:=l5 mask (leap mask (it mask n p).i (it mask n p).perturb).1
   lia
theorem KZ (mask:Ai)(h:Ak)(n:Ai):(it mask n (st mask h)).j<=mask:=by
 have Q:bits h % (mask+1)<=mask:=Ld (Ql _ (Qc _));have:=K9 (mask:=mask) (st mask h) (by
  show bits h % (mask+1)+(Ht mask (bits h % (mask+1))-bits h % (mask+1))<=mask;have J:=l0 Q;have Y:=l5 mask (bits h % (mask+1))
  lia) n
 lia
theorem bY {t:Fy}{es:Ay (Ak × Ac)}(o:Msk t.mask)(hp:t.plain=true)(h1:t.place.size=es.size)(h2:es.size<=1001)(A:t.tooFull=true)(g:t.dummies=#[])(h3:(es.size-1)*5<t.mask*3)(n:0<es.size) :
  Fe (Hn es.size)<=2048/\∃ t' qR,t.relaid (es.map (·.1)) (Hn es.size)=Ab (t',qR)/\t'.led=t.led/\(qR.filterMap (es[·]?)).toList.Perm es.toList/\TabT t' (qR.filterMap (es[·]?))/\qR.toList.Perm (Cu es.size):=by
 have N:t.fill=es.size:=by unfold Mc;rw[g,h1];rfl
 have E:t.mask*3<=es.size*5:=by
  unfold T0 at A;rw[N] at A;simpa using A
 have Q:(es.size=5/\Fe (Hn es.size)=32)\/(es.size=19/\Fe (Hn es.size)=128)\/(es.size=77/\Fe (Hn es.size)=512)\/(es.size=307/\Fe (Hn es.size)=2048):=by
  rcases o with h|h|h|h|h <;> rw[h] at E h3
  .have:es.size=5:=by lia
   exact .inl ⟨this,by rw[this];decide⟩
  .have:es.size=19:=by lia
   exact .inr (.inl ⟨this,by rw[this];decide⟩)
  .have:es.size=77:=by lia
   exact .inr (.inr (.inl ⟨this,by rw[this];decide⟩))
  .have:es.size=307:=by lia
   exact .inr (.inr (.inr ⟨this,by rw[this];decide⟩))
  .lia
 have C:Msk (Fe (Hn es.size)-1):=by
  rcases Q with⟨_,h⟩|⟨_,h⟩|⟨_,h⟩|⟨_,h⟩ <;> rw[h]
  .exact .inr (.inl rfl)
  .exact .inr (.inr (.inl rfl))
  .exact .inr (.inr (.inr (.inl rfl)))
  .exact .inr (.inr (.inr (.inr rfl)))
 have H:(es.map (·.1)).size<=Fe (Hn es.size)-1:=by
  rw[Wn];rcases Q with⟨U,h⟩|⟨U,h⟩|⟨U,h⟩|⟨U,h⟩ <;> rw[h,U] <;> lia
 obtain⟨t',qR,e,m,c,L⟩:=XE C (es.map (·.1)) H t.finger (t.movedTo (Fe (Hn es.size)-1)) t.led t.plain
 have j:qR.size=es.size:=by
  have:=L.perm.length_eq;simpa using this
 have G:∀ i k,qR[i]? = Ab k->k<es.size:=λi k q=>by
  have:k∈Cu (es.map (·.1)).size:=L.perm.mem_iff.mp (Bq (by rw[Bk];exact q))
  simpa using this
 have B:(qR.filterMap (es[·]?)).toList=qR.toList.map λk=>es.toList.getD k (0,.none):=by
  rw[Array.toList_filterMap];have:∀ l:Aa Ai,(∀ k∈l,k<es.size)->l.filterMap (es[·]?)=l.map λk=>es.toList.getD k (0,.none):=by
   intro l
   induction l with
   |nil=>intro _;rfl
   |cons a l u =>
    intro w;have M:=w a (by simp)
    rw[Gp,Ek,u λk O=>w k (by simp[O])]
    rw[Eb M];simp[M]
  refine this _ λk O=>?_;obtain⟨i,v,q⟩:=Cz.mp O;exact G i k (by rw[<- Bk,Ap v,q])
 have Y:(qR.filterMap (es[·]?)).toList.Perm es.toList:=by
  rw[B];have p:=L.perm.map λk=>es.toList.getD k (0,Dk);refine p.trans ?_;have d:(Cu (es.map (·.1)).size).map (λk=>es.toList.getD k (0,Dk))=es.toList:=by
   apply TD
   .simp
   .intro i s f
    have r:i<es.size:=by simpa using f
    simp[r]
  rw[d]
 have T:(qR.filterMap (es[·]?)).size=es.size:=by rw[<- Bl,Y.length_eq,Bl]
 have J:∀ i,(qR.filterMap (es[·]?))[i]? = (qR[i]?).map λk=>es.toList.getD k (0,.none):=λi=>by
  rw[<- Bk,B,Dn,Bk]
 refine⟨by rcases Q with⟨_,h⟩|⟨_,h⟩|⟨_,h⟩|⟨_,h⟩ <;> rw[h] <;> decide,t',qR,by rw[M4];exact e,m,Y,⟨L.tb,by rw[L.msk];exact C,by rw[L.size,T,Wn],by rw[L.msk];exact L.le,?_,λi y q=>?_,by rw[c];exact hp⟩,by have:=L.perm;rwa [Wn] at this⟩
 .rw[T,L.msk]
  rcases Q with⟨U,h⟩|⟨U,h⟩|⟨U,h⟩|⟨U,h⟩ <;> rw[h,U] <;> lia
 .rw[J] at q
  cases I:qR[i]? with
  |none=>rw[I] at q;cases q
  |some k =>
   rw[I] at q;simp only[Pu,Option.some.injEq] at q;have O:=G i k I;have:(es.map (·.1))[k]? = Ab y.1:=by
    rw[Array.getElem?_map,Eb O];rw[<- q];simp[O]
   rw[L.msk];exact L.way i k y.1 I this
end _S
namespace _S
open PySem
open PySem.SetTable (Probe leap runEnd turns bits)
variable {Q:As->Ag->Prop}
def Sup (h0 h:Bo):Prop:=∀ b o,h0.get? b=Ab o->h.get? b=Ab o
def isT (prog:Bf)(w:Bx)(h0:Bo)(ks:Aa Ak)(v:Ac):Prop:=∃ a,v=.ref a/\Qn (Bj prog w) h0 ks a
section
variable {prog:Bf}{w:Bx}{h0:Bo}
theorem isT.inj {x y:Aa Ak}{v:Ac}(Y:isT prog w h0 x v)(G:isT prog w h0 y v):x=y:=by
 obtain⟨a,rfl,J⟩:=Y;obtain⟨b,e,U⟩:=G;cases e;exact J.inj U
theorem vX {h:Bo}{ks:Aa Ak}{a:Af}(G:Sup h0 h)(J:Qn (Bj prog w) h0 ks a):Qn (Bj prog w) h ks a:=by
 obtain⟨o,Y,n,U,r⟩:=J;exact⟨o,Y,n,G _ _ U,r⟩
variable {A:Br}{E:Ac->Ag->Prop}{s:Ag}
theorem HV {k:Aa Ak}{v:Ac}{Q:Ak->Ag->Prop}(J:A.units<Fk)(U:Sup h0 s.heap)(Y:isT prog w h0 k v)(h:Q (Bu (Bj prog w) k) { s with toks:=s.toks+(k.length+1) }) : Ao (Au prog w) A (pyHash v) Q E s:=by
 obtain⟨a,rfl,Y⟩:=Y;exact wpAny_pyHash_tuple J (vX U Y) h
theorem eqT {k U:Aa Ak}{v G:Ac}(O:A.units<Fk)(N:Sup h0 s.heap)(Y:isT prog w h0 k v)(J:isT prog w h0 U G)(h:Q (decide (k=U)) s):Ao (Au prog w) A (eqBool v G) Q E s:=by
 obtain⟨a,rfl,Y⟩:=Y;obtain⟨b,rfl,J⟩:=J;exact wpAny_eqBool_tuple O (vX N Y) (vX N J) h
theorem mR:∀ {ks:Aa Ak} {vs:Aa Ac},ItemsAre (Bj prog w) ks vs->∀ v∈vs,∃ i t,v=.int i t:=by
 intro ks vs h
 induction h with
 |nil=>intro v hv;simp at hv
 |@cons k U ks vs J _ Y =>
  intro v hv;rcases Az.mp hv with rfl|hv
  .cases v <;> first|exact⟨_,_,rfl⟩|exact absurd J (by rintro⟨⟩)
  .exact Y v hv
theorem O8 {k:Aa Ak}{v:Ac}(H:Sup h0 s.heap)(G:isT prog w h0 k v)(h:Q true s):Ao (Au prog w) A (Rt 8 v) Q E s:=by
 obtain⟨a,rfl,G⟩:=G;have G:=vX H G;have B:=G.typeIs;obtain⟨o,U,n,T,_,L,I⟩:=G;unfold Rt;refine Ad (Uz B F.slot_tuple_hash.lookup ?_);show Ao _ _ (seqItems? (.ref a) >>= _) Q E s;refine Ad (Hm T L ?_);refine Ad ?_;show Ao _ _ (forIn U _ _) _ _ s;rw[<- Yn];refine On _ (λJ r O=>r.1=none/\O=s/\∀ v∈J,∃ i t,v=.int i t) _ ?_ ?_ _ _ ⟨rfl,rfl,mR I⟩
 .rintro v J r O ⟨C,rfl,Y⟩
  obtain⟨i,t,rfl⟩:=Y v Cn;show Ao _ _ (Rt 7 (.int i t) >>= _) _ _ _;rw[show Rt 7 (.int i t)=pure true from rfl]
  refine Ad (Al ?_);simp only[Jv,Bw,Ec];exact Al ⟨rfl,rfl,λu N=>Y u (Bp _ N)⟩
 .rintro⟨M,j⟩ O ⟨C,rfl,_⟩
  simp only at C;subst C;exact Al h
theorem ZK {k:Aa Ak}{v:Ac}(H:Sup h0 s.heap)(G:isT prog w h0 k v)(h:Q false s):Ao (Au prog w) A (Nu 8 v) Q E s:=by
 obtain⟨a,rfl,G⟩:=G;have G:=vX H G;have B:=G.typeIs;obtain⟨o,U,n,T,_,L,I⟩:=G;unfold Nu;refine Ad (Lr B ?_);dsimp only;refine Ad (Al ?_);simp only[Jv,Bw,Ec];refine Ad (Hm T L ?_);refine Ad ?_;show Ao _ _ (forIn U _ _) _ _ s;rw[<- Yn];refine On _ (λJ r O=>r.1=none/\O=s/\∀ v∈J,∃ i t,v=.int i t) _ ?_ ?_ _ _ ⟨rfl,rfl,mR I⟩
 .rintro v J r O ⟨C,rfl,Y⟩
  obtain⟨i,t,rfl⟩:=Y v Cn;show Ao _ _ (Nu 7 (.int i t) >>= _) _ _ _;rw[show Nu 7 (.int i t)=pure false from rfl]
  refine Ad (Al ?_);simp only[Bw,Ec];exact Al ⟨rfl,rfl,λu N=>Y u (Bp _ N)⟩
 .rintro⟨M,j⟩ O ⟨C,rfl,_⟩
  simp only at C;subst C;exact Al h
theorem WO {k:Aa Ak}{v:Ac}(J:Sup h0 s.heap)(Y:isT prog w h0 k v)(h:Q true s):Ao (Au prog w) A (eqIsQuiet 8 v) Q E s:=by
 obtain⟨a,rfl,Y⟩:=Y;exact wpAny_eqIsQuiet_tuple (vX J Y) h
theorem oW {α:Type}{c:Prop}[Jr c]{M:Ky}{t u:Ko α}{Q:α->Ag->Prop}(h1:c->Ao M A t Q E s)(h2:¬ c->Ao M A u Q E s):Ao M A (if c then t else u) Q E s:=by
 by_cases h:c
 .rw[Be h];exact h1 h
 .rw[Bg h];exact h2 h
theorem AQ {k:Aa Ak}{x:Ac}{T:Aa Ac}(N:Sup h0 s.heap)(L:isT prog w h0 k x)(I:∀ y∈T,∃ G,isT prog w h0 G y)(h:Q false s):Ao (Au prog w) A (Zv x T) Q E s:=by
 unfold Zv;refine Ad ?_;refine On _ (λJ r O=>r.1=none/\O=s/\∀ v∈J,∃ G,isT prog w h0 G v) _ ?_ ?_ _ _ ⟨rfl,rfl,I⟩
 .rintro v J r O ⟨C,rfl,U⟩
  obtain⟨G,hv⟩:=U v Cn;have Y:∀ u∈J,∃ G,isT prog w h0 G u:=λu B=>U u (Bp _ B);dsimp only;refine oW (λ_=>Al ⟨rfl,rfl,Y⟩) λ_=>?_
  .refine Ad (WO N L ?_)
   simp only[Jv,Bw,Ec];refine Ad (WO N hv ?_);simp only[Jv,Bw,Ec];refine Ad (ZK N L ?_);simp only[Bw,Ec];refine Ad (ZK N hv ?_);simp only[Bw,Ec];exact Al ⟨rfl,rfl,Y⟩
 .rintro⟨M,H⟩ O ⟨C,rfl,_⟩
  simp only at C;subst C;exact Al h
theorem AO {k:Aa Ak}{v:Ac}(Y:isT prog w h0 k v)(h:Q true s):Ao (Au prog w) A (isSame v v) Q E s:=by
 obtain⟨a,rfl,Y⟩:=Y;unfold isSame;simp only[Fz,Eh];exact Al h
theorem K3 {k:Aa Ak}{x:Ac}{S:Af}{o:Cq}{es:Ay (Ak × Ac)}{ep:Ai}{t:Fy}{seen:Aa (Aa Ak)}(hu:A.units<Fk)(hS:Sup h0 s.heap)(ho:s.heap.get? S=Ab o)(hd:o.data=.set es ep t)
  (T:TabT t es) (Z:Set0 (isT prog w h0) (Bu (Bj prog w)) es seen) (hx:isT prog w h0 k x) (N:Ai) (v:Way t (st t.mask (Bu (Bj prog w) k)) N)
  (U:(it t.mask N (st t.mask (Bu (Bj prog w) k))).j ∉ t.place.toList) (zc:N<10*turns t.mask) {Q:SetFound->Ag->Prop}
  (h1:k∈seen->Q (.there none) s) (h2:k ∉ seen->Q (.free (it t.mask N (st t.mask (Bu (Bj prog w) k))).j false) s) :
  ∀ (fuel n:Ai) (J:Am Nt),J.getD (t.probeStart (Bu (Bj prog w) k))=it t.mask n (st t.mask (Bu (Bj prog w) k))->n<=N->N-n<fuel ->
   (∀ (m i:Ai) (e:Ak × Ac),m<n->t.place[i]? = Ab (it t.mask m (st t.mask (Bu (Bj prog w) k))).j->es[i]? = Ab e->¬ isT prog w h0 k e.2) ->
   Ao (Au prog w) A (Ss S x (Bu (Bj prog w) k) true fuel J) Q E s
 |0,n,J,_,_,hf,_=>by lia
 |fuel+1,n,J,zb,hn,hf,hq=>by
  unfold Ss;refine Ad (Gf ho hd T.fits ?_);dsimp only;rw[T.odd];simp only[Bw,Ec];rw[zb];generalize hg:t.probe _ (Bu (Bj prog w) k) (it t.mask n (st t.mask (Bu (Bj prog w) k)))=r;obtain⟨H,hH,hg⟩:∃ H:Ai->Ak,(∀ i,H i=(es[i]?.map (·.1)).getD 0)/\t.probe H (Bu (Bj prog w) k) (it t.mask n (st t.mask (Bu (Bj prog w) k)))=r:=⟨_,λi=>rfl,hg⟩
  have Y:∀ m,it t.mask m (it t.mask n (st t.mask (Bu (Bj prog w) k)))=it t.mask (n+m) (st t.mask (Bu (Bj prog w) k)):=λm=>(mQ _ _ _ _).symm;have gm:Meets t H (Bu (Bj prog w) k) (it t.mask n (st t.mask (Bu (Bj prog w) k))) (10*turns t.mask) r:=by
   rw[<- hg];refine kU T.tb H _ _ _ (by rw[fQ];rfl) ⟨N-n,by lia,?_⟩
   rw[Y,show n+(N-n)=N by lia]
   exact U
  have L:∀ j:Ai,(∀ m i:Ai,m<j->t.place[i]? = Ab (it t.mask m (it t.mask n (st t.mask (Bu (Bj prog w) k)))).j->H i≠Bu (Bj prog w) k) ->
    ∀ (m i:Ai) (e:Ak × Ac),m<n+j->t.place[i]? = Ab (it t.mask m (st t.mask (Bu (Bj prog w) k))).j->es[i]? = Ab e->¬ isT prog w h0 k e.2:=λj qj m i e hm B M I=>by
   by_cases zd:m<n
   .exact hq m i e zd B M I
   .refine qj (m-n) i (by lia) (by rw[Y,show n+(m-n)=m by lia];exact B) ?_
    rw[hH,M];obtain⟨k',e1,e2⟩:=Z.good e (Bq (by rw[Bk];exact M))
    rw[isT.inj I e2];simpa using e1
  cases gm with
  |emp j hj w' O q =>
   rw[Y] at O;have za:n+j=N:=by
    rcases Su (n+j) N with h|h|h
    .exact absurd (v _ h) O
    .exact h
    .have:=w' (N-n) (by lia)
     rw[Y,show n+(N-n)=N by lia] at this
     exact absurd this U
   dsimp only;rw[Y,za];refine Al (h2 λI=>?_);obtain⟨e,he,f⟩:=(Z.mem k).mp I;obtain⟨i,hi,B⟩:=Cz.mp he;have G:es[i]? = Ab e:=by rw[<- Bk,Ap hi,B]
   obtain⟨m,w1,w2⟩:=T.way i e G;obtain⟨k',g1,p⟩:=Z.good e he;have:=isT.inj f p;subst this;rw[g1] at w1 w2;have d:m<N:=by
    apply Fx;intro hc;by_cases d:m=N
    .subst d
     exact U (Bq (by rw[Bk];exact w1))
    .exact U (w2 N (by lia))
   exact L j q m i e (by lia) w1 G f
  |cand j i hj w' O hh q =>
   rw[Y] at O;have hi:i<es.size:=by
    rw[<- T.size];exact(Dy.mp O).1
   have B:es[i]? = Ab es[i]:=Eb hi;have za:n+j<N:=by
    rcases Su (n+j) N with h|h|h
    .exact h
    .rw[h] at O
     exact absurd (Bq (by rw[Bk];exact O)) U
    .have:=w' (N-n) (by lia)
     rw[Y,show n+(N-n)=N by lia] at this
     exact absurd this U
   obtain⟨k',g1,p⟩:=Z.good es[i] (by simp)
   dsimp only;have C:Ao (Au prog w) A (do
     let Ab (_,y):=es[i]?|unsupported "internal:set-entry"
     let equal <- holding [y] (eqBool y x)
     let (es',_,t') <- Yc S
     if true&&equal then return .there none
     let Ab same:=t'.sameMemory t.moves t.mask|unsupported "set.changed-during-lookup:is-the-new-block-at-the-old-address"
     let still <- match (if same then t'.slot (it t.mask j (it t.mask n (st t.mask (Bu (Bj prog w) k)))).j else .empty) with
      |.live c=>match es'[c]? with
       |some (_,y')=>do pure (if <- isSame y' y then Ab c else none)
       |none=>pure none
      |_=>pure none
     match still with
     |none=>rule "set.search.anew";Ss S x (Bu (Bj prog w) k) true fuel none
     |some c=>if equal then return .there (Ab c) else Ss S x (Bu (Bj prog w) k) true fuel (Ab (it t.mask (j+1) (it t.mask n (st t.mask (Bu (Bj prog w) k)))))) Q E s:=by
    rw[B];dsimp only;refine Ad (Ed (eqT hu hS p hx ?_));refine Ad (Gf ho hd T.fits ?_);by_cases u:k'=k
    .subst u
     simp only[Kh,Bool.and_self,Eh];exact Al (h1 ((Z.mem k').mpr ⟨es[i],by simp,p⟩))
    .simp only[u,Kl,Ln,Bw,Ec]
     have hm:t.sameMemory t.moves t.mask=Ab true:=by simp[SetTable.sameMemory]
     rw[hm];dsimp only;rw[Y,d8 T.tb O];simp only[Eh,B];refine Ad (AO p ?_);simp only[Eh];refine Ad (Al ?_);dsimp only;refine K3 hu hS ho hd T Z hx N v U zc h1 h2 fuel (n+j+1) _ ?_ (by lia) (by lia) λm c e hm G M I=>?_
     .rw[Os,Y]
      rfl
     .by_cases ze:m<n+j
      .exact L j q m c e ze G M I
      .have:m=n+j:=by lia
       subst this;have:=WU T.tb.rs G O;subst this;rw[B] at M;cases M;exact u (isT.inj p I)
   refine oW (λ_=>?_) λ_=>?_
   .refine Ad (AQ hS hx (λy hy=>?_) ?_)
    .obtain⟨e,he,rfl⟩:=Ci.mp hy
     have:e∈es.toList:=by
      have:=(Pe.mp he);exact Pe.mpr (Array.mem_filter.mp this).1
     obtain⟨k2,_,g⟩:=Z.good e this;exact⟨k2,g⟩
    .simp only[Bw,Ec]
     exact C
   .exact C
end
end _S
namespace _S
open PySem
open PySem.SetTable (Probe leap runEnd turns bits)
@[reducible] def setO (es:Ay (Ak × Ac))(ep:Ai)(t:Fy):Cq:={ cls:=.type "set",dict:=none,data:=.set es ep t }
theorem bM {h:Bo}{S:Af}{es es':Ay (Ak × Ac)}{ep:Ai}{t t':Fy}(Q:h.get? S=Ab (setO es ep t)):(h.update S (AaJ es' t')).get? S=Ab (setO es' (ep+1) t'):=Gd _ Q rfl
structure SetK {K:Type}(is:K->Ac->Prop)(hash:K->Ak)(S:Af)(led:As)(V:Aa Ac)(seen:Aa K)(h:Bo):Prop where
 ex:∃ es ep t,h.get? S=Ab (setO es ep t)/\Set0 is hash es seen/\TabT t es/\t.led=led/\∀ e∈es.toList,e.2∈V
section
variable {prog:Bf}{w:Bx}{h0:Bo}{A:Br}{E:Ac->Ag->Prop}{s:Ag}{S:Af}{led:As}{V:Aa Ac}
theorem J2 (a:Af)(Q:Ai):setRelay a Q=(do
  let (es,_,t) <- Yc a
  if Fe Q>sizeLine then unsupported "set:memory"
  let (es,t) <- (do
   let Ab (t,qR):=t.relaid (es.map (·.1)) Q|unsupported "internal:set-table-without-room"
   let es':=qR.filterMap (es[·]?)
   if es'.size != es.size then unsupported "internal:set-table-lost-an-element"
   pure (es',t))
  storeSet a es t):=rfl
theorem O0 {seen:Aa (Aa Ak)}{k:Aa Ak}{x:Ac}{Q:As->Ag->Prop}(hu:A.units<Fk)(hS:Sup h0 s.heap)(Z:SetK (isT prog w h0) (Bu (Bj prog w)) S led V seen s.heap)(H:isT prog w h0 k x)(hV:x∈V){U:Aa (Aa Ak)}(hU:U.length<=1000)(zg:∀ k'∈seen,k'∈U)(za:k∈U)
  (h:∀ (b:As) (h':Bo) (tk:Ai),s.toks<=tk->Ew S s.heap h'->SetK (isT prog w h0) (Bu (Bj prog w)) S led V (k::seen) h'->Q b { s with heap:=h',toks:=tk }) : Ao (Au prog w) A (Aa2 S x) Q E s:=by
 obtain⟨J,ep,t,I,Z,T,hl,hm⟩:=Z;unfold Aa2;refine Ed (Ad (HV hu hS H ?_));unfold setAddHashed setAddHashedIn;refine Ed (Ad (Gf (s:={ s with toks:=s.toks+(k.length+1) }) I rfl T.fits ?_))
 dsimp only;have zc:byScan x J=false:=by
  obtain⟨a,rfl,_⟩:=H;rfl
 rw[zc];simp only[Bw,Ec];obtain⟨e,u,zb⟩:=T.gap;have first:∃ N,Way t (st t.mask (Bu (Bj prog w) k)) N/\(it t.mask N (st t.mask (Bu (Bj prog w) k))).j ∉ t.place.toList/\N<10*turns t.mask:=by
  obtain⟨N,hN,eN⟩:=rX T.msk (Bu (Bj prog w) k) u;have gm:=kU T.tb (λ_=>Bu (Bj prog w) k+1) (Bu (Bj prog w) k) (10*turns t.mask) (st t.mask (Bu (Bj prog w) k)) rfl ⟨N,hN,by rw[eN];exact zb⟩
  generalize Lf t _ _ _ _=r at gm;cases gm with
  |emp j hj w' e' q=>exact⟨j,w',e',hj⟩
  |cand j i hj w' e' hh q=>exact absurd hh (by lia)
 obtain⟨N,M,y,ze⟩:=first
 have zh:N<100000:=by
  have:turns t.mask<=2200:=by
   unfold turns;rcases T.msk with h|h|h|h|h <;> rw[h] <;> lia
  lia
 refine Ad (K3 (s:={ s with toks:=s.toks+(k.length+1) }) hu hS I rfl T Z H N M y ze (λhk=>?_) (λhk=>?_) 100000 0 none rfl (by lia) (by lia) λm i e hm=>by lia)
 .exact Al (h _ s.heap _ (by lia) (Sn _ _) ⟨J,ep,t,I,Z.again hk,T,hl,hm⟩)
 .have zi:J.size<1000:=Bd (Z.few zg za hk) hU
  dsimp only;refine Ad (Gf (s:={ s with toks:=s.toks+(k.length+1) }) I rfl T.fits ?_)
  obtain⟨o,L,p3,p4⟩:=T.put (h:=Bu (Bj prog w) k) (x:=x) M y (KZ _ _ _);generalize hj:(it t.mask N (st t.mask (Bu (Bj prog w) k))).j=j at *;have B:(t.put j).1.mask=t.mask:=rfl;have m2:(t.put j).1.plain=true:=T.plain;have m3:(t.put j).1.led=led:=hl;generalize hp:t.put j=tp at *;obtain⟨C,p⟩:=tp;dsimp only at o L p3 p4 B m2 m3 ⊢;rw[m2];simp only[Eh];refine Ad (O8 (s:={ s with toks:=s.toks+(k.length+1) }) hS H ?_)
  simp only[Eh,Qy,Bool.true_and];have Y:(Cc J p (Bu (Bj prog w) k,x)).size=J.size+1:=vP _ _ _;have G:J.size+1<=sizeLine:=by rw[Fb];lia
  refine Ad (Nv (s:={ s with toks:=s.toks+(k.length+1) }) I rfl ?_ (by rw[Y];exact G))
  have Z1:Set0 (isT prog w h0) (Bu (Bj prog w)) (Cc J p (Bu (Bj prog w) k,x)) (k::seen):=by
   refine Z.push (λa b=>isT.inj a b) H hk ?_;have:=Jc J p (Bu (Bj prog w) k,x);rw[Er] at this;exact this
  have v:∀ e∈(Cc J p (Bu (Bj prog w) k,x)).toList,e.2∈V:=λe u=>by
   have:=(Jc J p (Bu (Bj prog w) k,x)).mem_iff.mp u;rw[Er] at this;rcases By.mp this with h1|h1
   .exact hm e h1
   .simp at h1;subst h1;exact hV
  have O:=bM (es':=Cc J p (Bu (Bj prog w) k,x)) (t':=C) I;have d:=Hq s.heap S (AaJ (Cc J p (Bu (Bj prog w) k,x)) C);have g:C.fits (Cc J p (Bu (Bj prog w) k,x)).size=true:=by
   have f:C.fill=J.size+1:=by unfold Mc;rw[o.dm,L,Y];rfl
   have h2:=T.few;unfold Xp;rw[f,L,Y,B];rcases T.msk with h|h|h|h|h <;> rw[h] at h2 ⊢ <;> simp <;> lia
  refine oW (λn=>?_) λn=>?_
  .have zd:Msk C.mask:=by rw[B];exact T.msk
   have f:((Cc J p (Bu (Bj prog w) k,x)).size-1)*5<C.mask*3:=by rw[Y,B];exact T.few
   obtain⟨q1,t2,qR,q2,q3,q4,q5,_⟩:=bY zd m2 L (by rw[Y];lia) (by simpa using n) o.dm f (by rw[Y];lia)
   rw[Y] at q1 q2;rw[J2];refine Ad ?_;refine Ad (Gf (s:={ s with heap:=_,toks:=s.toks+(k.length+1) }) O rfl g ?_)
   dsimp only;rw[Bg (by rw[Fb];lia)]
   refine Ad ?_;rw[q2];dsimp only;have c:(qR.filterMap λzf=>(Cc J p (Bu (Bj prog w) k,x))[zf]?).size=J.size+1:=by rw[<- Bl,q4.length_eq,Bl,Y]
   rw[Bg (by rw[c,Y];simp)]
   refine Al ?_;refine Nv (s:={ s with heap:=_,toks:=s.toks+(k.length+1) }) O rfl ?_ (by rw[c];exact G)
   refine Al (h _ _ _ (Hz _ _) (d.trans (Hq _ S _)) ⟨_,_,t2,bM O,Z1.perm q4,q5,by rw[q3];exact m3,λe u=>v e (q4.mem_iff.mp u)⟩)
  .refine Al (h _ _ _ (Hz _ _) d ⟨_,_,C,O,Z1,⟨o,by rw[B];exact T.msk,L,by rw[B];exact p3,?_,by rw[B];exact p4,m2⟩,m3,v⟩)
   have f:C.fill=J.size+1:=by unfold Mc;rw[o.dm,L,Y];rfl
   unfold T0 at n;rw[f] at n;rw[Y];simpa using n
end
end _S
namespace _S
open PySem
open PySem.SetTable (Probe leap runEnd turns bits)
variable {seen:Aa Ak}
def isI (prog:Bf)(w:Bx)(k:Ak)(v:Ac):Prop:=(Bj prog w).is k v=true
section
variable {prog:Bf}{w:Bx}{A:Br}{E:Ac->Ag->Prop}{s:Ag}{S:Af}{led:As}{V:Aa Ac}
set_option tactic.hygienic true in
theorem wH {k:Ak}{v:Ac}(h:isI prog w k v):∃ t,v=.int k t:=by
 cases v <;> first|(exact absurd h (by rintro⟨⟩)) | skip
 rename_i i t;refine⟨t,?_⟩;have:i=k:=(Bj prog w).inj (.int i t) i k (Xq _ _ _ _) h;rw[this]
theorem rH {es:Ay (Ak × Ac)}(Z:Set0 (isI prog w) (Bj prog w).hash es seen):ElemsOf (Bj prog w) es.toList:=λe J=>by
 obtain⟨k,Y,Q⟩:=Z.good e J;refine⟨⟨k,Q,Y⟩,?_⟩;obtain⟨t,q⟩:=wH Q;rw[q];rfl
theorem IZ {k:Ak}{x:Ac}{Q:As->Ag->Prop}(Z:SetK (isI prog w) (Bj prog w).hash S led V seen s.heap)(u:isI prog w k x)(hV:x∈V){U:Aa Ak}(hU:U.length<=1000)(zk:∀ k'∈seen,k'∈U)(za:k∈U)
  (h:∀ (b:As) (h':Bo) (tk:Ai),s.toks<=tk->Ew S s.heap h'->SetK (isI prog w) (Bj prog w).hash S led V (k::seen) h'->Q b { s with heap:=h',toks:=tk }) : Ao (Au prog w) A (Aa2 S x) Q E s:=by
 obtain⟨Y,ep,t,m,Z,T,hl,hm⟩:=Z;have c:x.scannable=true:=by
  obtain⟨tk,q⟩:=wH u;rw[q];rfl
 have C:=T.fits;have hb:Y.size<scanBound:=by
  have h1:=T.few;have:scanBound=4096:=rfl;rcases T.msk with h|h|h|h|h <;> rw[h] at h1 <;> lia
 unfold Aa2;refine Ed (Ad ((Bj prog w).pyHash (k:=k) u ?_));unfold setAddHashed setAddHashedIn;refine Ed (Ad (Gf (s:={ s with toks:=s.toks+1 }) m rfl C ?_))
 dsimp only;rw[byScan_of c hb (rH Z)];simp only[Eh];unfold setAddByScan;refine Ad (Ad (He (Ad (wpAny_setScan_of (s:={ s with toks:=s.toks+1 }) u m rfl C (rH Z) ?_))))
 cases hr:Y.toList.findIdx? (λe=>(Bj prog w).is k e.2) with
 |some j =>
  dsimp only;obtain⟨n,zh,_⟩:=List.findIdx?_eq_some_iff_getElem.mp hr;have y:k∈seen:=(Z.mem k).mpr ⟨Y.toList[j],Tu n,zh⟩;exact Al (Al (h _ s.heap _ (Hz _ _) (Sn _ _) ⟨Y,ep,t,m,Z.again y,T,hl,hm⟩))
 |none =>
  dsimp only;have y:k ∉ seen:=λy=>by
   obtain⟨e,L,q⟩:=(Z.mem k).mp y;have:=List.findIdx?_eq_none_iff.mp hr e L;rw[show (Bj prog w).is k e.2=true from q] at this
   cases this
  have zl:Y.size<1000:=Bd (Z.few zk za y) hU;obtain⟨e,L,ze⟩:=T.gap;have first:∃ N,Way t (st t.mask ((Bj prog w).hash k)) N/\(it t.mask N (st t.mask ((Bj prog w).hash k))).j ∉ t.place.toList/\t.freeSlot ((Bj prog w).hash k)=Ab ((it t.mask N (st t.mask ((Bj prog w).hash k))).j,false):=by
   obtain⟨N,hN,eN⟩:=rX T.msk ((Bj prog w).hash k) L;have gm:=kU T.tb (λ_=>(Bj prog w).hash k+1) ((Bj prog w).hash k) (10*turns t.mask) (st t.mask ((Bj prog w).hash k)) rfl ⟨N,hN,by rw[eN];exact ze⟩
   unfold SetTable.freeSlot SetTable.probe;rw[AV];generalize Lf t _ _ _ _=r at gm;cases gm with
   |emp j n w' e' q=>exact⟨j,w',e',rfl⟩
   |cand j i n w' e' hh q=>exact absurd hh (by lia)
  obtain⟨N,zc,zd,zj⟩:=first
  obtain⟨o,M,p3,p4⟩:=T.put (h:=(Bj prog w).hash k) (x:=x) zc zd (KZ _ _ _);generalize n:(it t.mask N (st t.mask ((Bj prog w).hash k))).j=j at *;have I:(t.put j).1.mask=t.mask:=rfl;have m2:(t.put j).1.plain=true:=T.plain;have m3:(t.put j).1.led=led:=hl;generalize hp:t.put j=tp at *;obtain⟨O,p⟩:=tp;dsimp only at o M p3 p4 I m2 m3 ⊢;have J:(Cc Y p ((Bj prog w).hash k,x)).size=Y.size+1:=vP _ _ _;have g:O.fits (Cc Y p ((Bj prog w).hash k,x)).size=true:=by
   have f:O.fill=Y.size+1:=by unfold Mc;rw[o.dm,M,J];rfl
   have h2:=T.few;unfold Xp;rw[f,M,J,I];rcases T.msk with h|h|h|h|h <;> rw[h] at h2 ⊢ <;> simp <;> lia
  have zb:layNew t Y ((Bj prog w).hash k) x=(Cc Y p ((Bj prog w).hash k,x),O,false,false):=by
   unfold layNew;rw[zj];dsimp only;rw[hp];dsimp only;unfold SetTable.orStandIn;rw[g];rfl
  rw[zb];dsimp only;refine Ad (Al (a:=()) ?_);have zi:Rt 8 x=pure true:=by
   rw[hashByValue_scannable 8 c];obtain⟨tk,q⟩:=wH u;subst q;rfl
  rw[zi,ite_self];refine Ad (Al ?_);simp only[Eh];have G:Y.size+1<=sizeLine:=by rw[Fb];lia
  refine Ad (Nv (s:={ s with toks:=s.toks+1 }) m rfl ?_ (by rw[J];exact G))
  have pm:(Cc Y p ((Bj prog w).hash k,x)).toList.Perm (Y.toList++[((Bj prog w).hash k,x)]):=by
   have:=Jc Y p ((Bj prog w).hash k,x);rw[Er] at this;exact this
  have Z1:Set0 (isI prog w) (Bj prog w).hash (Cc Y p ((Bj prog w).hash k,x)) (k::seen):=Z.push (λa b=>(Bj prog w).inj _ _ _ a b) u y pm;have v:∀ e∈(Cc Y p ((Bj prog w).hash k,x)).toList,e.2∈V:=λe L=>by
   rcases By.mp (pm.mem_iff.mp L) with h1|h1
   .exact hm e h1
   .simp at h1;subst h1;exact hV
  have B:=bM (es':=Cc Y p ((Bj prog w).hash k,x)) (t':=O) m;have d:=Hq s.heap S (AaJ (Cc Y p ((Bj prog w).hash k,x)) O);refine oW (λC=>?_) λC=>?_
  .have zg:Msk O.mask:=by rw[I];exact T.msk
   have f:((Cc Y p ((Bj prog w).hash k,x)).size-1)*5<O.mask*3:=by rw[J,I];exact T.few
   obtain⟨q1,t2,qR,q2,q3,q4,q5,q6⟩:=bY zg m2 M (by rw[J];lia) (by simpa using C) o.dm f (by rw[J];lia)
   have zf:(qR.filterMap λH=>(Cc Y p ((Bj prog w).hash k,x))[H]?).size=Y.size+1:=by rw[<- Bl,q4.length_eq,Bl,J]
   have rl:relayAll O (Cc Y p ((Bj prog w).hash k,x)) (Hn (Cc Y p ((Bj prog w).hash k,x)).size)=(qR.filterMap λH=>(Cc Y p ((Bj prog w).hash k,x))[H]?,t2,false):=by
    unfold relayAll;rw[q2];dsimp only;have c1:coversAll qR (Cc Y p ((Bj prog w).hash k,x)).size=true:=by
     unfold coversAll;exact List.isPerm_iff.mpr q6
    rw[c1,q5.fits];rfl
   rw[rl];dsimp only;refine Ad (Al (a:=()) ?_);refine Ad (Nv (s:={ s with heap:=_,toks:=s.toks+1 }) B rfl ?_ (by rw[zf];exact G))
   exact Al (Al (h _ _ _ (Hz _ _) (d.trans (Hq _ S _)) ⟨_,_,t2,bM B,Z1.perm q4,q5,by rw[q3];exact m3,λe L=>v e (q4.mem_iff.mp L)⟩))
  .refine Al (Al (h _ _ _ (Hz _ _) d ⟨_,_,O,B,Z1,⟨o,by rw[I];exact T.msk,M,by rw[I];exact p3,?_,by rw[I];exact p4,m2⟩,m3,v⟩))
   have f:O.fill=Y.size+1:=by unfold Mc;rw[o.dm,M,J];rfl
   unfold T0 at C;rw[f] at C;rw[J];simpa using C
end
end _S
namespace _S
open PySem
variable {Q:Ac->Ag->Prop}{i:Ai}
structure AddS (prog:Bf)(w:Bx){K:Type}(is:K->Ac->Prop)(hash:K->Ak)(h0:Bo):Prop where
 add:∀ {A:Br} {E:Ac->Ag->Prop} {s:Ag} {S:Af} {led:As} {V:Aa Ac} {seen U:Aa K} {k:K} {x:Ac} {Q:As->Ag->Prop},A.units<Fk->Sup h0 s.heap->SetK is hash S led V seen s.heap->is k x->x∈V->U.length<=1000->(∀ k'∈seen,k'∈U)->k∈U ->
  (∀ (b:As) (h':Bo) (tk:Ai),s.toks<=tk->Ew S s.heap h'->SetK is hash S led V (k::seen) h'->Q b { s with heap:=h',toks:=tk }) -> Ao (Au prog w) A (Aa2 S x) Q E s
theorem T1 {prog:Bf}{w:Bx}(h0:Bo):AddS prog w (isT prog w h0) (Bu (Bj prog w)) h0:=⟨λY C Z U G N J O h=>O0 Y C Z U G N J O h⟩
theorem MZ {prog:Bf}{w:Bx}(h0:Bo):AddS prog w (isI prog w) (Bj prog w).hash h0:=⟨λ_ _ Z J U G Y N h=>IZ Z J U G Y N h⟩
noncomputable def wY {K:Type}(Y:Ai->K):Ai->Aa K
 |0=>[]
 |i+1=>Y i::wY Y i
theorem jH {K:Type}{Y:Ai->K}{k:K}:∀ {n:Ai},k∈wY Y n↔∃ i,i<n/\Y i=k
 |0=>by simp[wY]
 |n+1=>by
  rw[wY,Az,jH];constructor
  .rintro (rfl|⟨i,h,e⟩)
   .exact⟨n,by omega,rfl⟩
   .exact⟨i,by omega,e⟩
  .rintro⟨i,h,e⟩
   by_cases J:i=n
   .subst J;exact .inl e.symm
   .exact .inr ⟨i,by omega,e⟩
section
variable {prog:Bf}{w:Bx}{A:Br}{R:Ya->Ag->Prop}{I:Af}{fp wr:Aa Af}{G:Ay Aa8->Ay Aa8->Prop}{n:Ai}{P:Ai->Ac->Prop}{St:Ai->Ag->Prop}
variable {K:Type}{is:K->Ac->Prop}{hash:K->Ak}{h0:Bo}{led:As}{V:Aa Ac}{U:Aa K}
theorem SetK.sup {S:Af}{seen:Aa K}{h h':Bo}(Z:SetK is hash S led V seen h)(e:∀ o,h.get? S=Ab o->h'.get? S=Ab o):SetK is hash S led V seen h':=by
 obtain⟨Y,N,t,J,r⟩:=Z;exact⟨Y,N,t,e _ J,r⟩
theorem iQ (a:AddS prog w is hash h0)(W:WalksS prog w A.in1 I fp wr G n P St)(S:Af)(T:S ∉ fp)(hu:A.in1.units<Fk)(Y:Ai->K)(E:∀ i v,P i v->is (Y i) v/\v∈V)(hU:U.length<=1000)(H:∀ i,i<n->Y i∈U)
  (m:h0.get? S=none) (c:∀ b∈wr,h0.get? b=none):∀ (k i:Ai) (s:Ag),n-i=k->i<=n->St i s->Sup h0 s.heap->SetK is hash S led V (wY Y i) s.heap ->
   (∀ s',Moved (S::wr) G s s'->SetK is hash S led V (wY Y n) s'.heap->R (.ok (.ret .none)) s')->Ih (Au prog w) A (.builtin "set.update.loop" ⟨[.ref S,.ref I],[]⟩) R s:=by
 have u:S ∉ wr:=λh=>T (W.sub _ h);have J:∀ b∈wr,b∈S::wr:=λb N=>Bp _ N;intro k
 induction k with
 |zero =>
  intro i s hk hi O hS Z g;have x:i=n:=by omega
  subst x;refine Io Mm ?_;rw[Jx Je _];show Ao _ A.in1 (Ni (.ref I) >>= _) _ _ s;refine Ad (W.done s _ _ O λs' L=>?_);exact Al (g s' (L.mono J) (Z.sup λo e=>L.heap S _ u e))
 |succ k ih =>
  intro i s hk hi O hS Z g;have B:i<n:=by omega
  refine Io Mm ?_;rw[Jx Je _];show Ao _ A.in1 (Ni (.ref I) >>= _) _ _ s;refine Ad (W.item i s _ _ B O λv s' hP y L=>?_);obtain⟨q1,q2⟩:=E i v hP;have M:Sup h0 s'.heap:=λb o e=>L.heap b o (λN=>by rw[c b N] at e;cases e) (hS b o e)
  show Ao _ A.in1 (holding [v] (Aa2 S v) >>= _) _ _ s';refine Ad (Ed (a.add hu M (Z.sup λo e=>L.heap S _ u e) q1 q2 hU (λk' d=>?_) (H i B) λb h' tk q C Z'=>?_))
  .obtain⟨j,hj,e⟩:=jH.mp d
   exact e▸H j (by omega)
  .refine Al ⟨Sv Je _,ih (i+1) _ (by omega) B (W.frame _ s' _ _ y q λb N o e=>?_) (λb o e=>?_) Z' λf p r=>?_⟩
   .rw[C.2 b (λh:b=S=>T (by rw[<- h];exact N))];exact e
   .rw[C.2 b (λh:b=S=>by rw[h,m] at e;cases e)];exact M b o e
   .refine g f (Moved.trans W.gtrans ((L.mono J).then_heap q λb o N e=>?_) p) r
    rw[C.2 b (λh:b=S=>N (by rw[h];exact Cn))];exact e
end
section
variable {prog:Bf}{w:Bx}{A:Br}{E:Ac->Ag->Prop}{s:Ag}
noncomputable def wC (w:Bx):As:=!w.params.followText "set-order"
@[reducible] def set0 (w:Bx):Cq:=setO #[] 0 (.fresh 0 0 (wC w))
theorem bX (a:Ac){Q₁:Ac->Ag->Prop}(h:Q₁ (.ref s.heap.objs.size) { s with heap:=s.heap.push (set0 w) }) : Ih (Au prog w) A (.call (.builtin "set.__new__") ⟨[.type "set",a],[]⟩) (wants Q₁ E) s:=by
 refine Ps ?_;show Ao _ A.in1 (do Tr "set.__new__" ⟨[.type "set",a],[]⟩;again (.builtin "set.__new__" ⟨[.type "set",a],[]⟩)) _ _ s
 refine Ad (Rr (PySem.F.newCall_set_1 a) (Al ⟨Sv Vv _,Io PySem.F.entry_set_new ?_⟩));rw[Jx Vv _];unfold Ik.«set.__new__» AaR;have Y:=PySem.sub_set_self;obtain⟨U,g,d,J,os⟩:=s;dsimp only
 wp_walk
 refine Kg (Al ?_);dsimp only;simp only[newObj];exact Ad (wpAny_alloc (Al (Al h)))
theorem dF (w:Bx):TabT (.fresh 0 0 (wC w)) #[]:=⟨⟨by unfold Rs;exact Np,rfl⟩,.inl rfl,rfl,λx Y=>(by cases Y),(show 0*5<7*3 by decide),λi e h=>(by simp at h),rfl⟩
variable {K:Type}{is:K->Ac->Prop}{hash:K->Ak}{U:Aa K}
theorem YJ (a:AddS prog w is hash s.heap){l:Af}{items:Ay Ac}{Q:Ac->Ag->Prop}(hh:A.handled=none)(hu:A.units+8<Fk)(hl:s.heap.IsList l items)(J:Ai->K)(I:∀ i v,items[i]? = Ab v->is (J i) v)(hU:U.length<=1000)(n:∀ i,i<items.size->J i∈U)
  (h:∀ (h':Bo) (tk:Ai),SetK is hash s.heap.objs.size (wC w) items.toList (wY J items.size) h'->(∀ b o,s.heap.get? b=Ab o->h'.get? b=Ab o)->Q (.ref s.heap.objs.size) { s with heap:=h',toks:=tk }) :
  Ao (Au prog w) A (call (.type "set") [.ref l]) Q E s:=by
 obtain⟨c,tl,zd⟩:=Do.mro;have zc:=Do.made;have zg:=Do.sub;refine Qh (Ps ?_);show Ao _ _ (callAny (.type "set") _) _ _ _;refine Al ⟨Ri _ (by decide +kernel),Io Uh ?_⟩
 rw[Yo (Vw "set" [.ref l] []) rfl];have h1:=Do.notType;have h2:=Do.canCreate;have zl:=Vg (.ref l)
 repeat (any_goals (first|assumption|wp_step))
 refine Kj (bX (.ref l) (E:=E) (Q₁:=λobj O=>obj=.ref s.heap.objs.size/\O={ s with heap:=s.heap.push (set0 w) }) ⟨rfl,rfl⟩) λr O x=>?_
 cases r with
 |error e=>exact x
 |ok fl =>
  cases fl with
  |ret obj =>
   obtain⟨rfl,rfl⟩:=x;have hS:(s.heap.push (set0 w)).get? s.heap.objs.size=Ab (set0 w):=Bc _ rfl;have hT:Sw { s with heap:=s.heap.push (set0 w) } (.ref s.heap.objs.size) "set":=⟨_,hS,rfl⟩
   have zk:=Do.init.lookup;have zi:=Do.init.bind (.ref s.heap.objs.size)
   repeat (any_goals (first|assumption|wp_step))
   refine Kj (Lu (R:=wants (λr N=>r=.none/\∃ h' tk,N={ s with heap:=h',toks:=tk } /\ SetK is hash s.heap.objs.size (wC w) items.toList (wY J items.size) h'/\∀ b o,s.heap.get? b=Ab o->h'.get? b=Ab o) E) Do.init.plain Vh (check_set_init_1 hT ?_)) λj N Y=>?_
   .obtain⟨ol,M,p,nl,H⟩:=hl
    obtain⟨ze,L,d,G⟩:=ol;simp only at p H;subst p;subst H;have y:(s.heap.push (set0 w)).get? l=Ab { cls:=.type "list",dict:=L,data:=.seq items nl,slots:=G }:=Ah _ M;have zh:=PySem.F.sub_list_set;have zf:=PySem.F.sub_list_frozenset;have zj:(Hc "list" == Hc "dict")=false:=by decide
    have T:(s.heap.push (set0 w)).IsList l items:=⟨_,y,rfl,nl,rfl⟩;unfold Ik.«set.__init__» noKeywords Qo;generalize m:Ol=PI
    wp_walk
    subst m;refine Gs T ?_;refine Ad (Wp ?_);have q:l<s.heap.objs.size:=Ba M;have u:l≠(s.heap.push (set0 w)).objs.size:=by
     rw[Dz];exact Cp (Sx q)
    have nS:s.heap.get? s.heap.objs.size=none:=Jw (Av _);have nI:s.heap.get? (s.heap.push (set0 w)).objs.size=none:=Jw (by rw[Dz];exact Oo _)
    refine iQ (led:=wC w) (V:=items.toList) a ((Walks.list (A:=A.in1.in1.in1) (by simp[hh]) _ l u items).toS) s.heap.objs.size ?_ (by show A.units+3<Fk;omega) J (λi v hv=>⟨I i v hv,?_⟩) hU n nS (λb hb=>?_) (items.size-0) 0 _ (by omega) (Hk _)
     ⟨⟨_,Bc _ rfl,rfl,rfl⟩,T.push _⟩ (λb o e=>Ah _ (Ah _ e)) ?_ λs' g C=>?_
    .rw[Dz];simp only[Az,Co,Dq,Hr,Yb]
     exact⟨Cp (Jb _),Gj q⟩
    .exact Bq (by rw[Bk];exact hv)
    .rw[Co.mp hb];exact nI
    .exact⟨#[],0,_,Ah _ hS,Set0.nil,dF w,rfl,λe he=>by simp at he⟩
    .obtain⟨h',g',d',f,zb⟩:=s'
     have eg:g'=s.gens:=g.gens;have ed:d'=s.drawn:=g.drawn;have eo:zb=s.os:=g.os;subst eg;subst ed;subst eo;refine Al (Al ⟨rfl,h',f,rfl,C,λb o e=>?_⟩);refine g.heap b o (λhb=>?_) (Ah _ (Ah _ e));rcases Az.mp hb with rfl|hb
     .rw[nS] at e;cases e
     .rw[Co.mp hb,nI] at e;cases e
   .cases j with
    |error e=>exact Y
    |ok B =>
     cases B with
     |ret r =>
      obtain⟨rfl,h',tk,rfl,C,za⟩:=Y
      repeat (any_goals (first|assumption|wp_step))
      exact h _ _ C za
     |_=>exact Y.elim
  |_=>exact x.elim
theorem ZG (a:AddS prog w is hash s.heap){l:Af}{items:Ay Ac}{Q:Ac->Ag->Prop}(hh:A.handled=none)(hu:A.units+8<Fk)(hl:s.heap.IsTuple l items)(J:Ai->K)(I:∀ i v,items[i]? = Ab v->is (J i) v)(hU:U.length<=1000)(n:∀ i,i<items.size->J i∈U)
  (h:∀ (h':Bo) (tk:Ai),SetK is hash s.heap.objs.size (wC w) items.toList (wY J items.size) h'->(∀ b o,s.heap.get? b=Ab o->h'.get? b=Ab o)->Q (.ref s.heap.objs.size) { s with heap:=h',toks:=tk }) :
  Ao (Au prog w) A (call (.type "set") [.ref l]) Q E s:=by
 obtain⟨c,tl,zd⟩:=Do.mro;have zc:=Do.made;have zg:=Do.sub;refine Qh (Ps ?_);show Ao _ _ (callAny (.type "set") _) _ _ _;refine Al ⟨Ri _ (by decide +kernel),Io Uh ?_⟩
 rw[Yo (Vw "set" [.ref l] []) rfl];have h1:=Do.notType;have h2:=Do.canCreate;have zl:=Vg (.ref l)
 repeat (any_goals (first|assumption|wp_step))
 refine Kj (bX (.ref l) (E:=E) (Q₁:=λobj O=>obj=.ref s.heap.objs.size/\O={ s with heap:=s.heap.push (set0 w) }) ⟨rfl,rfl⟩) λr O x=>?_
 cases r with
 |error e=>exact x
 |ok fl =>
  cases fl with
  |ret obj =>
   obtain⟨rfl,rfl⟩:=x;have hS:(s.heap.push (set0 w)).get? s.heap.objs.size=Ab (set0 w):=Bc _ rfl;have hT:Sw { s with heap:=s.heap.push (set0 w) } (.ref s.heap.objs.size) "set":=⟨_,hS,rfl⟩
   have zk:=Do.init.lookup;have zi:=Do.init.bind (.ref s.heap.objs.size)
   repeat (any_goals (first|assumption|wp_step))
   refine Kj (Lu (R:=wants (λr N=>r=.none/\∃ h' tk,N={ s with heap:=h',toks:=tk } /\ SetK is hash s.heap.objs.size (wC w) items.toList (wY J items.size) h'/\∀ b o,s.heap.get? b=Ab o->h'.get? b=Ab o) E) Do.init.plain Vh (check_set_init_1 hT ?_)) λj N Y=>?_
   .obtain⟨ol,M,p,nl,H⟩:=hl
    obtain⟨ze,L,d,G⟩:=ol;simp only at p H;subst p;subst H;have y:(s.heap.push (set0 w)).get? l=Ab { cls:=.type "tuple",dict:=L,data:=.seq items nl,slots:=G }:=Ah _ M;have zh:=PySem.F.sub_tuple_set;have zf:=PySem.F.sub_tuple_frozenset;have zj:(Hc "tuple" == Hc "dict")=false:=by decide
    have T:(s.heap.push (set0 w)).IsTuple l items:=⟨_,y,rfl,nl,rfl⟩;unfold Ik.«set.__init__» noKeywords Qo;generalize m:Ol=PI
    wp_walk
    subst m;refine Ha T ?_;refine Ad (Wp ?_);have q:l<s.heap.objs.size:=Ba M;have u:l≠(s.heap.push (set0 w)).objs.size:=by
     rw[Dz];exact Cp (Sx q)
    have nS:s.heap.get? s.heap.objs.size=none:=Jw (Av _);have nI:s.heap.get? (s.heap.push (set0 w)).objs.size=none:=Jw (by rw[Dz];exact Oo _)
    refine iQ (led:=wC w) (V:=items.toList) a ((Walks.tuple (A:=A.in1.in1.in1) (by simp[hh]) _ l u items).toS) s.heap.objs.size ?_ (by show A.units+3<Fk;omega) J (λi v hv=>⟨I i v hv,?_⟩) hU n nS (λb hb=>?_) (items.size-0) 0 _ (by omega) (Hk _)
     ⟨⟨_,Bc _ rfl,rfl,rfl⟩,T.push _⟩ (λb o e=>Ah _ (Ah _ e)) ?_ λs' g C=>?_
    .rw[Dz];simp only[Az,Co,Dq,Hr,Yb]
     exact⟨Cp (Jb _),Gj q⟩
    .exact Bq (by rw[Bk];exact hv)
    .rw[Co.mp hb];exact nI
    .exact⟨#[],0,_,Ah _ hS,Set0.nil,dF w,rfl,λe he=>by simp at he⟩
    .obtain⟨h',g',d',f,zb⟩:=s'
     have eg:g'=s.gens:=g.gens;have ed:d'=s.drawn:=g.drawn;have eo:zb=s.os:=g.os;subst eg;subst ed;subst eo;refine Al (Al ⟨rfl,h',f,rfl,C,λb o e=>?_⟩);refine g.heap b o (λhb=>?_) (Ah _ (Ah _ e));rcases Az.mp hb with rfl|hb
     .rw[nS] at e;cases e
     .rw[Co.mp hb,nI] at e;cases e
   .cases j with
    |error e=>exact Y
    |ok B =>
     cases B with
     |ret r =>
      obtain⟨rfl,h',tk,rfl,C,za⟩:=Y
      repeat (any_goals (first|assumption|wp_step))
      exact h _ _ C za
     |_=>exact Y.elim
  |_=>exact x.elim
theorem oI (a:AddS prog w is hash s.heap){l:Af}{items:Ay Ac}{Q:Ac->Ag->Prop}(C:A.handled=none)(N:A.units+8<Fk)(hl:s.heap.IsList l items\/s.heap.IsTuple l items)(Y:Ai->K)(J:∀ i v,items[i]? = Ab v->is (Y i) v)(O:U.length<=1000)(G:∀ i,i<items.size->Y i∈U)
  (h:∀ (h':Bo) (tk:Ai),SetK is hash s.heap.objs.size (wC w) items.toList (wY Y items.size) h'->(∀ b o,s.heap.get? b=Ab o->h'.get? b=Ab o)->Q (.ref s.heap.objs.size) { s with heap:=h',toks:=tk }) :
  Ao (Au prog w) A (call (.type "set") [.ref l]) Q E s:=by
 rcases hl with hl|hl
 .exact YJ a C N hl Y J O G h
 .exact ZG a C N hl Y J O G h
end
theorem yW {α:Type}:∀ {l:Aa α} {i:Ai} (h:i<l.length),(l[i]::l.eraseIdx i).Perm l
 |a::l,0,h=>by simp
 |a::l,i+1,h=>by
  rw[List.eraseIdx_cons_succ,List.getElem_cons_succ];exact(AaM _ _ _).trans ((yW (l:=l) (i:=i) (by simpa using h)).cons a)
theorem d0 {α:Type}(next:Ai->Ai):∀ (fuel k:Ai) (left:Aa α) (Y:Ay α),left.length=fuel->(Yy next fuel k left Y).toList.Perm (Y.toList++left)
 |0,k,left,Y,h=>by
  have:left=[]:=Pv h;subst this;unfold Yy;simp
 |fuel+1,k,left,Y,h=>by
  unfold Yy;have J:next k % left.length<left.length:=Ql _ (by omega)
  rw[Ap J];dsimp only;refine(d0 next fuel (k+1) _ _ (by rw[Wx,Be J];omega)).trans ?_
  rw[Er,Cs];refine HT _ ?_;exact yW J
theorem nW {α:Type}(next:Ai->Ai)(xs:Ay α) : (Pw next xs).toList.Perm xs.toList:=by
 have:=d0 next xs.size 0 xs.toList #[] (by simp)
 simpa [Pw] using this
theorem yR:Slot "set_iterator" "__next__" "set_iterator.__next__":=
 .of (owner:="set_iterator") (n:="__next__") (by rw[typeLookup_type,Vx];kernel_rfl) (by decide +kernel) (by decide +kernel) (by decide +kernel) (.inl (by decide +kernel)) (by rw[Wq];kernel_rfl)
theorem mI:entryFor table "set_iterator.__next__" = Ab Ik.«set_iterator.__next__»:=entryFor_of_fast (by kernel_rfl)
theorem lC (a:Ac):Aa0 "set_iterator.__next__" ⟨[a],[]⟩:=by unfold Aa0;kernel_rfl
theorem d9:Slot "set_iterator" "__iter__" "set_iterator.__iter__":=
 .of (owner:="set_iterator") (n:="__iter__") (by rw[typeLookup_type,Vx];kernel_rfl) (by decide +kernel) (by decide +kernel) (by decide +kernel) (.inl (by decide +kernel)) (by rw[Wq];kernel_rfl)
theorem oR:entryFor table "set_iterator.__iter__" = Ab Ik.«dict_keyiterator.__iter__»:=entryFor_alias (id':="dict_keyiterator.__iter__") (by kernel_rfl) rfl (by decide +kernel) (by kernel_rfl)
theorem Z6 (a:Ac):Aa0 "set_iterator.__iter__" ⟨[a],[]⟩:=by unfold Aa0;kernel_rfl
theorem oQ:entryFor table "set.__iter__" = Ab Ik.«frozenset.__iter__»:=entryFor_alias (id':="frozenset.__iter__") (by kernel_rfl) rfl (by decide +kernel) (by kernel_rfl)
theorem BR (a:Af)(slot given Y:Ai):setNext a slot given Y=(do
  let (es,epoch,t) <- Yc a
  if <- setsByText then
   if epoch != Y then unsupported "set_iterator.__next__:elements-changed"
   return ((<- setWalk a)[given]?).map λe=>(e.2,slot)
  if !t.plain&&es.size>1 then unsupported "set_iterator.__next__:the-table-is-plain-no-more"
  (do if !t.led&&!es.isEmpty then unsupported "set:maker-not-led")
  return match es[Cj t.place slot]?,t.place[Cj t.place slot]? with
   |some (_,x),Ab j=>Ab (x,j+1)
   |_,_=>none):=rfl
theorem MH (a:Af):setWalk a=(do
  let (es,epoch,t) <- Yc a
  if <- setsByText then return Pw ((<- ask).params.setOrder a epoch) es
  if !t.plain&&es.size>1 then return (<- drawOrder es.size es.toList).toArray
  (do if !t.led&&es.size>1 then unsupported "set:maker-not-led")
  return es):=rfl
theorem V1 (a:Af):setDrawn a=(do
  let (es,_,t) <- Yc a
  let byText <- setsByText
  return !byText&&(!t.plain&&es.size>1)):=rfl
structure Still (w:Bx)(S:Af)(es:Ay (Ak × Ac))(ep:Ai)(t:Fy):Prop where
 tab:TabT t es
 led:t.led=wC w
def qR (w:Bx)(S:Af)(ep:Ai)(es:Ay (Ak × Ac)):Ay (Ak × Ac):=if w.params.followText "set-order" = true then Pw (w.params.setOrder S ep) es else es
theorem mX (w:Bx)(S:Af)(ep:Ai)(es:Ay (Ak × Ac)):(qR w S ep es).toList.Perm es.toList:=by
 unfold qR
 split
 .exact nW _ _
 .exact Kb _
theorem uC (w:Bx)(S:Af)(ep:Ai)(es:Ay (Ak × Ac)):(qR w S ep es).size=es.size:=by
 rw[<- Bl,(mX w S ep es).length_eq,Bl]
noncomputable def itO (slot i:Ai)(S:Af)(n ep:Ai):Cq:={ cls:=.type "set_iterator",data:=.fields #[.int slot 0,.int i 0,.ref S,.int n 0,.int ep 0] }
def At (w:Bx)(I S:Af)(es:Ay (Ak × Ac))(ep:Ai)(t:Fy)(i:Ai)(h:Bo):Prop:=
 ∃ slot,h.get? I=Ab (itO slot i S es.size ep)/\h.get? S=Ab (setO es ep t)/\(w.params.followText "set-order" = true\/Cj t.place slot=i)
section
variable {prog:Bf}{w:Bx}{A:Br}{E:Ac->Ag->Prop}{s:Ag}{S I:Af}{es:Ay (Ak × Ac)}{ep:Ai}{t:Fy}
theorem QL {slot:Ai}{Q:Am (Ac × Ai)->Ag->Prop}(Z:Still w S es ep t)(C:s.heap.get? S=Ab (setO es ep t))(hs:w.params.followText "set-order" = true\/Cj t.place slot=i)
  (h1:∀ e Y,(qR w S ep es)[i]? = Ab e->(w.params.followText "set-order" = true\/Cj t.place Y=i+1)->Q (Ab (e.2,Y)) s) (h2:(qR w S ep es)[i]? = none->Q none s):Ao (Au prog w) A (setNext S slot i ep) Q E s:=by
 rw[BR];refine Ad (Gf C rfl Z.tab.fits ?_);dsimp only;refine Ad (Ad (Kg (Al ?_)));cases J:w.params.followText "set-order" with
 |true =>
  show Ao _ _ (if (w.params.followText "set-order")=true then _ else _) _ _ _
  rw[Be J];have N:(ep != ep)=false:=by simp
  rw[N];simp only[Bw,Ec];refine Ad ?_;rw[MH];refine Ad (Gf C rfl Z.tab.fits ?_);dsimp only;refine Ad (Ad (Kg (Al ?_)));show Ao _ _ (if (w.params.followText "set-order")=true then _ else _) _ _ _
  rw[Be J];refine Ad (Kg (Al (Al ?_)));show Q (((Pw (w.params.setOrder S ep) es)[i]?).map λe=>(e.2,slot)) s;have U:qR w S ep es=Pw (w.params.setOrder S ep) es:=by unfold qR;rw[Be J]
  rw[U] at h1 h2;cases G:(Pw (w.params.setOrder S ep) es)[i]? with
  |none=>exact h2 G
  |some e=>exact h1 e slot G (.inl J)
 |false =>
  show Ao _ _ (if (w.params.followText "set-order")=true then _ else _) _ _ _
  rw[Bg (by rw[J];decide),Z.tab.plain,Z.led]
  unfold wC;rw[J];simp only[Jv,Hj,Bw,Ec,Qy];have N:Cj t.place slot=i:=by
   rcases hs with h|h
   .rw[J] at h;cases h
   .exact h
  rw[N];have U:qR w S ep es=es:=by unfold qR;rw[Bg (by rw[J];decide)]
  rw[U] at h1 h2;refine Al ?_;cases G:es[i]? with
  |none=>exact h2 G
  |some e =>
   have B:i<t.place.size:=by rw[Z.tab.size];exact(Dy.mp G).1
   have O:t.place[i]? = Ab t.place[i]:=Eb B;rw[O];exact h1 e _ G (.inr (oG Z.tab.tb.rs O))
theorem At.type (h:At w I S es ep t i s.heap):s.TypeIs (.ref I) "set_iterator":=by
 obtain⟨slot,h,_⟩:=h;exact⟨_,h,rfl⟩
theorem lX (Z:Still w S es ep t)(L:At w I S es ep t i s.heap)
  (h1:∀ e Y slot,(qR w S ep es)[i]? = Ab e->s.heap.get? I=Ab (itO slot i S es.size ep)->s.heap.get? S=Ab (setO es ep t)->(w.params.followText "set-order" = true\/Cj t.place Y=i+1) ->
   Q e.2 { s with heap:=(s.heap.update I (Xr (·.setIfInBounds 0 (Gn Y)))).update I (Xr (·.setIfInBounds 1 (Gn ((i:Ak)+1)))) })
  (h2:(qR w S ep es)[i]? = none->Ao (Au prog w) A (do setField (.ref I) 2 .none;raiseNew (<- newExc (.type "StopIteration") [])) (λ(fin:PySem.Fin) s'=>∃ r,fin=.done (.ret r)/\Q r s') E s) :
  Ao (Au prog w) A (Ik.«set_iterator.__next__» ⟨[.ref I],[]⟩) (λfin s'=>∃ r,fin=.done (.ret r)/\Q r s') E s:=by
 obtain⟨slot,J,G,B⟩:=L;show Ao _ _ (fieldsOf (.ref I) >>= _) _ _ s;refine Ad (wpAny_fieldsOf J rfl ?_);show Ao _ _ (setEntries S >>= _) _ _ s;refine Ad (Xs G rfl Z.tab.fits ?_);have N:(((es.size:Ai):Ak) != ((es.size:Ai):Ak))=false:=by simp
 rw[N];simp only[Bw,Ec];show Ao _ _ (setNext S (slot:Ak).toNat (i:Ak).toNat (ep:Ak).toNat >>= _) _ _ s;rw[Fa,Fa,Fa];refine Ad (QL Z G B (λe Y C U=>?_) λC=>?_)
 .dsimp only
  refine Ad (Nk J rfl (by show 0<5;decide) ?_)
  have O:=Gd (Xr (·.setIfInBounds 0 (Gn Y))) J rfl
  refine Ad (Nk O rfl (by show 1<5;decide) ?_)
  exact Al ⟨_,rfl,h1 e Y slot C J G U⟩
 .exact h2 C
theorem MG (j:A.handled=none)(G:S≠I)(Z:Still w S es ep t):Walks prog w A I [I,S] [I] es.size (λi v=>∃ e,(qR w S ep es)[i]? = Ab e/\e.2=v) (λi h=>At w I S es ep t i h) where
 sub:=λb Y=>by simp at Y;simp[Y]
 frame:=λi h y ⟨slot,M,H,L⟩ B=>⟨slot,B I (by simp) _ M,B S (by simp) _ H,L⟩
 item:=λi s Q E u st N=>by
  unfold Ni;refine Ad (Ix (DL (name:=Hu "__next__") st.type yR (Eg yR st.type mI (lX Z st (λe J slot U O C Y=>?_) λU=>?_) (lC _))))
  .refine Al (N e.2 _ s.toks ⟨e,U,rfl⟩ ⟨J,?_,?_,Y⟩ λb o Y e=>?_)
   .exact Gd _ (Gd _ O rfl) rfl
   .rw[Dj _ _ G.symm,Dj _ _ G.symm];exact C
   .have Y:I≠b:=λz=>Y (by simp[z])
    rw[Dj _ _ Y,Dj _ _ Y];exact e
  .have:=Array.getElem?_eq_none_iff.mp U
   rw[uC] at this;omega
 done:=λs Q E st N=>by
  unfold Ni;refine Ad (Ix (DL (name:=Hu "__next__") st.type yR (Eg yR st.type mI (lX Z st (λe J slot U O C Y=>?_) λU=>?_) (lC _))))
  .have:=(Dy.mp U).1
   rw[uC] at this;omega
  .obtain⟨slot,O,C,Y⟩:=st
   refine Ad (Nk O rfl (by show 2<5;decide) ?_)
   refine Ad ?_;simp only[newExc,newTuple];refine Ad (Dm ?_ (by size_fits))
   refine Ad (m:=Qw _ _) (Rr (a:=Dk) (by first|rfl|(simp only[Qw];rfl)) ?_)
   refine Dm ?_ (by size_fits)
   simp only[raiseNew];refine Ad (wpAny_handled ?_);rw[show A.in1.handled=none from j]
   refine Ad (Al (wpAny_throw ?_));refine Ad (Ow (T:="StopIteration") (b:=true) ⟨_,Bc _ rfl,rfl⟩ Wl ?_);refine Al (N _ s.toks λb o Y e=>?_);exact(((Hq ..).extBut.push _).push _) b o (λz=>Y (by simp[z])) e
 self:=λi s Q E st N=>by
  refine Zw st.type d9 (Eg d9 st.type oR ?_ (Z6 _));show Ao _ _ (ret (.ref I)) _ _ s;exact Al ⟨_,rfl,"set_iterator",_,st.type,yR.lookup,N⟩
theorem VT (Z:Still w S es ep t)(Y:s.heap.get? S=Ab (setO es ep t))(h:Q (.ref s.heap.objs.size) { s with heap:=s.heap.push (itO 0 0 S es.size ep) }) : Ao (Au prog w) A (Ol (.ref S)) Q E s:=by
 have J:s.TypeIs (.ref S) "set":=⟨_,Y,rfl⟩;refine Zw J Vy (Eg Vy J oQ ?_ (PySem.F.args_set_iter_1 _));show Ao _ _ (Tj S >>= _) _ _ s;unfold Tj;refine Ad (Ad (Xs Y rfl Z.tab.fits (Al ?_)));refine Ad ?_;rw[V1];refine Ad (Gf Y rfl Z.tab.fits ?_);dsimp only;refine Ad (Ad (Kg (Al (Al ?_))));rw[Z.tab.plain];simp only[Jv,Hj,Ln,Bw,Ec];refine Ad (Al ?_);unfold setEpoch;refine Ad (Ad (Gf Y rfl Z.tab.fits (Al ?_)));refine Ad (Dm (Al ⟨_,rfl,"set_iterator",_,⟨_,Bc _ rfl,rfl⟩,yR.lookup,h⟩))
theorem GD (Z:Still w S es ep t)(Y:s.heap.get? S=Ab (setO es ep t)):At w s.heap.objs.size S es ep t 0 (s.heap.push (itO 0 0 S es.size ep)):=
 ⟨0,Bc _ rfl,Ah _ Y,.inr (oH Z.tab.tb.rs)⟩
end
end _S
namespace _S
open PySem PySem.W PyProof.Rows
variable {vs:Aa Ac}{n lo:Ai}{arr m:Ay Bs}
structure Ord {K:Type}(lt:K->K->As):Prop where
 irr:∀ a,lt a a=false
 tr:∀ {a b c},lt a b=true->lt b c=true->lt a c=true
 tri:∀ {a b},lt a b=false->a=b\/lt b a=true
noncomputable def ltI (a b:Ak):As:=decide (a<b)
theorem OX:Ord ltI:=⟨λa=>by simp[ltI],λ{a b c} Y Q=>by simp only[ltI,Ch] at *;omega,λ{a b} h=>by simp only[ltI,Ch,Ir] at *;omega⟩
theorem i7:∀ a:Aa Ak,_H.lexLt a a=false
 |[]=>rfl
 |x::Q=>by rw[_H.lexLt_cons,Be rfl];exact i7 Q
theorem XI:∀ {a b c:Aa Ak},_H.lexLt a b=true->_H.lexLt b c=true->_H.lexLt a c=true
 |_,[],[],_,h=>by cases h
 |_,_::_,[],_,h=>by cases h
 |[],_,_::_,_,_=>rfl
 |_::_,[],_::_,h,_=>by cases h
 |x::G,y::N,z::O,Y,Q=>by
  rw[_H.lexLt_cons] at Y Q ⊢;by_cases U:x=y
  .subst U
   rw[Be rfl] at Y;by_cases J:x=z
   .rw[Be J] at Q ⊢;exact XI Y Q
   .rw[Bg J] at Q ⊢;exact Q
  .rw[Bg U] at Y
   have Y:=Bv Y;by_cases J:y=z
   .subst J;rw[Bg U];exact Dl Y
   .rw[Bg J] at Q
    have Q:=Bv Q;rw[Bg (by omega)]
    exact Dl (by omega)
theorem i8:∀ {a b:Aa Ak},_H.lexLt a b=false->a=b\/_H.lexLt b a=true
 |[],[],_=>.inl rfl
 |[],_::_,h=>by cases h
 |_::_,[],_=>.inr rfl
 |x::Q,y::Y,h=>by
  rw[_H.lexLt_cons] at h ⊢;by_cases e:x=y
  .subst e
   rw[Be rfl] at h ⊢;rcases i8 h with h|h
   .exact .inl (by rw[h])
   .exact .inr h
  .rw[Bg e] at h
   have h:=My h;rw[Bg (Gb e)];exact .inr (Dl (by omega))
theorem gH:Ord _H.lexLt:=⟨i7,XI,i8⟩
theorem lJ {α:Type}{p q:α->As}:∀ {l:Aa α},(∀ x∈l,p x=true->q x=true)->(∃ x∈l,q x=true/\p x=false)->l.countP p<l.countP q
 |[],_,⟨x,h,_⟩=>by simp at h
 |a::l,h,⟨x,hx,J,Y⟩=>by
  have le:l.countP p<=l.countP q:=Ox λy Q=>h y (by simp[Q])
  rw[Aa3,Aa3];rcases Az.mp hx with rfl|hx
  .rw[Bg (by rw[Y];decide),Be J];omega
  .have G:=lJ (l:=l) (λy Q=>h y (by simp[Q])) ⟨x,hx,J,Y⟩
   have:=h a (by simp)
   cases U:p a with
   |false=>rw[Bg (by decide)];split <;> omega
   |true=>rw[Be rfl,Be (this U)];omega
section
variable {K:Type}{lt':K->K->As}
noncomputable def gK (lt':K->K->As)(ks:Aa K)(x:K):Ak:=(ks.countP (λk=>lt' k x):Ai)
theorem eW (O:Ord lt'){ks:Aa K}{x y:K}(Y:x∈ks):lt' x y=decide (gK lt' ks x<gK lt' ks y):=by
 unfold gK;cases h:lt' x y with
 |true =>
  refine(Dl ?_).symm;have:=lJ (l:=ks) (p:=λk=>lt' k x) (q:=λk=>lt' k y) (λz _ Q=>O.tr Q h) ⟨x,Y,h,O.irr x⟩;omega
 |false =>
  refine(Ds ?_).symm;have:ks.countP (λk=>lt' k y)<=ks.countP (λk=>lt' k x):=by
   rcases O.tri h with e|h'
   .rw[e];exact Av _
   .exact Ox λz _ Q=>O.tr Q h'
  omega
noncomputable def sQ (lt':K->K->As)(ks:Aa K)(d:K)(i j:Ai):As:=lt' (ks.getD i d) (ks.getD j d)
def Nf (lt':K->K->As)(l:Aa K):Prop:=l.Pairwise λa b=>lt' b a=false
theorem iB (O:Ord lt'):∀ {a b:Aa K},Nf lt' a->Nf lt' b->a.Perm b->a=b
 |[],b,_,_,p=>(List.nil_perm.mp p).symm
 |x::a,b,Y,Q,p=>by
  cases b with
  |nil=>exact absurd p.symm (by simp)
  |cons y b =>
   unfold Nf at Y Q;rw[Eu] at Y Q;have e:x=y:=by
    rcases Az.mp (p.mem_iff.mp (.head _)) with e|e
    .exact e
    .rcases Az.mp (p.mem_iff.mpr (.head _)) with e'|e'
     .exact e'.symm
     .have U:=Y.1 y e'
      have J:=Q.1 x e;rcases O.tri U with e|h
      .exact e.symm
      .rw[J] at h;cases h
   subst e;rw[iB O Y.2 Q.2 (List.Perm.cons_inv p)]
theorem XX (O:Ord lt'){l:Aa K}(h:Nf lt' l)(nd:l.Nodup):l.Pairwise λa b=>lt' a b=true:=by
 refine List.Pairwise.imp₂ (λ{a b} Y Q=>?_) h nd;exact(O.tri Y).elim (λe=>absurd e.symm Q) id
noncomputable def wJ (lt':K->K->As)(l:Aa K):Aa K:=l.mergeSort λa b=>!lt' b a
theorem vW (l:Aa K):(wJ lt' l).Perm l:=List.mergeSort_perm _ _
theorem iV (O:Ord lt')(l:Aa K):Nf lt' (wJ lt' l):=by
 have:=List.pairwise_mergeSort (le:=λa b=>!lt' b a) (λa b c Y Q=>?_) (λa b=>?_) l
 .exact this.imp λh=>by simpa using h
 .have Y:lt' b a=false:=by simpa using Y
  have Q:lt' c b=false:=by simpa using Q
  cases J:lt' c a with
  |false=>rfl
  |true =>
   rcases O.tri Y with e|h
   .rw[<- e] at J;rw[J] at Q;cases Q
   .have:=O.tr J h;rw[Q] at this;cases this
 .cases h:lt' b a with
  |false=>rfl
  |true =>
   cases U:lt' a b with
   |false=>rfl
   |true=>have:=O.tr h U;rw[O.irr] at this;cases this
noncomputable def uQ (lt':K->K->As)(x:K):Aa K->Aa K
 |[]=>[x]
 |y::l=>if lt' x y then x::y::l else if lt' y x then y::uQ lt' x l else y::l
noncomputable def srt (lt':K->K->As):Aa K->Aa K
 |[]=>[]
 |x::Q=>uQ lt' x (srt lt' Q)
set_option tactic.hygienic true in
theorem fP (O:Ord lt')(x y:K):∀ l:Aa K,y∈uQ lt' x l↔y=x\/y∈l
 |[]=>by simp[uQ]
 |z::l=>by
  unfold uQ
  split
  .simp
  .rename_i Y
   split
   .rw[Az,fP O x y l,Az]
    exact⟨λh=>by rcases h with h|h|h <;> simp[h],λh=>by rcases h with h|h|h <;> simp[h]⟩
   .rename_i Q
    have:x=z:=(O.tri (by simpa using Y)).elim id λh=>absurd h Q
    subst this;simp
set_option tactic.hygienic true in
theorem aS (O:Ord lt')(x:K):∀ l:Aa K,l.Pairwise (λa b=>lt' a b=true)->(uQ lt' x l).Pairwise (λa b=>lt' a b=true)
 |[],_=>by simp[uQ]
 |z::l,h=>by
  rw[Eu] at h;unfold uQ
  split
  .rename_i Q
   refine Eu.mpr ⟨λy hy=>?_,Eu.mpr h⟩;rcases Az.mp hy with rfl|hy
   .exact Q
   .exact O.tr Q (h.1 y hy)
  .split
   .rename_i Y
    refine Eu.mpr ⟨λy hy=>?_,aS O x l h.2⟩;rcases (fP O x y l).mp hy with rfl|hy
    .exact Y
    .exact h.1 y hy
   .exact Eu.mpr h
theorem vM (O:Ord lt')(y:K):∀ l:Aa K,y∈srt lt' l↔y∈l
 |[]=>by simp[srt]
 |x::l=>by rw[srt,fP O,vM O y l,Az]
theorem pU (O:Ord lt'):∀ l:Aa K,(srt lt' l).Pairwise (λa b=>lt' a b=true)
 |[]=>by simp[srt]
 |x::l=>aS O x _ (pU O l)
theorem lA (O:Ord lt'):∀ {a b:Aa K},a.Pairwise (λa b=>lt' a b=true)->b.Pairwise (λa b=>lt' a b=true)->(∀ x,x∈a↔x∈b)->a=b
 |[],[],_,_,_=>rfl
 |[],y::b,_,_,h=>by have:=(h y).mpr (by simp);simp at this
 |x::a,[],_,_,h=>by have:=(h x).mp (by simp);simp at this
 |x::a,y::b,U,J,h=>by
  rw[Eu] at U J;have Y:∀ {u v},lt' u v=true->lt' v u=true->Fn:=λp q=>by have:=O.tr p q;rw[O.irr] at this;cases this
  have e:x=y:=by
   rcases Az.mp ((h x).mp (by simp)) with e|e
   .exact e
   .rcases Az.mp ((h y).mpr (by simp)) with e'|e'
    .exact e'.symm
    .exact(Y (J.1 x e) (U.1 y e')).elim
  subst e;have G:∀ {z:K} {l:Aa K},(∀ y∈l,lt' x y=true)->z∈l->z≠x:=λh Q e=>by subst e;have:=h _ Q;rw[O.irr] at this;cases this
  rw[lA O U.2 J.2 λz=>⟨λQ=>?_,λQ=>?_⟩]
  .exact(Az.mp ((h z).mp (by simp[Q]))).elim (λe=>absurd e (G U.1 Q)) id
  .exact(Az.mp ((h z).mpr (by simp[Q]))).elim (λe=>absurd e (G J.1 Q)) id
theorem D4 (O:Ord lt'){l xs:Aa K}(h:Nf lt' l)(nd:l.Nodup)(m:∀ x,x∈l↔x∈xs):l=srt lt' xs:=
 lA O (XX O h nd) (pU O xs) λx=>by rw[m,vM O]
end
theorem BN:typeLookup (.type "set") "__len__" = pure (Ab (.builtin "set.__len__")):=PySem.F.slot_set_len.lookup
section
variable {prog:Bf}{w:Bx}{A:Br}{E:Ac->Ag->Prop}{s:Ag}{S:Af}{es:Ay (Ak × Ac)}{ep:Ai}{t:Fy}
theorem VN {r:Af}(hT:s.TypeIs (.ref r) "set"){Q:As->Ag->Prop}(h:Q false s):Ao (Au prog w) A (Qz (.ref r)) Q E s:=by
 unfold Qz;refine Ad (Uz hT BN ?_);generalize J:("set.__len__" : Em)=id0
 wp_delta
 rw[show splitId id0=Ab ("set","__len__") from by subst J;decide +kernel]
 subst J;refine Ad (Ow (T:="set") (b:=true) hT (by rw[Wq];kernel_rfl) ?_)
 refine Vi (λY=>absurd Y (by decide)) (λ_=>?_)
 refine Vi (λ_=>?_) (λY=>absurd (by decide +kernel) Y)
 exact Ad (Lr hT (Al h))
theorem cH {Q:Aa Ac->Ag->Prop}(hh:A.handled=none)(Z:Still w S es ep t)(f:s.heap.get? S=Ab (setO es ep t))(hn:es.size<=1000)
  (h:∀ h' tk,(∀ b o,s.heap.get? b=Ab o->h'.get? b=Ab o)->s.heap.objs.size<h'.objs.size->Q ((qR w S ep es).toList.map (·.2)) { s with heap:=h',toks:=tk }) : Ao (Au prog w) A (collect (.ref S)) Q E s:=by
 have H:S<s.heap.objs.size:=Ba f;unfold collect;refine Ad (Wp (Io PySem.F.entry_proto_collect ?_));rw[Jx PySem.F.plain_proto_collect _];show Ao _ A.in1 (newList [] >>= λl=>again (.builtin "list.__iadd__" ⟨[l,.ref S],[]⟩)) _ _ s;refine Ad (Dm (Al ⟨Sv Ui _,Io PySem.F.entry_list_iadd ?_⟩));rw[Jx Ui _];have hD:(s.heap.push { cls:=.type "list",data:=.seq ([] : Aa Ac).toArray }).get? s.heap.objs.size=Ab { cls:=.type "list",data:=.seq #[] }:=Bc _ rfl;have J:(s.heap.push { cls:=.type "list",data:=.seq ([] : Aa Ac).toArray }).get? S=Ab (setO es ep t):=Ah _ f;show Ao _ A.in1 (Ra (.ref s.heap.objs.size) (.ref S) (.ref s.heap.objs.size)) _ _ _;unfold Ra;have g:Sw { s with heap:=s.heap.push { cls:=.type "list",data:=.seq ([] : Aa Ac).toArray } } (.ref S) "set":=⟨_,J,rfl⟩
 refine Ad (Lr g ?_);have h1:Tk (.ref s.heap.objs.size) (.ref S)=false:=by simp[Tk];exact Gj H
 rw[Bg (by rw[h1];decide)]
 refine Ad (VT (s:={ s with heap:=s.heap.push { cls:=.type "list",data:=.seq ([] : Aa Ac).toArray } }) Z J ?_)
 have B:=Ah (itO 0 0 S es.size ep) hD;have M:Sw { s with heap:=(s.heap.push { cls:=.type "list",data:=.seq ([] : Aa Ac).toArray }).push (itO 0 0 S es.size ep) } (.ref S) "set":=⟨_,Ah _ J,rfl⟩
 refine Ad (Ed (VN M ?_));refine Vi (λ_=>?_) (λd=>absurd (by decide) d)
 refine Ad (He (Ad ?_));show Ao _ _ (updateSeq s.heap.objs.size (·.push .none) >>= λ_=>updateSeq s.heap.objs.size (·.pop)) _ _ _
 refine Ad (wpAny_updateSeq B rfl ?_);have L:=Gd (Fc (·.push Dk)) B rfl
 refine wpAny_updateSeq (hz:=by seq_fits) L rfl ?_
 have u:=Gd (Fc (·.pop)) L rfl
 have sz:(s.heap.push { cls:=.type "list",data:=.seq ([] : Aa Ac).toArray }).objs.size=s.heap.objs.size+1:=Dz ..;have G:∀ {b:Af} {o:Cq},b≠s.heap.objs.size->((s.heap.push { cls:=.type "list",data:=.seq ([] : Aa Ac).toArray }).push (itO 0 0 S es.size ep)).get? b=Ab o ->
   ((((s.heap.push { cls:=.type "list",data:=.seq ([] : Aa Ac).toArray }).push (itO 0 0 S es.size ep)).update s.heap.objs.size (Fc (·.push Dk))).update s.heap.objs.size (Fc (·.pop))).get? b=Ab o:=
  λN e=>(Dj _ _ (Gb N)).trans ((Dj _ _ (Gb N)).trans e)
 have y:=GD (w:=w) (s:={ s with heap:=s.heap.push { cls:=.type "list",data:=.seq ([] : Aa Ac).toArray } }) Z J
 refine Al ⟨Sv PySem.F.plain_extend_loop _,?_⟩;refine codeAny_extend_loopS ((MG (prog:=prog) (A:=A.in1) (I:=(s.heap.push { cls:=.type "list",data:=.seq ([] : Aa Ac).toArray }).objs.size) hh (by rw[sz];exact Cp (Sx H)) Z).toS) (by rw[Fb];lia) s.heap.objs.size ?_ _ es.size 0 _ #[] _ rfl (Hk _) ?_ u (ItemsOf.nil _) λv U c T C Y=>?_
 .rw[sz]
  simp only[Az,Dq,Hr,Yb];exact⟨Cp (Jb _),Gj H⟩
 .obtain⟨slot,a1,a2,a3⟩:=y
  exact⟨slot,G (by rw[sz];exact Gj (Jb _)) a1,G (Cp H) a2,a3⟩
 .show Ao _ A (load s.heap.objs.size >>= _) _ _ v
  refine Ad (wpAny_load C ?_);obtain⟨h',g',r,j,p⟩:=v;have eg:g'=s.gens:=T.gens;have x:r=s.drawn:=T.drawn;have eo:p=s.os:=T.os;subst eg;subst x;subst eo;have e:U.toList=(qR w S ep es).toList.map (·.2):=by
   refine Zx λi=>?_;rw[Bk,Dn,Bk];by_cases hi:i<es.size
   .have O:i<U.size:=by rw[Y.1];exact hi
    obtain⟨e,he,q⟩:=Y.2 i U[i] (Eb O);rw[Eb O,he,Pu,q]
   .rw[Vj (by rw[Y.1];lia),Vj (by rw[uC];lia)]
    rfl
  refine Al ?_;show Q U.toList _;rw[e];refine h h' j (λb o q=>?_) (Ba C);have N:b<s.heap.objs.size:=Ba q;refine T.heap b o (λhx=>?_) (G (Cp N) (Ah _ (Ah _ q)));simp only[Az,Dq,Hr] at hx;rcases hx with hx|hx
  .exact absurd N (by rw[hx];exact Ej _)
  .exact absurd N (by rw[hx,sz];exact NE.mpr (Oo _))
end
noncomputable def n9:As->Bs->Ay Bs->Ai->Ai->Ai->Oy Gg Ko (Am Ai):=sortPriv% PySem.Builtin.gallop
noncomputable def U8:Ay Bs->Ay Bs->Oy Gg Ko (Ay Bs):=sortPriv% PySem.Builtin.mergeLo
noncomputable def U7:Ay Bs->Ay Bs->Oy Gg Ko (Ay Bs):=sortPriv% PySem.Builtin.mergeHi
noncomputable def nv:Bs:=(Dk,Dk)
section
variable {M:Ky}{A:Br}{E:Ac->Ag->Prop}{s:Ag}{κ : Mn}{U:Bs->Prop}{r:Bs->Ak}
structure Cm (M:Ky)(A:Br)(s:Ag)(κ : Mn)(U:Bs->Prop)(r:Bs->Ak):Prop where
 lt:∀ {x y:Bs},U x->U y->∀ {E:Ac->Ag->Prop} {Q:Am As->Gg->Prop} {st:Gg},kindOf st=κ->Q (Ab (decide (r x<r y))) st->wpS M A E s (lt' x y) Q st
theorem zD {i:Ai}{Q:Bs->Gg->Prop}{st:Gg}(h:i<arr.size)(q:Q (arr.getD i nv) st):wpS M A E s (elem' arr i) Q st:=by
 rw[elem'_eq,getElem?_pos arr i h];have e:arr.getD i nv=arr[i]:=by simp[Gv,h]
 rw[e] at q;exact Bn q
theorem Z3 (C:Cm M A s κ U r){left:As}{Y:Bs}{arr:Ay Bs}{i:Ai}{Q:Am As->Gg->Prop}{st:Gg}(N:kindOf st=κ)(hi:i<arr.size)(G:U (arr.getD i nv))(J:U Y)
  (q:Q (Ab (if left then decide (r (arr.getD i nv)<r Y) else !decide (r Y<r (arr.getD i nv)))) st) :
  wpS M A E s (do let x <- elem' arr i;if left then lt' x Y else (do let a <- lt' Y x;pure (a.map (λb=>!b)))) Q st:=by
 refine Bb (zD hi ?_);cases left with
 |true=>exact C.lt G J N q
 |false=>exact Bb (C.lt J G N (Bn q))
theorem tI (C:Cm M A s κ U r){left:As}{G:Bs}{arr:Ay Bs}{base n Y cut:Ai}{Q:Am Ai->Gg->Prop}{st:Gg}(u:kindOf st=κ)(hh:Y<n)(hb:base+n<=arr.size)(y:∀ i,i<n->U (arr.getD (base+i) nv))(H:U G)(hc:cut<=n)
  (e:∀ i,i<n->(if left then decide (r (arr.getD (base+i) nv)<r G) else !decide (r G<r (arr.getD (base+i) nv)))=decide (i<cut)) (h:Q (Ab cut) st):wpS M A E s (n9 left G arr base n Y) Q st:=by
 have B:∀ {i:Ai} {E:Ac->Ag->Prop} {Q:Am As->Gg->Prop},i<n->Q (Ab (decide (i<cut))) st->wpS M A E s (do let x <- elem' arr (base+i);if left then lt' x G else (do let a <- lt' G x;pure (a.map (λb=>!b)))) Q st:=by
  intro i E Q hi q;exact Z3 C u (by lia) (y i hi) H (by rw[e i hi];exact q)
 have bin:∀ {lo hi:Ai} {f:Ai->Am (Am Ai) × Ai × Ai->Oy Gg Ko (ForInStep (Am (Am Ai) × Ai × Ai))},lo<=cut->cut<=hi->hi<=n ->
   (∀ x a b,f x (none,a,b)=if a>=b then pure (.done (none,a,b)) else ((do let x <- elem' arr (base+(a+(b-a)/2));if left then lt' x G else (do let a <- lt' G x;pure (a.map (λb=>!b)))) >>= λo=>match o with
    |some T=>if T then pure (.yield (none,a+(b-a)/2+1,b)) else pure (.yield (none,a,a+(b-a)/2))
    |_=>pure (.done (Ab none,a,b))))->wpS M A E s (forIn [0:n] (none,lo,hi) f) (λc J=>J=st/\∃ a,c=(none,a,cut)) st:=by
  intro lo hi f h1 v p d;refine Fm (I:=λx c J=>J=st/\∃ a b,c=(none,a,b)/\a<=cut/\cut<=b/\b<=n/\b-a<=n-x) ?_ ?_ ⟨rfl,lo,hi,rfl,h1,v,p,by lia⟩
  .rintro x c J _ j ⟨rfl,a,b,rfl,N,O,L,q4⟩
   rw[d];by_cases g:a>=b
   .rw[Be g];exact Bn ⟨rfl,a,by rw[show b=cut by lia]⟩
   .rw[Bg g]
    refine Bb (B (by lia) ?_)
    by_cases z:a+(b-a)/2<cut
    .simp only[z,Kh,Eh]
     exact Bn ⟨rfl,_,_,rfl,by lia,O,L,by lia⟩
    .simp only[z,Kl,Bw,Ec]
     exact Bn ⟨rfl,_,_,rfl,N,by lia,by lia,by lia⟩
  .rintro c J ⟨rfl,a,b,rfl,N,O,L,q4⟩
   exact⟨rfl,a,by rw[show b=cut by lia]⟩
 refine Bb (B hh ?_);dsimp only;by_cases w:Y<cut
 .simp only[w,Kh,Eh]
  refine Bb (Hs (Fm (I:=λx c J=>J=st/\∃ a b,c=(none,a,b)/\Y+a<cut/\a<b/\x<b)
   (Q:=λc J=>J=st/\∃ a b,c=(none,a,b)/\Y+a<cut/\cut<=Y+min b (n-Y)) ?_ ?_ ⟨rfl,0,1,rfl,w,by lia,by lia⟩) ?_)
  .rintro x c J _ j ⟨rfl,a,b,rfl,N,O,L⟩
   dsimp only;by_cases g:b>=n-Y
   .rw[Be g];exact Bn ⟨rfl,a,b,rfl,N,by lia⟩
   .rw[Bg g]
    refine Bb (B (by lia) ?_)
    by_cases z:Y+b<cut
    .simp only[z,Kh,Jv,Bw,Ec]
     exact Bn ⟨rfl,_,_,rfl,z,by lia,by lia⟩
    .simp only[z,Kl,Qy,Eh]
     exact Bn ⟨rfl,a,b,rfl,N,by lia⟩
  .rintro c J ⟨rfl,a,b,rfl,N,O,L⟩
   exact⟨rfl,a,b,rfl,N,by lia⟩
  .rintro c J ⟨rfl,a,b,rfl,N,O⟩
   dsimp only;refine Bb (Hs (bin (lo:=Y+a+1) (hi:=Y+min b (n-Y)) (by lia) O (by lia) λ_ _ _=>rfl) ?_)
   rintro c J ⟨rfl,a',rfl⟩;exact Bn h
 .simp only[w,Kl,Bw,Ec]
  refine Bb (Hs (Fm (I:=λx c J=>J=st/\∃ a b,c=(none,a,b)/\cut+a<=Y/\a<b/\x<b)
   (Q:=λc J=>J=st/\∃ a b,c=(none,a,b)/\cut+a<=Y/\Y+1<=cut+min b (Y+1)) ?_ ?_ ⟨rfl,0,1,rfl,by lia,by lia,by lia⟩) ?_)
  .rintro x c J _ j ⟨rfl,a,b,rfl,N,O,L⟩
   dsimp only;by_cases g:b>=Y+1
   .rw[Be g];exact Bn ⟨rfl,a,b,rfl,N,by lia⟩
   .rw[Bg g]
    refine Bb (B (by lia) ?_)
    by_cases z:Y-b<cut
    .simp only[z,Kh,Eh]
     exact Bn ⟨rfl,a,b,rfl,N,by lia⟩
    .simp only[z,Kl,Bw,Ec]
     exact Bn ⟨rfl,_,_,rfl,by lia,by lia,by lia⟩
  .rintro c J ⟨rfl,a,b,rfl,N,O,L⟩
   exact⟨rfl,a,b,rfl,N,by lia⟩
  .rintro c J ⟨rfl,a,b,rfl,N,O⟩
   dsimp only;refine Bb (Hs (bin (lo:=Y+1-min b (Y+1)) (hi:=Y-a) (by lia) (by lia) (by lia) λ_ _ _=>rfl) ?_)
   rintro c J ⟨rfl,a',rfl⟩;exact Bn h
end
def Le (r:Bs->Ak)(x y:Bs):Prop:=r x<=r y
structure Mg (r:Bs->Ak)(o A B T:Aa Bs):Prop where
 p1:(o++A).Pairwise (Le r)
 p2:(o++B).Pairwise (Le r)
 pm:(o++A++B).Perm T
structure Mh (r:Bs->Ak)(A B o T:Aa Bs):Prop where
 p1:(A++o).Pairwise (Le r)
 p2:(B++o).Pairwise (Le r)
 pm:(A++B++o).Perm T
section
variable {r:Bs->Ak}{o A B A1 A2 B1 B2 T:Aa Bs}
theorem Mg.b (h:Mg r o A (B1++B2) T)(l:∀ x∈B1,∀ y∈A,Le r x y):Mg r (o++B1) A B2 T:=by
 obtain⟨Q,Y,U⟩:=h;refine⟨?_,by rw[Cs];exact Y,?_⟩
 .rw[Cs]
  rw[Ef] at Q Y ⊢;refine⟨Q.1,?_,λx J y hy=>?_⟩
  .rw[Ef]
   exact⟨(Ef.mp Y.2.1).1,Q.2.1,l⟩
  .rcases By.mp hy with hy|hy
   .exact Y.2.2 x J y (Dh _ hy)
   .exact Q.2.2 x J y hy
 .refine Px ?_ U
  simp only[Cs];refine HT _ ?_;simp only[<- Cs];exact Jf _ Ia
theorem Mg.a (h:Mg r o (A1++A2) B T)(l:∀ x∈A1,∀ y∈B,Le r x y):Mg r (o++A1) A2 B T:=by
 obtain⟨Q,Y,U⟩:=h;refine⟨by rw[Cs];exact Q,?_,by simpa only [Cs] using U⟩
 rw[Cs];rw[Ef] at Q Y ⊢;refine⟨Y.1,?_,λx J y hy=>?_⟩
 .rw[Ef]
  exact⟨(Ef.mp Q.2.1).1,Y.2.1,l⟩
 .rcases By.mp hy with hy|hy
  .exact Q.2.2 x J y (Dh _ hy)
  .exact Y.2.2 x J y hy
theorem Mh.a (h:Mh r (A1++A2) B o T)(l:∀ x∈B,∀ y∈A2,Le r x y):Mh r A1 B (A2++o) T:=by
 obtain⟨Q,Y,U⟩:=h;refine⟨by rw[<- Cs];exact Q,?_,?_⟩
 .rw[Cs] at Q
  rw[Ef] at Q Y ⊢;refine⟨Y.1,Q.2.1,λx J y hy=>?_⟩;rcases By.mp hy with hy|hy
  .exact l x J y hy
  .exact Y.2.2 x J y hy
 .refine Px ?_ U
  simp only[Cs];refine HT _ ?_;simp only[<- Cs];exact Jf _ Ia
theorem Mh.b (h:Mh r A (B1++B2) o T)(l:∀ x∈A,∀ y∈B2,Le r x y):Mh r A B1 (B2++o) T:=by
 obtain⟨Y,Q,U⟩:=h;refine⟨?_,by rw[<- Cs];exact Q,by simpa only [Cs] using U⟩
 rw[Cs] at Q;rw[Ef] at Y Q ⊢;refine⟨Y.1,Q.2.1,λx J y hy=>?_⟩;rcases By.mp hy with hy|hy
 .exact l x J y hy
 .exact Y.2.2 x J y hy
end
structure Mo (r:Bs->Ak)(T:Aa Bs)(m:Ay Bs):Prop where
 pm:m.toList.Perm T
 up:m.toList.Pairwise (Le r)
noncomputable abbrev v7 (st:Gg)(g:Ai):Gg:=Di (kindOf st) (arrOf st) (pendingOf st) g (failedOf st)
theorem tU {a:Ay Bs}{i:Ai}(h:i<a.size):a.toList.drop i=a.getD i nv::a.toList.drop (i+1):=by
 rw[Hy (by simpa using h)]
 congr 1
 simp[Gv,h]
theorem zN {a:Ay Bs}{i:Ai}(h:i<a.size):a.getD i nv∈a.toList:=by
 have e:a.getD i nv=a[i]:=by simp[Gv,h]
 rw[e];exact Array.getElem_mem_toList h
theorem wW {r:Bs->Ak}{a:Ay Bs}(s:a.toList.Pairwise (Le r)){i j:Ai}(h:i<=j)(Q:j<a.size):r (a.getD i nv)<=r (a.getD j nv):=by
 rcases Uj i j with l|l
 .have e:=Jt.mp s i j (by simpa using Iq l Q) (by simpa using Q) l
  have Y:i<a.size:=Iq l Q;simpa [Gv,Y,Q,Le] using e
 .rw[Vk h l];exact Lg _
theorem gC {a:Ay Bs}{i:Ai}{x:Bs}(h:x∈a.toList.drop i):∃ j,i<=j/\j<a.size/\x=a.getD j nv:=by
 obtain⟨k,Y,e⟩:=Cz.mp h;rw[Sr] at e;have Q:k<a.size-i:=by simpa using Y
 refine⟨i+k,by lia,by lia,?_⟩
 have:i+k<a.size:=by lia
 simp[Gv,this,<- e]
theorem gE {a:Ay Bs}{x:Bs}(h:x∈a.toList.take n):∃ j,j<n/\j<a.size/\x=a.getD j nv:=by
 obtain⟨k,Y,e⟩:=Cz.mp h;rw[So] at e;have Q:k<n/\k<a.size:=by rw[Ez,Bl] at Y;lia
 refine⟨k,Q.1,Q.2,?_⟩;simp[Gv,Q.2,<- e]
theorem fK {a:Ay Bs}{i k:Ai}:(a.extract i (i+k)).toList++a.toList.drop (i+k)=a.toList.drop i:=by
 rw[Jy,Ib,Km,<- List.drop_drop];exact Pa _ _
theorem b0 {a:Ay Bs}{i:Ai}:(a.extract i a.size).toList=a.toList.drop i:=by
 rw[Jy,Ib];exact Jg (by simp)
theorem nQ {a:Ay Bs}{i k:Ai}{x:Bs}(h:x∈(a.extract i (i+k)).toList):∃ j,i<=j/\j<i+k/\j<a.size/\x=a.getD j nv:=by
 rw[Jy,Ib,Km] at h;obtain⟨m,Y,e⟩:=Cz.mp h;rw[So,Sr] at e;have Q:m<k/\i+m<a.size:=by rw[Ez,Hx,Bl] at Y;lia
 refine⟨i+m,by lia,by lia,Q.2,?_⟩
 simp[Gv,Q.2,<- e]
def GL (r:Bs->Ak)(a b o:Ay Bs)(i j:Ai):Prop:=Mg r o.toList (a.toList.drop i) (b.toList.drop j) (a.toList++b.toList)
section
variable {r:Bs->Ak}{a b o:Ay Bs}{i j k:Ai}
theorem GL.pb (O:a.toList.Pairwise (Le r))(h:GL r a b o i j)(Y:j<b.size)(l:i<a.size->r (b.getD j nv)<=r (a.getD i nv)):GL r a b (o.push (b.getD j nv)) i (j+1):=by
 have J:Mg r o.toList (a.toList.drop i) ([b.getD j nv]++b.toList.drop (j+1)) (a.toList++b.toList):=by rw[Vz,<- tU Y];exact h
 have:=J.b λx U y N=>by
  cases Co.mp U;obtain⟨m,G,Q,rfl⟩:=gC N;exact Ff (l (by lia)) (wW O G Q)
 unfold GL;rw[Er];exact this
theorem GL.pa (Y:b.toList.Pairwise (Le r))(h:GL r a b o i j)(hi:i<a.size)(l:j<b.size->r (a.getD i nv)<=r (b.getD j nv)):GL r a b (o.push (a.getD i nv)) (i+1) j:=by
 have J:Mg r o.toList ([a.getD i nv]++a.toList.drop (i+1)) (b.toList.drop j) (a.toList++b.toList):=by rw[Vz,<- tU hi];exact h
 have:=J.a λx U y N=>by
  cases Co.mp U;obtain⟨m,G,Q,rfl⟩:=gC N;exact Ff (l (by lia)) (wW Y G Q)
 unfold GL;rw[Er];exact this
theorem GL.ea (Q:b.toList.Pairwise (Le r))(h:GL r a b o i j)(B:j<b.size)(l:∀ m,m<k->r (a.getD (i+m) nv)<=r (b.getD j nv)):GL r a b (o++a.extract i (i+k)) (i+k) j:=by
 have Y:Mg r o.toList ((a.extract i (i+k)).toList++a.toList.drop (i+k)) (b.toList.drop j) (a.toList++b.toList):=by rw[fK];exact h
 have:=Y.a λx J y U=>by
  obtain⟨m,L,O,T,rfl⟩:=nQ J;obtain⟨C,G,N,rfl⟩:=gC U;have:=l (m-i) (by lia)
  rw[show i+(m-i)=m by lia] at this
  exact Ff this (wW Q G N)
 unfold GL;rw[Dr];exact this
theorem GL.eb (N:a.toList.Pairwise (Le r))(h:GL r a b o i j)(hi:i<a.size)(l:∀ m,m<k->r (b.getD (j+m) nv)<=r (a.getD i nv)):GL r a b (o++b.extract j (j+k)) i (j+k):=by
 have Q:Mg r o.toList (a.toList.drop i) ((b.extract j (j+k)).toList++b.toList.drop (j+k)) (a.toList++b.toList):=by rw[fK];exact h
 have:=Q.b λx Y y J=>by
  obtain⟨m,B,O,L,rfl⟩:=nQ Y;obtain⟨C,U,G,rfl⟩:=gC J;have:=l (m-j) (by lia)
  rw[show j+(m-j)=m by lia] at this
  exact Ff this (wW N U G)
 unfold GL;rw[Dr];exact this
theorem GL.fin (h:GL r a b o i j)(e:i=a.size\/j=b.size):Mo r (a.toList++b.toList) (o++a.extract i a.size++b.extract j b.size):=by
 refine⟨?_,?_⟩ <;> rw[Dr,Dr,b0,b0]
 .exact h.pm
 .rcases e with rfl|rfl
  .rw[Oc (by simp),Fv];exact h.p2
  .rw[Oc (l:=b.toList) (by simp),Fv];exact h.p1
theorem GL.last (h:GL r a b o i j)(e:i+1=a.size)(l:∀ x∈b.toList,Le r x (a.getD (a.size-1) nv)):Mo r (a.toList++b.toList) (o++b.extract j b.size++a.extract i a.size):=by
 have U:i<a.size:=by lia
 have J:a.toList.drop i=[a.getD i nv]:=by rw[tU U,Oc (by simp;lia)]
 refine⟨?_,?_⟩ <;> rw[Dr,Dr,b0,b0]
 .refine Px ?_ h.pm
  rw[Cs,Cs];exact HT _ Ia
 .have Q:=h.p1
  rw[J] at Q ⊢;rw[Ef] at Q ⊢;refine⟨h.p2,Uk _ _,λx hx y Y=>?_⟩;rcases By.mp hx with hx|hx
  .exact Q.2.2 x hx y Y
  .cases Co.mp Y
   have:=l x (Lv hx);rw[show a.size-1=i by lia] at this
   exact this
end
theorem rA {p:Ai->As}:∀ (n:Ai),(∀ i j,i<=j->j<n->p j=true->p i=true)->∃ c,c<=n/\∀ i,i<n->p i=decide (i<c)
 |0,_=>⟨0,Av _,λi h=>by lia⟩
 |n+1,h=>by
  obtain⟨c,Y,e⟩:=rA n λi j a b=>h i j a (by lia)
  by_cases q:p n=true
  .refine⟨n+1,Av _,λi Q=>?_⟩
   rw[h i n (by lia) (by lia) q]
   simp[Q]
  .refine⟨c,by lia,λi Q=>?_⟩
   rcases Uj i n with l|l
   .exact e i l
   .have:i=n:=by lia
    subst this;have:¬ i<c:=by lia
    simp[this,q]
section
variable {M:Ky}{A:Br}{E:Ac->Ag->Prop}{s:Ag}{κ : Mn}{U:Bs->Prop}{r:Bs->Ak}
theorem qO {σ α:Type}{c:Prop}[Jr c]{x y:Oy σ Ko α}{Q:α->σ->Prop}{st:σ}(h1:c->wpS M A E s x Q st)(h2:¬ c->wpS M A E s y Q st):wpS M A E s (if c then x else y) Q st:=by
 by_cases h:c
 .rw[Be h];exact h1 h
 .rw[Bg h];exact h2 h
theorem VI (C:Cm M A s κ U r){Y:Bs}{arr:Ay Bs}{base n J:Ai}{Q:Am Ai->Gg->Prop}{st:Gg}(T:kindOf st=κ)(w:J<n)(B:base+n<=arr.size)(L:∀ i,i<n->U (arr.getD (base+i) nv))(N:U Y)
  (I:∀ i j,i<=j->j<n->r (arr.getD (base+i) nv)<=r (arr.getD (base+j) nv)) (h:∀ c,c<=n->(∀ i,i<c->r (arr.getD (base+i) nv)<=r Y)->(∀ i,c<=i->i<n->r Y<r (arr.getD (base+i) nv))->Q (Ab c) st):wpS M A E s (n9 false Y arr base n J) Q st:=by
 obtain⟨c,O,e⟩:=rA (p:=λi=>!decide (r Y<r (arr.getD (base+i) nv))) n λi j a b q=>by
  have:=I i j a b;simp only[Nr,Ir] at q ⊢
  lia
 refine tI C T w B L N O (λi G=>by simpa using e i G) (h c O (λi G=>?_) λi G H=>?_)
 .have:=e i (by lia)
  simp only[G,Kh,Nr,Ir] at this
  lia
 .have:=e i H
  simp only[show ¬ i<c by lia,Kl,Bool.not_eq_false',Ch] at this
  exact this
theorem VJ (C:Cm M A s κ U r){Y:Bs}{arr:Ay Bs}{base n J:Ai}{Q:Am Ai->Gg->Prop}{st:Gg}(T:kindOf st=κ)(w:J<n)(B:base+n<=arr.size)(L:∀ i,i<n->U (arr.getD (base+i) nv))(N:U Y)
  (I:∀ i j,i<=j->j<n->r (arr.getD (base+i) nv)<=r (arr.getD (base+j) nv)) (h:∀ c,c<=n->(∀ i,i<c->r (arr.getD (base+i) nv)<r Y)->(∀ i,c<=i->i<n->r Y<=r (arr.getD (base+i) nv))->Q (Ab c) st):wpS M A E s (n9 true Y arr base n J) Q st:=by
 obtain⟨c,O,e⟩:=rA (p:=λi=>decide (r (arr.getD (base+i) nv)<r Y)) n λi j a b q=>by
  have:=I i j a b;simp only[Ch] at q ⊢
  lia
 refine tI C T w B L N O (λi G=>by simpa using e i G) (h c O (λi G=>?_) λi G H=>?_)
 .have:=e i (by lia)
  simp only[G,Kh,Ch] at this;exact this
 .have:=e i H
  simp only[show ¬ i<c by lia,Kl,Ir] at this
  lia
end
section
variable {M:Ky}{A:Br}{E:Ac->Ag->Prop}{s:Ag}{σ α γ δ:Type}{Q:α->σ->Prop}{st:σ}{c c' c2:Prop}[Jr c][Jr c'][Jr c2]
theorem iZ {K:γ->Oy σ Ko α}{x y:γ}(h:∀ z,wpS M A E s (K z) Q st):wpS M A E s (if c then K x else K y) Q st:=qO (λ_=>h x) λ_=>h y
theorem Y7 {K:γ->δ->Oy σ Ko α}{u:Oy σ Ko α}{x y:γ}{w v:δ}(P:γ->δ->Prop)(hK:∀ z w,P z w->wpS M A E s (K z w) Q st)(h1:c->c'->wpS M A E s u Q st)(h2:c->¬ c'->P x w)(h3:¬ c->P y v):wpS M A E s (if c then (if c' then u else K x w) else K y v) Q st:=qO (λe=>qO (h1 e) λY=>hK _ _ (h2 e Y)) λe=>hK _ _ (h3 e)
theorem Y8 {K:γ->δ->Oy σ Ko α}{u J:Oy σ Ko α}{x y:γ}{w v:δ}(P:γ->δ->Prop)(hK:∀ z w,P z w->wpS M A E s (K z w) Q st)(h1:c->c'->wpS M A E s u Q st)(h1':c->¬ c'->c2->wpS M A E s J Q st)(h2:c->¬ c'->¬ c2->P x w)(h3:¬ c->P y v):wpS M A E s (if c then (if c' then u else if c2 then J else K x w) else K y v) Q st:=qO (λe=>qO (h1 e) λY=>qO (h1' e Y) λU=>hK _ _ (h2 e Y U)) λe=>hK _ _ (h3 e)
end
section
variable {prog:Bf}{w:Bx}{A:Br}{E:Ac->Ag->Prop}{s:Ag}{κ : Mn}{U:Bs->Prop}{r:Bs->Ak}
theorem cV (C:Cm (Au prog w) A s κ U r){a b:Ay Bs}{Q:Ay Bs->Gg->Prop}{st:Gg}(hk:kindOf st=κ)(ua:∀ x∈a.toList,U x)(ub:∀ x∈b.toList,U x)(sa:a.toList.Pairwise (Le r))(sb:b.toList.Pairwise (Le r))
  (h:∀ m g,Mo r (a.toList++b.toList) m->Q m (v7 st g)) (ha:0<a.size) (hb:0<b.size) (h0:r (b.getD 0 nv)<=r (a.getD 0 nv)) (h1:∀ x∈b.toList,Le r x (a.getD (a.size-1) nv)):wpS (Au prog w) A E s (U8 a b) Q st:=by
 have G0:GL r a b #[] 0 0:=⟨by simpa using sa,by simpa using sb,by simp⟩
 have G1:=G0.pb sa hb λ_=>h0;refine Bb (Ry (He ⟨rfl,?_⟩));refine Bb (zD hb ?_);dsimp only;refine qO (λe=>Bn (h _ (Vl st) (G1.fin (.inr (by simpa using e))))) λe1=>?_
 refine qO (λe=>Bn (h _ (Vl st) (G1.last (by simpa using e) h1))) λe2=>?_
 have e1:1<b.size:=by
  have:¬ 1=b.size:=by simpa using e1
  lia
 have e2:0+1<a.size:=by
  have:¬ 0+1=a.size:=by simpa using e2
  lia
 refine Bb (Ng ?_);refine Bb (Hs (Fm (I:=λx c Y=>(∃ g,Y=v7 st g)/\∃ o i j g,c=(none,o,i,j,g)/\GL r a b o i j/\i+1<a.size/\j<b.size/\x<i+j)
  (Q:=λc Y=>(∃ g,Y=v7 st g)/\∃ m,c.1=Ab m/\Mo r (a.toList++b.toList) m) ?_ ?_ ⟨⟨Vl st,rfl⟩,_,0,1,_,rfl,G1,e2,e1,by lia⟩) ?_)
 .rintro x c Y _ hx ⟨⟨g,rfl⟩,o,i,j,mg,rfl,G,B,O,hp⟩
  dsimp only;refine Bb (Hs (Fm (I:=λy c Y=>(∃ g,Y=v7 st g)/\∃ o J N p q,c=(none,o,J,N,p,q)/\GL r a b o J N/\J+1<a.size/\N<b.size/\i+j+y<=J+N)
   (Q:=λc Y=>(∃ g,Y=v7 st g)/\((∃ m,c.1=Ab m/\Mo r (a.toList++b.toList) m)\/∃ o J N p q,c=(none,o,J,N,p,q)/\GL r a b o J N/\J+1<a.size/\N<b.size/\x+1<J+N)) ?_ ?_ ⟨⟨g,rfl⟩,o,i,j,0,0,rfl,G,B,O,by lia⟩) ?_)
  .rintro y c Y _ hy ⟨⟨g,rfl⟩,o,J,N,p,q,rfl,G,B,O,H⟩
   dsimp only;refine Bb (zD O (Bb (zD (i:=J) (by lia) (Bb (C.lt (ub _ (zN O)) (ua _ (zN (i:=J) (by lia))) hk ?_)))))
   dsimp only;refine qO (λl=>?_) λl=>?_
   .have l:r (b.getD N nv)<r (a.getD J nv):=by simpa using l
    have G2:=G.pb sa O λ_=>Hv l;refine Bb (zD O ?_);refine qO (λe=>?_) λe=>?_
    .exact Bn ⟨⟨g,rfl⟩,.inl ⟨_,rfl,G2.fin (.inr (by simpa using e))⟩⟩
    .have e:¬ N+1=b.size:=by simpa using e
     refine qO (λ_=>?_) λ_=>?_
     .exact Bn ⟨⟨g,rfl⟩,.inr ⟨_,_,_,_,_,rfl,G2,B,by lia,by lia⟩⟩
     .exact Bn ⟨⟨g,rfl⟩,_,_,_,_,_,rfl,G2,B,by lia,by lia⟩
   .have l:¬ r (b.getD N nv)<r (a.getD J nv):=by simpa using l
    have G2:=G.pa sb (by lia) λ_=>AaK.mp l
    refine Bb (zD (i:=J) (by lia) ?_)
    refine qO (λe=>?_) λe=>?_
    .exact Bn ⟨⟨g,rfl⟩,.inl ⟨_,rfl,G2.last (by simpa using e) h1⟩⟩
    .have e:¬ J+1+1=a.size:=by simpa using e
     refine qO (λ_=>?_) λ_=>?_
     .exact Bn ⟨⟨g,rfl⟩,.inr ⟨_,_,_,_,_,rfl,G2,by lia,O,by lia⟩⟩
     .exact Bn ⟨⟨g,rfl⟩,_,_,_,_,_,rfl,G2,by lia,O,by lia⟩
  .rintro c Y ⟨z,o,J,N,p,q,rfl,G,B,O,H⟩
   exact⟨z,.inr ⟨_,_,_,_,_,rfl,G,B,O,by lia⟩⟩
  .rintro c Y ⟨⟨g,rfl⟩,⟨m,f,hm⟩|⟨o,J,N,p,q,rfl,G,B,O,H⟩⟩
   .obtain⟨c0,c1⟩:=c
    cases f;exact Bn ⟨⟨g,rfl⟩,m,rfl,hm⟩
   dsimp only;refine Bb (Ry (He ⟨rfl,?_⟩));refine Bb (Hs (Fm (I:=λy c Y=>(∃ g,Y=v7 st g)/\∃ o J N p q t,c=(none,o,J,N,p,q,t)/\GL r a b o J N/\J+1<a.size/\N<b.size/\x+1<J+N)
    (Q:=λc Y=>(∃ g,Y=v7 st g)/\((∃ m,c.1=Ab m/\Mo r (a.toList++b.toList) m)\/∃ o J N p q t,c=(none,o,J,N,p,q,t)/\GL r a b o J N/\J+1<a.size/\N<b.size/\x+1<J+N)) ?_ ?_ ⟨⟨g,rfl⟩,o,J,N,_,_,_,rfl,G,B,O,H⟩) ?_)
   .rintro y c Y _ hy ⟨⟨g,rfl⟩,o,i,j,p,q,t,rfl,G,B,O,H⟩
    dsimp only;generalize p-1=p1;apply iZ (x:=p1) (y:=p);intro mg;have u:i<a.size:=Sy B;refine Bb (Jn ?_);refine Bb (zD O ?_);refine Bb (VI C hk (Sz u) (Yz (Xt (Eo u))) (λJ zb=>ua _ (zN (Lh zb))) (ub _ (zN O)) (λJ N h1 h2=>wW sa (Iy h1 _) (Lh h2)) λk k1 k2 k3=>?_);dsimp only;have G2:=G.ea sb O k2;have k4:i+k<=a.size:=Wa (Eo u) k1;have k5:i+k<a.size->r (b.getD j nv)<r (a.getD (i+k) nv):=λh=>k3 k (Av _) (Wy (by rw[Ub];exact h))
    have k6:x+1<i+k+j:=Bd H (Pi (Hz _ _) _);have k7:k=0->i=i+k:=λh=>by rw[h];rfl
    generalize i+k=i1 at G2 k4 k5 k6 k7 ⊢;generalize o++a.extract i i1=o1 at G2 ⊢;apply Y8 (x:=o1) (w:=i1) (y:=o) (v:=i) (P:=λL T=>GL r a b L T j/\T+1<a.size/\x+1<T+j/\r (b.getD j nv)<r (a.getD T nv))
    case h1=>exact λ_ e=>Bn ⟨⟨_,rfl⟩,.inl ⟨_,rfl,G2.last (by simpa using e) h1⟩⟩
    case h1'=>exact λ_ _ e=>Bn ⟨⟨_,rfl⟩,.inl ⟨_,rfl,G2.fin (.inl (by simpa using e))⟩⟩
    case h2 =>
     intro _ e3 e4;have e3:¬ i1+1=a.size:=by simpa using e3
     have e4:¬ i1=a.size:=by simpa using e4
     have e5:i1<a.size:=Ig k4 e4;exact⟨G2,Ig e5 e3,k6,k5 e5⟩
    case h3 =>
     intro e;have e:=k7 (Kw e);exact⟨G,B,H,by rw[e];exact k5 (by rw[<- e];exact u)⟩
    case hK =>
     rintro L T ⟨G2,hl,H,f⟩;have M:T<a.size:=Sy hl;refine Bb (zD O ?_);have G3:=G2.pb sa O λ_=>Hv f;refine qO (λe=>Bn ⟨⟨_,rfl⟩,.inl ⟨_,rfl,G3.fin (.inr (by simpa using e))⟩⟩) λe5=>?_
     have e5:¬ j+1=b.size:=by simpa using e5
     have d:j+1<b.size:=Ig O e5;refine Bb (zD M ?_);refine Bb (VJ C hk (Sz d) (Yz (Xt O)) (λi B=>ub _ (zN (Lh B))) (ua _ (zN M)) (λi j h1 h2=>wW sb (Iy h1 _) (Lh h2)) λm m1 m2 m3=>?_);dsimp only;have G4:=G3.eb sa M λi B=>Hv (m2 i B);have m4:j+1+m<=b.size:=Wa O m1;have m5:j+1+m<b.size->r (a.getD T nv)<=r (b.getD (j+1+m) nv):=λh=>m3 m (Av _) (Wy (by rw[Ub];exact h))
     have m6:j+1<=j+1+m:=Hz _ _;have m7:m=0->j+1=j+1+m:=λh=>by rw[h]
     generalize j+1+m=j1 at G4 m4 m5 m6 m7 ⊢;generalize L.push (b.getD j nv)++b.extract (j+1) j1=o2 at G4 ⊢;apply Y7 (x:=o2) (w:=j1) (y:=L.push (b.getD j nv)) (v:=j+1) (P:=λL ib=>GL r a b L T ib/\ib<b.size/\j+1<=ib/\r (a.getD T nv)<=r (b.getD ib nv))
     case h1=>exact λ_ e=>Bn ⟨⟨_,rfl⟩,.inl ⟨_,rfl,G4.fin (.inr (by simpa using e))⟩⟩
     case h2 =>
      intro _ e6;have e6:¬ j1=b.size:=by simpa using e6
      have e7:=Ig m4 e6;exact⟨G4,e7,m6,m5 e7⟩
     case h3 =>
      intro e;have e:=m7 (Kw e);exact⟨G3,d,Av _,by rw[e];exact m5 (by rw[<- e];exact d)⟩
     case hK =>
      rintro L ib ⟨G4,za,zc,zd⟩;refine Bb (zD M ?_);have G5:=G4.pa sb M λ_=>zd;refine qO (λe=>Bn ⟨⟨_,rfl⟩,.inl ⟨_,rfl,G5.last (by simpa using e) h1⟩⟩) λe7=>?_
      have e7:¬ T+1+1=a.size:=by simpa using e7
      have e8:T+1+1<a.size:=Ig hl e7;have e9:x+1<T+1+ib:=Bd H (Wr (Oo _) (Nat.le_of_succ_le zc));exact qO (λ_=>Bn ⟨⟨_,rfl⟩,.inr ⟨_,_,_,_,_,_,rfl,G5,e8,za,e9⟩⟩) λ_=>Bn ⟨⟨_,rfl⟩,_,_,_,_,_,_,rfl,G5,e8,za,e9⟩
   .rintro c Y ⟨z,o,J,N,p,q,t,rfl,G,B,O,H⟩
    exact⟨z,.inr ⟨_,_,_,_,_,_,rfl,G,B,O,by lia⟩⟩
   .rintro c Y ⟨⟨g,rfl⟩,⟨m,f,hm⟩|⟨o,J,N,p,q,t,rfl,G,B,O,H⟩⟩
    .obtain⟨c0,c1⟩:=c
     cases f;exact Bn ⟨⟨g,rfl⟩,m,rfl,hm⟩
    dsimp only;refine Bb (Jn ?_);exact Bn ⟨⟨_,rfl⟩,_,_,_,_,rfl,G,B,O,by lia⟩
 .rintro c Y ⟨z,o,J,N,p,rfl,G,B,O,H⟩
  exfalso
  lia
 .rintro c Y ⟨⟨g,rfl⟩,m,f,hm⟩
  obtain⟨c0,c1⟩:=c;cases f;exact Bn (h m g hm)
end
theorem l9 {a:Ay Bs}(h:0<n)(Y:n<=a.size):a.toList.take n=a.toList.take (n-1)++[a.getD (n-1) nv]:=by
 obtain⟨m,rfl⟩:∃ m,n=m+1:=⟨n-1,by lia⟩
 rw[Nat.add_sub_cancel,List.take_add_one];have Q:m<a.size:=by lia
 simp[Gv,Q]
theorem rN {a:Ay Bs}{i:Ai}(h:i<=n):a.toList.take i++(a.extract i n).toList=a.toList.take n:=by
 rw[Jy,Ib]
 conv=>rhs;rw[show n=i+(n-i) by lia,List.take_add]
theorem kR {a:Ay Bs}:(a.extract 0 n).toList=a.toList.take n:=by
 rw[Jy,Ib];simp
theorem gD {a:Ay Bs}{i:Ai}{x:Bs}(Q:i<=n)(h:x∈(a.extract i n).toList):∃ j,i<=j/\j<n/\j<a.size/\x=a.getD j nv:=by
 obtain⟨k,rfl⟩:∃ k,n=i+k:=⟨n-i,by lia⟩
 exact nQ h
def GH (r:Bs->Ak)(a b o:Ay Bs)(i j:Ai):Prop:=Mh r (a.toList.take i) (b.toList.take j) o.toList.reverse (a.toList++b.toList)
section
variable {r:Bs->Ak}{a b o:Ay Bs}{i j k:Ai}
theorem GH.pa (Q:b.toList.Pairwise (Le r))(h:GH r a b o i j)(h1:0<i)(h2:i<=a.size)(G:j<=b.size)(l:0<j->r (b.getD (j-1) nv)<=r (a.getD (i-1) nv)):GH r a b (o.push (a.getD (i-1) nv)) (i-1) j:=by
 have J:Mh r (a.toList.take (i-1)++[a.getD (i-1) nv]) (b.toList.take j) o.toList.reverse (a.toList++b.toList):=by rw[<- l9 h1 h2];exact h
 have:=J.a λx Y y U=>by
  cases Co.mp U;obtain⟨m,O,N,rfl⟩:=gE Y;exact Ff (wW Q (by lia) (by lia)) (l (by lia))
 unfold GH;rw[Er,Md];exact this
theorem GH.pb (Y:a.toList.Pairwise (Le r))(h:GH r a b o i j)(h1:0<j)(h2:j<=b.size)(hi:i<=a.size)(l:0<i->r (a.getD (i-1) nv)<=r (b.getD (j-1) nv)):GH r a b (o.push (b.getD (j-1) nv)) i (j-1):=by
 have J:Mh r (a.toList.take i) (b.toList.take (j-1)++[b.getD (j-1) nv]) o.toList.reverse (a.toList++b.toList):=by rw[<- l9 h1 h2];exact h
 have:=J.b λx Q y U=>by
  cases Co.mp U;obtain⟨m,N,G,rfl⟩:=gE Q;exact Ff (wW Y (by lia) (by lia)) (l (by lia))
 unfold GH;rw[Er,Md];exact this
theorem GH.ea (J:b.toList.Pairwise (Le r))(h:GH r a b o i j)(Q:k<=i)(L:j<=b.size)(l:0<j->∀ m,k<=m->m<i->m<a.size->r (b.getD (j-1) nv)<=r (a.getD m nv)):GH r a b (o++(a.extract k i).reverse) k j:=by
 have C:Mh r (a.toList.take k++(a.extract k i).toList) (b.toList.take j) o.toList.reverse (a.toList++b.toList):=by rw[rN Q];exact h
 have:=C.a λx U y B=>by
  obtain⟨m,E,T,rfl⟩:=gE U;obtain⟨O,Y,N,G,rfl⟩:=gD Q B;exact Ff (wW J (by lia) (by lia)) (l (by lia) O Y N G)
 unfold GH;rw[Dr,Lw,Md,Wz];exact this
theorem GH.eb (N:a.toList.Pairwise (Le r))(h:GH r a b o i j)(Q:k<=j)(hi:i<=a.size)(l:0<i->∀ m,k<=m->m<j->m<b.size->r (a.getD (i-1) nv)<=r (b.getD m nv)):GH r a b (o++(b.extract k j).reverse) i k:=by
 have C:Mh r (a.toList.take i) (b.toList.take k++(b.extract k j).toList) o.toList.reverse (a.toList++b.toList):=by rw[rN Q];exact h
 have:=C.b λx J y B=>by
  obtain⟨m,T,L,rfl⟩:=gE J;obtain⟨O,Y,G,U,rfl⟩:=gD Q B;exact Ff (wW N (by lia) (by lia)) (l (by lia) O Y G U)
 unfold GH;rw[Dr,Lw,Md,Wz];exact this
theorem GH.fin (h:GH r a b o i j)(e:i=0\/j=0):Mo r (a.toList++b.toList) (a.extract 0 i++b.extract 0 j++o.reverse):=by
 refine⟨?_,?_⟩ <;> rw[Dr,Dr,kR,kR,Lw]
 .exact h.pm
 .rcases e with rfl|rfl
  .rw[AaN,Ip];exact h.p2
  .rw[AaN,Fv];exact h.p1
theorem GH.first (h:GH r a b o i j)(e:j=1)(U:0<b.size)(l:∀ x∈a.toList,Le r (b.getD 0 nv) x):Mo r (a.toList++b.toList) (b.extract 0 j++a.extract 0 i++o.reverse):=by
 subst e;have J:b.toList.take 1=[b.getD 0 nv]:=by rw[l9 (by lia) (by lia)];rfl
 refine⟨?_,?_⟩ <;> rw[Dr,Dr,kR,kR,Lw]
 .refine Px ?_ h.pm
  exact Jf _ Ia
 .have Q:=h.p2
  rw[J] at Q ⊢;rw[Cs];rw[Ef] at Q ⊢;refine⟨Q.1,h.p1,λx Y y hy=>?_⟩;rcases By.mp hy with hy|hy
  .cases Co.mp Y
   exact l y (Pj hy)
  .exact Q.2.2 x Y y hy
end
section
variable {prog:Bf}{w:Bx}{A:Br}{E:Ac->Ag->Prop}{s:Ag}{κ : Mn}{U:Bs->Prop}{r:Bs->Ak}
theorem cU (C:Cm (Au prog w) A s κ U r){a b:Ay Bs}{Q:Ay Bs->Gg->Prop}{st:Gg}(hk:kindOf st=κ)(ua:∀ x∈a.toList,U x)(ub:∀ x∈b.toList,U x)(sa:a.toList.Pairwise (Le r))(sb:b.toList.Pairwise (Le r))
  (h:∀ m g,Mo r (a.toList++b.toList) m->Q m (v7 st g)) (ha:0<a.size) (hb:0<b.size) (h0:∀ x∈a.toList,Le r (b.getD 0 nv) x) (h1:r (b.getD (b.size-1) nv)<=r (a.getD (a.size-1) nv)):wpS (Au prog w) A E s (U7 a b) Q st:=by
 have G0:GH r a b #[] a.size b.size:=by
  unfold GH;rw[Jg (by simp),Jg (by simp)]
  exact⟨by simpa using sa,by simpa using sb,by simp⟩
 have G1:=G0.pa sb ha (Av _) (Av _) λ_=>h1;refine Bb (Ry (He ⟨rfl,?_⟩));refine Bb (zD (i:=a.size-1) (by lia) ?_)
 dsimp only;refine qO (λe=>Bn (h _ (Vl st) (G1.fin (.inl (by simpa using e))))) λe1=>?_
 refine qO (λe=>Bn (h _ (Vl st) (G1.first (by simpa using e) hb h0))) λe2=>?_
 have e1:¬ a.size-1=0:=by simpa using e1
 have e2:¬ b.size=1:=by simpa using e2
 refine Bb (Ng ?_);refine Bb (Hs (Fm (I:=λx c J=>(∃ g,J=v7 st g)/\∃ o i j g,c=(none,i,j,o,g)/\GH r a b o i j/\0<i/\i<=a.size/\1<j/\j<=b.size/\x+i+j<a.size+b.size)
  (Q:=λc J=>(∃ g,J=v7 st g)/\∃ m,c.1=Ab m/\Mo r (a.toList++b.toList) m) ?_ ?_ ⟨⟨Vl st,rfl⟩,_,a.size-1,b.size,_,rfl,G1,by lia,by lia,by lia,by lia,by lia⟩) ?_)
 .rintro x c J _ hx ⟨⟨g,rfl⟩,o,i,j,mg,rfl,G,L,Y,T,N,hp⟩
  dsimp only;refine Bb (Hs (Fm (I:=λy c J=>(∃ g,J=v7 st g)/\∃ o O B p q,c=(none,O,B,o,p,q)/\GH r a b o O B/\0<O/\O<=a.size/\1<B/\B<=b.size/\O+B+y<=i+j)
   (Q:=λc J=>(∃ g,J=v7 st g)/\((∃ m,c.1=Ab m/\Mo r (a.toList++b.toList) m)\/∃ o O B p q,c=(none,O,B,o,p,q)/\GH r a b o O B/\0<O/\O<=a.size/\1<B/\B<=b.size/\x+1+O+B<a.size+b.size)) ?_ ?_ ⟨⟨g,rfl⟩,o,i,j,0,0,rfl,G,L,Y,T,N,by lia⟩) ?_)
  .rintro y c J _ hy ⟨⟨g,rfl⟩,o,O,B,p,q,rfl,G,L,Y,T,N,M⟩
   dsimp only;refine Bb (zD (i:=B-1) (by lia) (Bb (zD (i:=O-1) (by lia) (Bb (C.lt (ub _ (zN (i:=B-1) (by lia))) (ua _ (zN (i:=O-1) (by lia))) hk ?_)))))
   dsimp only;refine qO (λl=>?_) λl=>?_
   .have l:r (b.getD (B-1) nv)<r (a.getD (O-1) nv):=by simpa using l
    have G2:=G.pa sb L Y N λ_=>Hv l;refine Bb (zD (i:=O-1) (by lia) ?_)
    refine qO (λe=>Bn ⟨⟨g,rfl⟩,.inl ⟨_,rfl,G2.fin (.inl (by simpa using e))⟩⟩) λe=>?_
    have e:¬ O-1=0:=by simpa using e
    exact qO (λ_=>Bn ⟨⟨g,rfl⟩,.inr ⟨_,_,_,_,_,rfl,G2,by lia,by lia,T,N,by lia⟩⟩) λ_=>Bn ⟨⟨g,rfl⟩,_,_,_,_,_,rfl,G2,by lia,by lia,T,N,by lia⟩
   .have l:¬ r (b.getD (B-1) nv)<r (a.getD (O-1) nv):=by simpa using l
    have G2:=G.pb sa (by lia) N Y λ_=>AaK.mp l
    refine Bb (zD (i:=B-1) (by lia) ?_)
    refine qO (λe=>Bn ⟨⟨g,rfl⟩,.inl ⟨_,rfl,G2.first (by simpa using e) hb h0⟩⟩) λe=>?_
    have e:¬ B-1=1:=by simpa using e
    exact qO (λ_=>Bn ⟨⟨g,rfl⟩,.inr ⟨_,_,_,_,_,rfl,G2,L,Y,by lia,by lia,by lia⟩⟩) λ_=>Bn ⟨⟨g,rfl⟩,_,_,_,_,_,rfl,G2,L,Y,by lia,by lia,by lia⟩
  .rintro c J ⟨z,o,O,B,p,q,rfl,G,L,Y,T,N,M⟩
   exact⟨z,.inr ⟨_,_,_,_,_,rfl,G,L,Y,T,N,by lia⟩⟩
  .rintro c J ⟨⟨g,rfl⟩,⟨m,hc,hm⟩|⟨o,O,B,p,q,rfl,G,L,Y,T,N,M⟩⟩
   .obtain⟨c0,c1⟩:=c
    cases hc;exact Bn ⟨⟨g,rfl⟩,m,rfl,hm⟩
   dsimp only;refine Bb (Ry (He ⟨rfl,?_⟩));refine Bb (Hs (Fm (I:=λy c J=>(∃ g,J=v7 st g)/\∃ o O B p q t,c=(none,O,B,o,p,q,t)/\GH r a b o O B/\0<O/\O<=a.size/\1<B/\B<=b.size/\x+1+O+B<a.size+b.size)
    (Q:=λc J=>(∃ g,J=v7 st g)/\((∃ m,c.1=Ab m/\Mo r (a.toList++b.toList) m)\/∃ o O B p q t,c=(none,O,B,o,p,q,t)/\GH r a b o O B/\0<O/\O<=a.size/\1<B/\B<=b.size/\x+1+O+B<a.size+b.size)) ?_ ?_ ⟨⟨g,rfl⟩,o,O,B,_,_,_,rfl,G,L,Y,T,N,M⟩) ?_)
   .rintro y c J _ hy ⟨⟨g,rfl⟩,o,i,j,p,q,t,rfl,G,L,Y,T,N,M⟩
    dsimp only;generalize p-1=p1;apply iZ (x:=p1) (y:=p);intro mg;refine Bb (Jn ?_);have j0:0<j:=Sy T;have jb:j-1<b.size:=Bd (Me j0 Li) N;refine Bb (zD jb ?_);refine Bb (VI C hk (Me L Li) (by rw[Hi];exact Y) (λO zc=>ua _ (zN (by rw[Hi];exact Bd zc Y))) (ub _ (zN jb)) (λO B h1 h2=>wW sa (Iy h1 0) (by rw[Hi];exact Bd h2 Y)) λk k1 k2 k3=>?_)
    simp only[Hi] at k2 k3;dsimp only;have G2:=G.ea sb k1 N λ_ m q1 q2 _=>Hv (k3 m q1 q2);have kc:i-k=0->k=i:=λh=>Vk k1 (Wb h);generalize i-k=ac at kc ⊢;generalize o++(a.extract k i).reverse=o1 at G2 ⊢;apply Y7 (x:=k) (w:=o1) (y:=i) (v:=o) (P:=λd H=>GH r a b H d j/\0<d/\d<=a.size/\x+1+d+j<a.size+b.size/\r (a.getD (d-1) nv)<=r (b.getD (j-1) nv))
    case h1=>exact λ_ e=>Bn ⟨⟨_,rfl⟩,.inl ⟨_,rfl,G2.fin (.inl (by simpa using e))⟩⟩
    case hK =>
     rintro d H ⟨G2,hl,za,M,hc⟩;have u:d-1<a.size:=Bd (Me hl Li) za;refine Bb (zD jb ?_);have G3:=G2.pb sa j0 N za λ_=>hc;refine qO (λe=>Bn ⟨⟨_,rfl⟩,.inl ⟨_,rfl,G3.first (by simpa using e) hb h0⟩⟩) λe5=>?_
     have e5:¬ j-1=1:=by simpa using e5
     have j1:0<j-1:=Sz T;refine Bb (zD u ?_);refine Bb (VJ C hk (Me j1 Li) (by rw[Hi];exact Eo jb) (λi L=>ub _ (zN (by rw[Hi];exact Iq L jb))) (ua _ (zN u)) (λi j h1 h2=>wW sb (Iy h1 0) (by rw[Hi];exact Iq h2 jb)) λm m1 m2 m3=>?_)
     simp only[Hi] at m2 m3;dsimp only;have G4:=G3.eb sa m1 za λ_ m q1 q2 _=>m3 m q1 q2;have mc:j-1-m=0->m=j-1:=λh=>Vk m1 (Wb h);generalize j-1-m=bc at mc ⊢;generalize H.push (b.getD (j-1) nv)++(b.extract m (j-1)).reverse=o2 at G4 ⊢;apply Y8 (x:=m) (w:=o2) (y:=j-1) (v:=H.push (b.getD (j-1) nv)) (P:=λnb H=>GH r a b H d nb/\1<nb/\nb<=j-1/\r (b.getD (nb-1) nv)<=r (a.getD (d-1) nv))
     case h1=>exact λ_ e=>Bn ⟨⟨_,rfl⟩,.inl ⟨_,rfl,G4.first (by simpa using e) hb h0⟩⟩
     case h1'=>exact λ_ _ e=>Bn ⟨⟨_,rfl⟩,.inl ⟨_,rfl,G4.fin (.inr (by simpa using e))⟩⟩
     case hK =>
      rintro nb H ⟨G4,h4,h5,zd⟩;have h6:nb<=b.size:=Dc h5 (Eo jb);have zb:x+1+(d-1)+nb<a.size+b.size:=Mx (Wr (Iy (Nat.sub_le _ _) _) (Dc h5 (Nat.sub_le _ _))) M;refine Bb (zD u ?_);have G5:=G4.pa sb hl za h6 λ_=>zd;refine qO (λe=>Bn ⟨⟨_,rfl⟩,.inl ⟨_,rfl,G5.fin (.inl (by simpa using e))⟩⟩) λf=>?_
      have f:0<d-1:=Mz (by simpa using f)
      exact qO (λ_=>Bn ⟨⟨_,rfl⟩,.inr ⟨_,_,_,_,_,_,rfl,G5,f,Eo u,h4,h6,zb⟩⟩) λ_=>Bn ⟨⟨_,rfl⟩,_,_,_,_,_,_,rfl,G5,f,Eo u,h4,h6,zb⟩
     case h2 =>
      intro _ e6 f;have e6:¬ m=1:=by simpa using e6
      have f:¬ m=0:=by simpa using f
      exact⟨G4,Ig (Mz f) (Gb e6),m1,Hv (m2 (m-1) (Me (Mz f) Li))⟩
     case h3 =>
      intro e;cases mc (Kw e);exact⟨G3,Ig j1 (Gb e5),Av _,Hv (m2 (j-1-1) (Me j1 Li))⟩
    case h2 =>
     intro _ e;have e3:0<k:=Mz (by simpa using e)
     exact⟨G2,e3,Dc k1 Y,Mx (Pi (Iy k1 _) _) M,k2 (k-1) (Me e3 Li)⟩
    case h3 =>
     intro e;have e:=kc (Kw e);exact⟨G,L,Y,M,k2 (i-1) (by rw[e];exact Me L Li)⟩
   .rintro c J ⟨z,o,O,B,p,q,t,rfl,G,L,Y,T,N,M⟩
    exact⟨z,.inr ⟨_,_,_,_,_,_,rfl,G,L,Y,T,N,by lia⟩⟩
   .rintro c J ⟨⟨g,rfl⟩,⟨m,hc,hm⟩|⟨o,O,B,p,q,t,rfl,G,L,Y,T,N,M⟩⟩
    .obtain⟨c0,c1⟩:=c
     cases hc;exact Bn ⟨⟨g,rfl⟩,m,rfl,hm⟩
    dsimp only;refine Bb (Jn ?_);exact Bn ⟨⟨_,rfl⟩,_,_,_,_,rfl,G,L,Y,T,N,by lia⟩
 .rintro c J ⟨z,o,O,B,p,rfl,G,L,Y,T,N,M⟩
  exfalso
  lia
 .rintro c J ⟨⟨g,rfl⟩,m,hc,hm⟩
  obtain⟨c0,c1⟩:=c;cases hc;exact Bn (h m g hm)
end
theorem Z2:∀ (l:Aa Bs) (arr:Ay Bs) (o d:Ai),o+d+l.length<=arr.size->∀ k,((l.zipIdx d).foldl (λa p=>a.setIfInBounds (o+p.2) p.1) arr)[k]? = if o+d<=k/\k<o+d+l.length then l[k-(o+d)]? else arr[k]?
 |[],arr,o,d,h,k=>by
  rw[Bg (by simp only[Fh];lia)];rfl
 |x::l,arr,o,d,h,k=>by
  rw[Ca] at h;rw[Tx,Ks,Z2 l _ o (d+1) (by rw[Array.size_setIfInBounds];lia) k,Ca]
  by_cases Y:k=o+d
  .subst Y
   rw[Bg (by lia),Be (by lia),Za,Array.getElem?_setIfInBounds_self_of_lt (by lia)]
   rfl
  .by_cases Q:o+(d+1)<=k/\k<o+(d+1)+l.length
   .rw[Be Q,Be (by lia),show k-(o+d)=(k-(o+(d+1)))+1 by lia,Ug]
   .rw[Bg Q,Bg (by lia),Array.getElem?_setIfInBounds_ne (by lia)]
noncomputable def wb (arr:Ay Bs)(o:Ai)(m:Ay Bs):Ay Bs:=m.toList.zipIdx.foldl (λa p=>a.setIfInBounds (o+p.2) p.1) arr
theorem MJ {o:Ai}(h:o+m.size<=arr.size)(k:Ai):(wb arr o m).getD k nv=if o<=k/\k<o+m.size then m.getD (k-o) nv else arr.getD k nv:=by
 have e:=Z2 m.toList arr o 0 (by simpa using h) k
 simp only[Zb,Bl,Bk] at e;rw[Fj,Fj,Fj];unfold wb;rw[e]
 split <;> rfl
theorem MK {o:Ai}(h:o+m.size<=arr.size):(wb arr o m).toList=arr.toList.take o++(m.toList++arr.toList.drop (o+m.size)):=by
 apply Zx;intro k;have e:=Z2 m.toList arr o 0 (by simpa using h) k
 simp only[Zb,Bl,Bk] at e;unfold wb;rw[Bk,e];have lt:(arr.toList.take o).length=o:=by rw[Ez,Bl];lia
 by_cases Q:k<o
 .rw[Bg (by lia),Bi (by lia),Mr Q,Bk]
 .rw[Cw (by lia),lt]
  by_cases Y:k<o+m.size
  .rw[Be (by lia),Bi (by rw[Bl];lia),Bk]
  .rw[Bg (by lia),Cw (by rw[Bl];lia),Yl,Bl,Bk]
   congr 1
   lia
theorem ML {o:Ai}(h:o+n<=arr.size)(p:m.toList.Perm (arr.extract o (o+n)).toList):(wb arr o m).toList.Perm arr.toList:=by
 have Q:m.size=n:=by
  have:=p.length_eq;rw[Bl,Bl,Jj] at this
  lia
 rw[MK (by lia),Q]
 have e:arr.toList=arr.toList.take o++((arr.extract o (o+n)).toList++arr.toList.drop (o+n)):=by rw[fK,Pa]
 conv=>rhs;rw[e]
 exact HT _ (Jf _ p)
def Seg (r:Bs->Ak)(a:Ay Bs)(lo n:Ai):Prop:=∀ i j,lo<=i->i<=j->j<lo+n->r (a.getD i nv)<=r (a.getD j nv)
theorem iO {r:Bs->Ak}{a:Ay Bs}(h:Seg r a lo n){i k:Ai}(h1:lo<=i)(h2:i+k<=lo+n)(h3:i+k<=a.size):(a.extract i (i+k)).toList.Pairwise (Le r):=by
 rw[Jt];intro x y Y N l;have U:x<k:=by rw[Bl,Jj] at Y;lia
 have Q:y<k:=by rw[Bl,Jj] at N;lia
 have e:=h (i+x) (i+y) (by lia) (by lia) (by lia)
 have G:i+x<a.size:=by lia
 have J:i+y<a.size:=by lia
 simpa [Gv,G,J,Le] using e
theorem rM {a:Ay Bs}{i k m:Ai}(h:m<k)(h3:i+k<=a.size):(a.extract i (i+k)).getD m nv=a.getD (i+m) nv:=by
 have Y:i+m<a.size:=by lia
 have J:m<(a.extract i (i+k)).size:=by rw[Jj];lia
 have Q:m<min (i+k) a.size-i:=by lia
 simp[Gv,Y,Q]
theorem VC {a:Ay Bs}{i j k:Ai}(h1:i<=j)(h2:j<=k):(a.extract i j).toList++(a.extract j k).toList=(a.extract i k).toList:=by
 rw[<- Dr,Array.extract_append_extract]
 congr 2 <;> lia
section
variable {prog:Bf}{w:Bx}{A:Br}{E:Ac->Ag->Prop}{s:Ag}{κ : Mn}{U:Bs->Prop}{r:Bs->Ak}
theorem MM {M:Ky}{σ:Type}{Q:PUnit->σ->Prop}{st Y:σ}(h:Q ⟨⟩ Y):wpS M A E s (set Y:Oy σ Ko PUnit) Q st:=by
 unfold wpS;rw[StateT.run_set];exact Al ⟨rfl,h⟩
theorem cT (C:Cm (Au prog w) A s κ U r){i Y J pw T pz:Ai}{Q:As->Gg->Prop}{arr:Ay Bs}{pd:Ay (Ai × Ai × Ai)}{g:Ai}(f:∀ x∈arr.toList,U x)(e1:pd[i]? = Ab (Y,J,pw))(e2:pd[i+1]? = Ab (Y+J,T,pz))(p1:0<J)(p2:0<T)(hz:Y+J+T<=arr.size)
  (p:Seg r arr Y J) (d:Seg r arr (Y+J) T)
  (h:∀ N g,N.toList.Perm arr.toList->(∀ k,k<Y\/Y+J+T<=k->N.getD k nv=arr.getD k nv)->Seg r N Y (J+T)->Q true (Di κ N ((pd.setIfInBounds i (Y,J+T,pw)).eraseIdxIfInBounds (i+1)) g none)) :
  wpS (Au prog w) A E s (mergeAt' i) Q (Di κ arr pd g none):=by
 refine Bb (Ng ?_);dsimp only;rw[e1,e2];dsimp only;refine Bb (MM ?_);refine Bb (zD (i:=Y+J) (by omega) ?_)
 refine Bb (VI C rfl (by omega) (by omega) (λi hi=>f _ (zN (by omega))) (f _ (zN (by omega))) (λi j a b=>p _ _ (by omega) (by omega) (by omega)) λk k1 k2 k3=>?_)
 dsimp only;refine qO (λe=>Bn (h arr g (Kb _) (λ_ _=>rfl) λi j a b c=>?_)) λe=>?_
 .have e:J-k=0:=by simpa using e
  by_cases O:j<Y+J
  .exact p i j a b O
  .by_cases L:Y+J<=i
   .exact d i j L b (by omega)
   .have:=k2 (i-Y) (by omega)
    rw[show Y+(i-Y)=i by omega] at this
    exact Ff this (d _ _ (Av _) (by omega) (by omega))
 have e:¬ J-k=0:=by simpa using e
 refine Bb (zD (i:=Y+k+(J-k)-1) (by omega) ?_)
 refine Bb (VJ C rfl (by omega) (by omega) (λi hi=>f _ (zN (by omega))) (f _ (zN (by omega))) (λi j a b=>d _ _ (by omega) (by omega) (by omega)) λm m1 m2 m3=>?_)
 dsimp only;rw[show Y+k+(J-k)-1=Y+J-1 by omega] at m2 m3
 have za:=k3 k (Av _) (by omega)
 refine qO (λe=>?_) λe'=>?_
 .exfalso
  have e:m=0:=by simpa using e
  subst e;have O:=m3 0 (Av _) p2;have L:=p (Y+k) (Y+J-1) (by omega) (by omega) (by omega)
  rw[Zb] at O;omega
 have e':¬ m=0:=by simpa using e'
 have ex:arr.extract (Y+k) (Y+J)=arr.extract (Y+k) (Y+k+(J-k)):=by rw[show Y+k+(J-k)=Y+J by omega]
 have zx:(arr.extract (Y+k) (Y+J)).size=J-k:=by rw[Jj];omega
 have zy:(arr.extract (Y+J) (Y+J+m)).size=m:=by rw[Jj];omega
 have gx:∀ i,i<J-k->(arr.extract (Y+k) (Y+J)).getD i nv=arr.getD (Y+k+i) nv:=λi hi=>by rw[ex];exact rM hi (by omega)
 have gy:∀ i,i<m->(arr.extract (Y+J) (Y+J+m)).getD i nv=arr.getD (Y+J+i) nv:=λi hi=>rM hi (by omega)
 have px:(arr.extract (Y+k) (Y+J)).toList.Pairwise (Le r):=by rw[ex];exact iO p (by omega) (by omega) (by omega)
 have py:(arr.extract (Y+J) (Y+J+m)).toList.Pairwise (Le r):=iO d (by omega) (by omega) (by omega)
 have mx:∀ x∈(arr.extract (Y+k) (Y+J)).toList,∃ j,Y+k<=j/\j<Y+J/\x=arr.getD j nv:=λx G=>by
  obtain⟨j,O,L,q3,q4⟩:=gD (by omega) G
  exact⟨j,O,L,q4⟩
 have my:∀ x∈(arr.extract (Y+J) (Y+J+m)).toList,∃ j,Y+J<=j/\j<Y+J+m/\x=arr.getD j nv:=λx G=>by
  obtain⟨j,O,L,q3,q4⟩:=gD (by omega) G
  exact⟨j,O,L,q4⟩
 have I:∀ x∈(arr.extract (Y+k) (Y+J)).toList,r (arr.getD (Y+J) nv)<=r x/\r x<=r (arr.getD (Y+J-1) nv):=λx G=>by
  obtain⟨j,O,L,rfl⟩:=mx x G;have:=p (Y+k) j (by omega) O L
  exact⟨by omega,p j _ (by omega) (by omega) (by omega)⟩
 have y:∀ x∈(arr.extract (Y+J) (Y+J+m)).toList,r (arr.getD (Y+J) nv)<=r x/\r x<=r (arr.getD (Y+J-1) nv):=λx G=>by
  obtain⟨j,O,L,rfl⟩:=my x G;have:=m2 (j-(Y+J)) (by omega)
  rw[show Y+J+(j-(Y+J))=j by omega] at this
  exact⟨d _ _ (Av _) O (by omega),by omega⟩
 have fin:∀ B H,Mo r ((arr.extract (Y+k) (Y+J)).toList++(arr.extract (Y+J) (Y+J+m)).toList) B->Q true (Di κ (wb arr (Y+k) B) ((pd.setIfInBounds i (Y,J+T,pw)).eraseIdxIfInBounds (i+1)) H none):=by
  intro B H M;have ej:(arr.extract (Y+k) (Y+J)).toList++(arr.extract (Y+J) (Y+J+m)).toList=(arr.extract (Y+k) (Y+k+(J-k+m))).toList:=by
   rw[VC (by omega) (by omega),show Y+k+(J-k+m)=Y+J+m by omega]
  have hm:B.size=J-k+m:=by
   have:=M.pm.length_eq;rw[Cf,Bl,Bl,Bl,zx,zy] at this;exact this
  have gd:=λj=>MJ (arr:=arr) (m:=B) (o:=Y+k) (by omega) j
  refine h _ H (ML (n:=J-k+m) (by omega) (ej▸M.pm)) (λj hj=>?_) λi j a b c=>?_
  .rw[gd,Bg (by omega)]
  .have bd:∀ j,Y+k<=j->j<Y+J+m->r (arr.getD (Y+J) nv)<=r (B.getD (j-(Y+k)) nv)/\r (B.getD (j-(Y+k)) nv)<=r (arr.getD (Y+J-1) nv):=λj h1 h2=>by
    have:=M.pm.mem_iff.mp (zN (a:=B) (i:=j-(Y+k)) (by omega))
    rcases By.mp this with q|q
    .exact I _ q
    .exact y _ q
   rw[gd,gd,hm];by_cases i1:i<Y+k
   .rw[Bg (by omega)]
    have u:=k2 (i-Y) (by omega)
    rw[show Y+(i-Y)=i by omega] at u
    by_cases j1:j<Y+k
    .rw[Bg (by omega)];exact p i j a b (by omega)
    .by_cases j2:j<Y+J+m
     .rw[Be (by omega)];exact Ff u (bd j (by omega) j2).1
     .rw[Bg (by omega)];exact Ff u (d _ _ (Av _) (by omega) (by omega))
   .by_cases i2:i<Y+J+m
    .rw[Be (by omega)]
     by_cases j2:j<Y+J+m
     .rw[Be (by omega)];exact wW M.up (by omega) (by omega)
     .rw[Bg (by omega)]
      have v:=m3 (j-(Y+J)) (by omega) (by omega)
      rw[show Y+J+(j-(Y+J))=j by omega] at v
      exact Ff (bd i (by omega) i2).2 v
    .rw[Bg (by omega),Bg (by omega)]
     exact d i j (by omega) b (by omega)
 have ux:∀ x∈(arr.extract (Y+k) (Y+J)).toList,U x:=λx G=>by obtain⟨j,O,L,rfl⟩:=mx x G;exact f _ (zN (by omega))
 have uy:∀ x∈(arr.extract (Y+J) (Y+J+m)).toList,U x:=λx G=>by obtain⟨j,O,L,rfl⟩:=my x G;exact f _ (zN (by omega))
 have y0:(arr.extract (Y+J) (Y+J+m)).getD 0 nv=arr.getD (Y+J) nv:=gy 0 (by omega)
 have xl:(arr.extract (Y+k) (Y+J)).getD ((arr.extract (Y+k) (Y+J)).size-1) nv=arr.getD (Y+J-1) nv:=by rw[zx,gx _ (by omega)];congr 1;omega
 refine qO (λ_=>?_) λ_=>?_
 .refine Bb (cV C rfl ux uy px py (λB H M=>?_) (by rw[zx];omega) (by rw[zy];omega) ?_ λx G=>?_)
  .refine Bb (Jn (Bb (Ng (Bn ?_))))
   exact fin B H M
  .rw[y0];exact(I _ (zN (by rw[zx];omega))).1
  .rw[xl];exact(y x G).2
 .refine Bb (cU C rfl ux uy px py (λB H M=>?_) (by rw[zx];omega) (by rw[zy];omega) (λx G=>?_) ?_)
  .refine Bb (Jn (Bb (Ng (Bn ?_))))
   exact fin B H M
  .rw[y0];exact(I x G).1
  .rw[xl];exact(y _ (zN (by rw[zy];omega))).2
end
noncomputable def mir (a:Ay Bs)(i j:Ai):Ay Bs:=mirror a i j ((j-i)/2)
theorem wR {a:Ay Bs}{i j:Ai}(Q:j<=a.size)(k:Ai):(mir a i j).getD k nv=if i<=k/\k<j then a.getD (i+j-1-k) nv else a.getD k nv:=by
 rw[Fj,Fj,Fj];unfold mir;rw[getElem?_mirror_all Q]
 split <;> rfl
structure Cr (a b:Ay Bs)(lo n:Ai):Prop where
 pm:b.toList.Perm a.toList
 out:∀ k,k<lo\/lo+n<=k->b.getD k nv=a.getD k nv
theorem Cr.z {a b:Ay Bs}(h:Cr a b lo n):b.size=a.size:=by
 have:=h.pm.length_eq;simpa using this
theorem Cr.rfl' {a:Ay Bs}:Cr a a lo n:=⟨Kb _,λ_ _=>rfl⟩
theorem Cr.mir {a b:Ay Bs}{i j:Ai}(h:Cr a b lo n)(h1:lo<=i)(h2:j<=lo+n)(h3:j<=a.size):Cr a (mir b i j) lo n:=
 ⟨(Ru.mp (mirror_perm _ _ _ _)).trans h.pm,λk Q=>by rw[wR (by rw[h.z];exact h3),Bg (by lia)];exact h.out k Q⟩
def Dsg (r:Bs->Ak)(a:Ay Bs)(lo n:Ai):Prop:=∀ i j,lo<=i->i<=j->j<lo+n->r (a.getD j nv)<=r (a.getD i nv)
theorem J8 {r:Bs->Ak}{a:Ay Bs}(h:Seg r a lo n)(h1:1<=n)(l:r (a.getD (lo+n-1) nv)<=r (a.getD (lo+n) nv)):Seg r a lo (n+1):=λi j Q J U=>by
 by_cases q:j<lo+n
 .exact h i j Q J q
 .have:j=lo+n:=by lia
  subst this;by_cases Y:i=lo+n
  .subst Y;exact Lg _
  .exact Ff (h i (lo+n-1) Q (by lia) (by lia)) l
theorem uN {r:Bs->Ak}{a:Ay Bs}(h:Dsg r a lo n)(h1:1<=n)(l:r (a.getD (lo+n) nv)<=r (a.getD (lo+n-1) nv)):Dsg r a lo (n+1):=λi j Q J U=>by
 by_cases q:j<lo+n
 .exact h i j Q J q
 .have:j=lo+n:=by lia
  subst this;by_cases Y:i=lo+n
  .subst Y;exact Lg _
  .exact Ff l (h i (lo+n-1) Q (by lia) (by lia))
theorem iP {r:Bs->Ak}{a:Ay Bs}:Seg r a lo 1:=λi j Q J Y=>by
 have:i=j:=by lia
 subst this;exact Lg _
theorem PN {r:Bs->Ak}{a:Ay Bs}:Dsg r a lo 1:=λi j Q J Y=>by
 have:i=j:=by lia
 subst this;exact Lg _
def YD (r:Bs->Ak)(a:Ay Bs)(lo n q:Ai):Prop:=q+1<=n/\∀ k,lo+n-(q+1)<=k->k<lo+n->r (a.getD k nv)=r (a.getD (lo+n-1) nv)
set_option tactic.hygienic true in
theorem kQ {r:Bs->Ak}{a:Ay Bs}{q:Ai}(Q:lo+n<=a.size)(h:YD r a lo n q)(k:Ai):r ((mir a (lo+n-(q+1)) (lo+n)).getD k nv)=r (a.getD k nv):=by
 rw[wR Q];have:=h.1
 split
 .rename_i c
  rw[h.2 k (by lia) c.2,h.2 _ (by lia) (by lia)]
 .rfl
theorem PM {r:Bs->Ak}{a:Ay Bs}(Q:lo+n<=a.size)(h:Dsg r a lo n):Seg r (mir a lo (lo+n)) lo n:=λi j Y U J=>by
 rw[wR Q,wR Q,Be (by lia),Be (by lia)]
 exact h _ _ (by lia) (by lia) (by lia)
section
variable {prog:Bf}{w:Bx}{A:Br}{E:Ac->Ag->Prop}{s:Ag}{κ : Mn}{U:Bs->Prop}{r:Bs->Ak}
theorem kI (C:Cm (Au prog w) A s κ U r){i j:Ai}{arr:Ay Bs}{J:Ay (Ai × Ai × Ai)}{g:Ai}{Q:Am As->Gg->Prop}(G:∀ x∈arr.toList,U x)(hi:i<arr.size)(Y:j<arr.size)
  (q:Q (Ab (decide (r (arr.getD i nv)<r (arr.getD j nv)))) (Di κ arr J g none)):wpS (Au prog w) A E s (ltAt' i j) Q (Di κ arr J g none):=by
 refine Bb (Ng ?_);exact Bb (zD hi (Bb (zD Y (C.lt (G _ (zN hi)) (G _ (zN Y)) rfl q))))
theorem bR {i j:Ai}{Y:Ay (Ai × Ai × Ai)}{g:Ai}{Q:PUnit->Gg->Prop}(q:Q ⟨⟩ (Di κ (mir arr i j) Y g none)):wpS (Au prog w) A E s (reverseSlice' i j) Q (Di κ arr Y g none):=Jn q
theorem dN (C:Cm (Au prog w) A s κ U r){lo N:Ai}{arr:Ay Bs}{T:Ay (Ai × Ai × Ai)}{g:Ai}{Q:Am Ai->Gg->Prop}(ua:∀ x∈arr.toList,U x)(h1:1<=N)(hz:lo+N<=arr.size)
  (h:∀ n b,1<=n->n<=N->Cr arr b lo N->Seg r b lo n->Q (Ab n) (Di κ b T g none)):wpS (Au prog w) A E s (countRun' lo N) Q (Di κ arr T g none):=by
 have uc:∀ {b:Ay Bs},Cr arr b lo N->∀ x∈b.toList,U x:=λh x u=>ua x (h.pm.mem_iff.mp u);have M:∀ {b:Ay Bs} {n:Ai} {f:Ai->Am (Am Ai) × Ai->Oy Gg Ko (ForInStep (Am (Am Ai) × Ai))},Cr arr b lo N->1<=n->n<=N->Seg r b lo n ->
   (∀ x m,f x (none,m)=(ltAt' (lo+m) (lo+m-1) >>= λo=>match o with
    |some z=>if z then pure (.done (none,m)) else pure (.yield (none,m+1))
    |_=>pure (.done (Ab none,m))))->wpS (Au prog w) A E s (forIn [n:N] (none,n) f) (λc Y=>Y=Di κ b T g none/\∃ m,c=(none,m)/\n<=m/\m<=N/\Seg r b lo m/\(m=N\/r (b.getD (lo+m) nv)<r (b.getD (lo+m-1) nv))) (Di κ b T g none):=by
  intro b n f J hn hN B hf;have zb:=J.z;refine Fm (I:=λx c Y=>Y=Di κ b T g none/\c=(none,x)/\n<=x/\Seg r b lo x) ?_ ?_ ⟨rfl,rfl,Av _,B⟩
  .rintro x c Y y u ⟨rfl,rfl,za,B⟩
   rw[hf];refine Bb (kI C (uc J) (by lia) (by lia) ?_)
   by_cases l:r (b.getD (lo+x) nv)<r (b.getD (lo+x-1) nv)
   .simp only[l,Kh,Eh]
    exact Bn ⟨rfl,x,rfl,y,by lia,B,.inr l⟩
   .simp only[l,Kl,Bw,Ec]
    exact Bn ⟨rfl,rfl,by lia,J8 B (by lia) (by lia)⟩
  .rintro c Y ⟨rfl,rfl,za,B⟩
   rw[show max n N=N by lia] at B ⊢
   exact⟨rfl,N,rfl,hN,Av _,B,.inl rfl⟩
 refine Bb (Hs (M Cr.rfl' (Av 1) h1 iP λ_ _=>rfl) ?_);rintro c Y ⟨rfl,n,rfl,v,n2,B,nd⟩;dsimp only;refine qO (λe=>Bn (h n arr v n2 Cr.rfl' B)) λe=>?_;have e:¬ n=N:=by simpa using e
 have nd:r (arr.getD (lo+n) nv)<r (arr.getD (lo+n-1) nv):=by lia
 apply qO
 case' h1 =>
  intro np;refine Bb (kI C ua (by lia) (by lia) ?_)
  dsimp only;refine qO (λe=>Bn (h n arr v n2 Cr.rfl' B)) λl=>?_;have l:¬ r (arr.getD lo nv)<r (arr.getD (lo+n-1) nv):=by simpa using l
  refine Bb (bR ?_);have J:Cr arr (mir arr lo (lo+n)) lo N:=Cr.rfl'.mir (Av _) (by lia) (by lia)
  have G:Dsg r (mir arr lo (lo+n)) lo (n+1):=by
   refine uN (λi j a b c=>?_) v ?_
   .rw[wR (by lia),wR (by lia),Be (by lia),Be (by lia)]
    exact B _ _ (by lia) (by lia) (by lia)
   .rw[wR (by lia),wR (by lia),Bg (by lia),Be (by lia),show lo+(lo+n)-1-(lo+n-1)=lo by lia]
    lia
 case' h2 =>
  intro np;have J:Cr arr arr lo N:=Cr.rfl';have G:Dsg r arr lo (n+1):=by
   have:n=1:=by lia
   subst this;exact uN PN (Av _) (Hv nd)
 all_goals
  refine Bb (Ry (He ⟨rfl,?_⟩));refine Bb (Hs (Fm (I:=λx c Y=>∃ b q,Y=Di κ b T g none/\c=(none,x,q)/\Cr arr b lo N/\Dsg r b lo x/\YD r b lo x q)
   (Q:=λc Y=>∃ b m q,Y=Di κ b T g none/\c=(none,m,q)/\1<=m/\m<=N/\Cr arr b lo N/\Dsg r b lo m/\YD r b lo m q) ?_ ?_ ⟨_,0,rfl,rfl,J,G,by lia,λk a b=>by rw[show k=lo+(n+1)-1 by lia]⟩) ?_)
  .rintro x c Y y u ⟨b,q,rfl,rfl,J,G,O⟩
   dsimp only;have zb:=J.z;refine Bb (kI C (uc J) (by lia) (by lia) ?_)
   dsimp only;refine qO (λl=>?_) λl=>?_
   .have l:r (b.getD (lo+x) nv)<r (b.getD (lo+x-1) nv):=by simpa using l
    refine qO (λqp=>Bb (bR (Bn ⟨_,0,rfl,rfl,J.mir (by have:=O.1;lia) (by lia) (by lia),λi j a c d=>?_,by lia,λk a b=>by rw[show k=lo+(x+1)-1 by lia]⟩))) λqp=>Bn ⟨_,0,rfl,rfl,J,uN G (by lia) (Hv l),by lia,λk a b=>by rw[show k=lo+(x+1)-1 by lia]⟩
    rw[kQ (by lia) O,kQ (by lia) O]
    exact uN G (by lia) (Hv l) i j a c d
   .have l:¬ r (b.getD (lo+x) nv)<r (b.getD (lo+x-1) nv):=by simpa using l
    refine Bb (kI C (uc J) (by lia) (by lia) ?_)
    dsimp only;refine qO (λp=>Bn ⟨b,x,q,rfl,rfl,by lia,by lia,J,G,O⟩) λp=>?_
    have p:¬ r (b.getD (lo+x-1) nv)<r (b.getD (lo+x) nv):=by simpa using p
    have ee:r (b.getD (lo+x) nv)=r (b.getD (lo+x-1) nv):=by lia
    refine Bn ⟨b,q+1,rfl,rfl,J,uN G (by lia) (by lia),by have:=O.1;lia,λk a c=>?_⟩
    rw[show lo+(x+1)-1=lo+x by lia]
    by_cases kx:k=lo+x
    .rw[kx]
    .rw[ee];exact O.2 k (by lia) (by lia)
  .rintro c Y ⟨b,q,rfl,rfl,J,G,O⟩
   rw[show max (n+1) N=N by lia] at G O ⊢
   exact⟨b,N,q,rfl,rfl,h1,Av _,J,G,O⟩
  .rintro c Y ⟨b,m,q,rfl,rfl,m1,m2,J,G,O⟩
   dsimp only;have zb:=J.z;apply qO
   case' h1 =>
    intro qp;refine Bb (bR ?_);have L:=J.mir (i:=lo+m-(q+1)) (j:=lo+m) (by have:=O.1;lia) (by lia) (by lia)
    have H:Dsg r (mir b (lo+m-(q+1)) (lo+m)) lo m:=λi j a c d=>by
     rw[kQ (by lia) O,kQ (by lia) O]
     exact G i j a c d
   case' h2 =>
    intro qp;have L:=J;have H:=G
   all_goals
    have z2:=L.z;refine Bb (bR ?_);refine Bb (Hs (M (L.mir (Av _) (by lia) (by lia)) m1 m2 (PM (by lia) H) λ_ _=>rfl) ?_)
    rintro c Y ⟨rfl,n',rfl,q1,q2,q3,_⟩;exact Bn (h n' _ (by lia) q2 (L.mir (Av _) (by lia) (by lia)) q3)
end
theorem sT {a:Ay Bs}{Q d:Ai}(hs:Q<a.size)(Y:d<=Q)(k:Ai):(bubble a Q d).getD k nv=if k=Q-d then a.getD Q nv else if Q-d<k/\k<=Q then a.getD (k-1) nv else a.getD k nv:=by
 simp only[Fj];rw[getElem?_bubble hs d Y]
 repeat' split
 all_goals rfl
section
variable {prog:Bf}{w:Bx}{A:Br}{E:Ac->Ag->Prop}{s:Ag}{κ : Mn}{U:Bs->Prop}{r:Bs->Ak}
theorem cG (C:Cm (Au prog w) A s κ U r){lo n ok:Ai}{arr:Ay Bs}{N:Ay (Ai × Ai × Ai)}{g:Ai}{Q:As->Gg->Prop}(v:∀ x∈arr.toList,U x)(h1:ok<=n)(hz:lo+n<=arr.size)(J:Seg r arr lo ok)
  (h:∀ b,Cr arr b lo n->Seg r b lo n->Q true (Di κ b N g none)):wpS (Au prog w) A E s (binarySort' lo n ok) Q (Di κ arr N g none):=by
 have o:∀ {b:Ay Bs},Cr arr b lo n->∀ x∈b.toList,U x:=λh x H=>v x (h.pm.mem_iff.mp H);have T:Seg r arr lo (max ok 1):=by
  by_cases q:ok=0
  .rw[q];exact iP
  .rw[show max ok 1=ok by lia];exact J
 refine Bb (Hs (Fm (I:=λk c Y=>c=(none,())/\∃ b,Y=Di κ b N g none/\Cr arr b lo n/\Seg r b lo (min k (max ok (max n 1))))
  (Q:=λc Y=>c=(none,())/\∃ b,Y=Di κ b N g none/\Cr arr b lo n/\Seg r b lo n) ?_ ?_ ⟨rfl,arr,rfl,Cr.rfl',?_⟩) ?_)
 .rintro k c Y hk za ⟨rfl,b,rfl,G,J⟩
  have zb:=G.z;rw[show min k (max ok (max n 1))=k by lia] at J
  dsimp only;refine Bb (Hs (Fm (I:=λx c Y=>Y=Di κ b N g none/\∃ l u,c=(none,l,u)/\l<=u/\u<=k/\u-l<=k-x/\(∀ i,i<l->r (b.getD (lo+i) nv)<=r (b.getD (lo+k) nv))/\∀ i,u<=i->i<k->r (b.getD (lo+k) nv)<r (b.getD (lo+i) nv))
   (Q:=λc Y=>Y=Di κ b N g none/\∃ l u,c=(none,l,u)/\l<=k/\(∀ i,i<l->r (b.getD (lo+i) nv)<=r (b.getD (lo+k) nv))/\∀ i,l<=i->i<k->r (b.getD (lo+k) nv)<r (b.getD (lo+i) nv)) ?_ ?_
   ⟨rfl,0,k,rfl,by lia,by lia,by lia,λi hi=>by lia,λi a b=>by lia⟩) ?_)
  .rintro x c Y _ H ⟨rfl,l,u,rfl,M,q2,p,O,B⟩
   dsimp only;refine qO (λe=>Bn ⟨rfl,l,u,rfl,by lia,O,λi a b=>B i (by lia) b⟩) λe=>?_
   refine Bb (kI C (o G) (by lia) (by lia) ?_)
   dsimp only;refine qO (λz=>?_) λz=>?_
   .have z:r (b.getD (lo+k) nv)<r (b.getD (lo+(l+u)/2) nv):=by simpa using z
    exact Bn ⟨rfl,_,_,rfl,by lia,by lia,by lia,O,λi a c=>Int.lt_of_lt_of_le z (J _ _ (by lia) (by lia) (by lia))⟩
   .have z:¬ r (b.getD (lo+k) nv)<r (b.getD (lo+(l+u)/2) nv):=by simpa using z
    exact Bn ⟨rfl,_,_,rfl,by lia,by lia,by lia,λi a=>Ff (J _ _ (by lia) (by lia) (by lia)) (AaK.mp z),B⟩
  .rintro c Y ⟨rfl,l,u,rfl,M,q2,p,O,B⟩
   exact⟨rfl,l,u,rfl,by lia,O,λi a b=>B i (by lia) b⟩
  .rintro c Y ⟨rfl,l,u,rfl,M,O,B⟩
   dsimp only;refine Bb (Jn (Bn ⟨rfl,_,rfl,⟨(Ru.mp (bubble_perm _ _ _)).trans G.pm,λj f=>?_⟩,?_⟩))
   .show (bubble b (lo+k) (lo+k-(lo+l))).getD j nv=_
    rw[sT (by lia) (by lia),Bg (by lia),Bg (by lia)]
    exact G.out j f
   .rw[show min (k+1) (max ok (max n 1))=k+1 by lia]
    have e:∀ j,(bubble b (lo+k) (lo+k-(lo+l))).getD j nv=if j=lo+l then b.getD (lo+k) nv else if lo+l<j/\j<=lo+k then b.getD (j-1) nv else b.getD j nv:=λj=>by
     rw[sT (by lia) (by lia),show lo+k-(lo+k-(lo+l))=lo+l by lia]
    intro i j a c d;show r ((bubble b (lo+k) (lo+k-(lo+l))).getD i nv)<=r ((bubble b (lo+k) (lo+k-(lo+l))).getD j nv);rw[e,e];by_cases i1:i<lo+l
    .rw[Bg (by lia),Bg (by lia)]
     have y:=O (i-lo) (by lia)
     rw[show lo+(i-lo)=i by lia] at y
     by_cases j1:j<lo+l
     .rw[Bg (by lia),Bg (by lia)];exact J i j a c (by lia)
     .by_cases L:j=lo+l
      .rw[Be L];exact y
      .rw[Bg L,Be (by lia)];exact J _ _ a (by lia) (by lia)
    .by_cases i2:i=lo+l
     .rw[Be i2]
      by_cases L:j=lo+l
      .rw[Be L];exact Lg _
      .rw[Bg L,Be (by lia)]
       have:=B (j-1-lo) (by lia) (by lia)
       rw[show lo+(j-1-lo)=j-1 by lia] at this
       exact Hv this
     .rw[Bg i2,Be (by lia),Bg (by lia),Be (by lia)]
      exact J _ _ (by lia) (by lia) (by lia)
 .rintro c Y ⟨rfl,b,rfl,G,J⟩
  refine⟨rfl,b,rfl,G,?_⟩;intro i j a c d;exact J i j a c (by lia)
 .rw[show min (max ok 1) (max ok (max n 1))=max ok 1 by lia];exact T
 .rintro c Y ⟨rfl,b,rfl,G,J⟩
  exact Bn (h b G J)
end
def Rn (r:Bs->Ak)(a:Ay Bs):Aa (Ai × Ai × Ai)->Ai->Ai->Prop
 |[],x,y=>x=y
 |(s,n,_)::t,x,y=>s=x/\0<n/\Seg r a s n/\Rn r a t (x+n) y
section
variable {r:Bs->Ak}{a b:Ay Bs}
theorem Rn.app:∀ {O Q:Aa (Ai × Ai × Ai)} {x y:Ai},Rn r a (O++Q) x y↔∃ m,Rn r a O x m/\Rn r a Q m y
 |[],Q,x,y=>⟨λh=>⟨x,rfl,h⟩,λ⟨m,J,Y⟩=>by cases J;exact Y⟩
 |(s,n,p)::t,Q,x,y=>by
  show s=x/\0<n/\Seg r a s n/\Rn r a (t++Q) (x+n) y↔∃ m,(s=x/\0<n/\Seg r a s n/\Rn r a t (x+n) m)/\Rn r a Q m y;rw[Rn.app];exact⟨λ⟨J,Y,N,m,U,G⟩=>⟨m,⟨J,Y,N,U⟩,G⟩,λ⟨m,⟨J,Y,N,U⟩,G⟩=>⟨J,Y,N,m,U,G⟩⟩
theorem Rn.le:∀ {L:Aa (Ai × Ai × Ai)} {x y:Ai},Rn r a L x y->x+L.length<=y
 |[],x,y,h=>by cases h;simp
 |(s,n,p)::t,x,y,h=>by have:=Rn.le h.2.2.2;have:=h.2.1;simp only[Ca];lia
theorem Rn.congr:∀ {L:Aa (Ai × Ai × Ai)} {x y:Ai},Rn r a L x y->(∀ k,x<=k->k<y->b.getD k nv=a.getD k nv)->Rn r b L x y
 |[],x,y,h,_=>h
 |(s,n,p)::t,x,y,h,e=>by
  obtain⟨rfl,Q,J,Y⟩:=h;have l:=Rn.le Y;refine⟨rfl,Q,λi j a c d=>?_,Rn.congr Y λk U Q=>e k (by lia) Q⟩
  rw[e i (by lia) (by lia),e j (by lia) (by lia)]
  exact J i j a c d
theorem Rn.mod {f:Ai × Ai × Ai->Ai × Ai × Ai}(Q:∀ u v p,∃ Y,f (u,v,p)=(u,v,Y)):∀ {L:Aa (Ai × Ai × Ai)} {i x y:Ai},Rn r a L x y->Rn r a (L.modify i f) x y
 |[],i,x,y,h=>by simpa using h
 |(s,n,p)::t,0,x,y,h=>by
  obtain⟨Y,e⟩:=Q s n p;rw[List.modify_zero_cons,e];exact h
 |(s,n,p)::t,i+1,x,y,h=>by
  rw[List.modify_succ_cons];exact⟨h.1,h.2.1,h.2.2.1,Rn.mod Q h.2.2.2⟩
end
theorem ED {α:Type}{l:Aa α}{i:Ai}(h:i+1<l.length):∃ Q x y Y,l=Q++x::y::Y/\Q.length=i:=by
 refine⟨l.take i,l[i],l[i+1],l.drop (i+2),?_,by rw[Ez];lia⟩
 rw[<- Hy h,<- Hy (by lia),Pa]
section
variable {prog:Bf}{w:Bx}{A:Br}{E:Ac->Ag->Prop}{s:Ag}{κ : Mn}{U:Bs->Prop}{r:Bs->Ak}
theorem mU (C:Cm (Au prog w) A s κ U r){i e:Ai}{Q:As->Gg->Prop}{arr:Ay Bs}{Y:Ay (Ai × Ai × Ai)}{g:Ai}(o:∀ x∈arr.toList,U x)(hi:i+1<Y.size)(R:Rn r arr Y.toList 0 e)(he:e<=arr.size)
  (h:∀ b J g,b.toList.Perm arr.toList->(∀ k,e<=k->b.getD k nv=arr.getD k nv)->Rn r b J.toList 0 e->J.size+1=Y.size->Q true (Di κ b J g none)):wpS (Au prog w) A E s (mergeAt' i) Q (Di κ arr Y g none):=by
 obtain⟨f,⟨N,B,pa⟩,⟨sb,T,pb⟩,y,O,L⟩:=ED (l:=Y.toList) (i:=i) (by simpa using hi)
 rw[O] at R;obtain⟨m,u,rfl,p,s1,rfl,j,s2,R2⟩:=Rn.app.mp R;have l2:=Rn.le R2;have M:Y[i]? = Ab (N,B,pa):=by
  rw[<- Bk,O,<- L,Cw (Av _),Za];rfl
 have d:Y[i+1]? = Ab (N+B,T,pb):=by
  rw[<- Bk,O,<- L,Cw (by lia),Km];rfl
 refine cT C o M d p j (by lia) s1 s2 λb g c G v=>?_
 have H:((Y.setIfInBounds i (N,B+T,pa)).eraseIdxIfInBounds (i+1)).toList=f++(N,B+T,pa)::y:=by
  rw[Array.toList_eraseIdxIfInBounds,Array.toList_setIfInBounds,O,<- L,List.set_append_right _ _ (Av _),Za,List.set_cons_zero,List.eraseIdx_append_of_length_le (by lia),Km]
  rfl
 refine h b _ g c (λk I=>G k (by lia)) ?_ ?_
 .rw[H]
  refine Rn.app.mpr ⟨N,u.congr λk _ I=>G k (by lia),rfl,by lia,v,?_⟩
  rw[<- Nat.add_assoc];exact R2.congr λk I _=>G k (by lia)
 .have:=congrArg Kz H
  have q:=congrArg Kz O;simp only[Bl,Cf,Ca] at this q
  lia
theorem dO (C:Cm (Au prog w) A s κ U r){Q:Qf->Gg->Prop}{arr:Ay Bs}{g:Ai}(ua:∀ x∈arr.toList,U x)(h2:0<arr.size)
  (h:∀ b Y g,b.toList.Perm arr.toList->b.toList.Pairwise (Le r)->Q () (Di κ b Y g none)):wpS (Au prog w) A E s sortRuns' Q (Di κ arr #[] g none):=by
 have p:∀ {b:Ay Bs},b.toList.Perm arr.toList->∀ x∈b.toList,U x:=λh x hx=>ua x (h.mem_iff.mp hx);have o:∀ {b:Ay Bs},b.toList.Perm arr.toList->b.size=arr.size:=λh=>by simpa using h.length_eq
 refine Bb (Ng ?_);dsimp only;refine Bb (Hs (Fm (I:=λx c J=>∃ b Y g lo,J=Di κ b Y g none/\c=(none,lo)/\b.toList.Perm arr.toList/\lo<=arr.size/\min x arr.size<=lo/\Rn r b Y.toList 0 lo)
  (Q:=λc J=>∃ b Y g,J=Di κ b Y g none/\c=(none,arr.size)/\b.toList.Perm arr.toList/\Rn r b Y.toList 0 arr.size) ?_ ?_ ⟨arr,#[],g,0,rfl,rfl,Kb _,by lia,by lia,rfl⟩) ?_)
 .rintro x c J _ hx ⟨b,Y,g,lo,rfl,rfl,G,lo1,zd,R⟩
  have f:=o G;dsimp only;refine qO (λe=>Bn ⟨b,Y,g,rfl,by rw[show lo=arr.size by lia],G,by rw[show arr.size=lo by lia];exact R⟩) λe=>?_
  refine Bb (dN C (p G) (by lia) (by lia) λn b2 n1 n2 cr N=>?_)
  have R2:Rn r b2 Y.toList 0 lo:=R.congr λk _ hk=>cr.out k (.inl hk);have O:=cr.pm.trans G;have z2:=o O;dsimp only;apply qO
  case' h1 =>
   intro lt;refine Bb (Ry (He ⟨rfl,?_⟩));refine Bb (cG C (p O) (by lia) (by lia) N λb3 M B=>?_)
   have R3:Rn r b3 Y.toList 0 lo:=R2.congr λk _ hk=>M.out k (.inl hk);have T:=M.pm.trans O;refine qO (λe=>by simp at e) λ_=>?_
   have n3:lo+min (arr.size-lo) ((sortPriv% PySem.Builtin.minRun) arr.size arr.size 0)<=arr.size:=by lia
   have n4:0<min (arr.size-lo) ((sortPriv% PySem.Builtin.minRun) arr.size arr.size 0):=by lia
  case' h2 =>
   intro lt;have R3:=R2;have T:=O;have B:=N;have n3:lo+n<=arr.size:=by lia
   have n4:0<n:=n1
  all_goals
   refine Bb (Ng ?_);dsimp only;rcases hb:Y.back? with _|⟨s1,l1,p1⟩
   .dsimp only
    refine Bb (Jn (Bn ⟨_,_,_,_,rfl,rfl,T,n3,by lia,?_⟩))
    show Rn r _ (Y.push _).toList 0 _;rw[Er];exact Rn.app.mpr ⟨lo,R3,rfl,n4,B,rfl⟩
   .dsimp only
    refine Bb (Hs (Fm (I:=λ_ c J=>c=(none,())/\∃ b Y g,J=Di κ b Y g none/\b.toList.Perm arr.toList/\Rn r b Y.toList 0 lo/\Seg r b lo _)
     (Q:=λc J=>c=(none,())/\∃ b Y g,J=Di κ b Y g none/\b.toList.Perm arr.toList/\Rn r b Y.toList 0 lo/\Seg r b lo _) ?_ (λ_ _ z=>z) ⟨rfl,_,Y,g,rfl,T,R3,B⟩) ?_)
    .rintro y c J _ hy ⟨rfl,b,Y,g,rfl,G,R,N⟩
     have f:=o G;refine Bb (Ng ?_);dsimp only;by_cases hp:Y.size>1
     .rw[Be hp]
      rcases hq:Y[Y.size-2]? with _|⟨u,v,zf⟩
      .exact Bn ⟨rfl,b,Y,g,rfl,G,R,N⟩
      .dsimp only
       refine qO (λ_=>Bn ⟨rfl,b,Y,g,rfl,G,R,N⟩) λ_=>?_;refine Bb (mU C (p G) (by lia) R (by lia) λb' L g' p' H R' _=>?_)
       refine qO (λe=>by simp at e) λ_=>Bn ⟨rfl,b',L,g',rfl,p'.trans G,R',λi j a c d=>?_⟩
       rw[H i a,H j (by lia)]
       exact N i j a c d
     .rw[Bg hp]
      exact Bn ⟨rfl,b,Y,g,rfl,G,R,N⟩
    .rintro c J ⟨rfl,b,Y,g,rfl,G,R,N⟩
     dsimp only;refine Bb (Jn (Bb (Jn (Bn ⟨_,_,_,_,rfl,rfl,G,n3,by lia,?_⟩))))
     show Rn r b ((Y.modify (Y.size-1) _).push _).toList 0 _;rw[Er,Array.toList_modify];exact Rn.app.mpr ⟨lo,Rn.mod (λ_ _ _=>⟨_,rfl⟩) R,rfl,n4,N,rfl⟩
 .rintro c J ⟨b,Y,g,lo,rfl,rfl,G,lo1,zd,R⟩
  have:lo=arr.size:=by lia
  subst this;exact⟨b,Y,g,rfl,rfl,G,R⟩
 .rintro c J ⟨b,Y,g,rfl,rfl,G,R⟩
  dsimp only;have hl:=R.le;rw[Bl] at hl;refine Bb (Hs (Fm (I:=λx c J=>c=(none,())/\∃ b Y g,J=Di κ b Y g none/\b.toList.Perm arr.toList/\Rn r b Y.toList 0 arr.size/\(Y.size<=1\/Y.size+x<=arr.size))
   (Q:=λc J=>c=(none,())/\∃ b Y g,J=Di κ b Y g none/\b.toList.Perm arr.toList/\Rn r b Y.toList 0 arr.size/\Y.size<=1) ?_ ?_ ⟨rfl,b,Y,g,rfl,G,R,by lia⟩) ?_)
  .rintro x c J _ hx ⟨rfl,b,Y,g,rfl,G,R,hs⟩
   have f:=o G;refine Bb (Ng ?_);dsimp only;refine qO (λe=>Bn ⟨rfl,b,Y,g,rfl,G,R,e⟩) λe=>?_;refine Bb (mU C (p G) ?_ R (by lia) λb' L g' p' H R' z'=>?_)
   .have e:¬ Y.size<=1:=e
    have q:∀ (c:Prop) [Jr c],(if c then Y.size-2-1 else Y.size-2)+1<Y.size:=λc _=>by split <;> lia
    exact q _
   exact qO (λe=>by simp at e) λ_=>Bn ⟨rfl,b',L,g',rfl,p'.trans G,R',by lia⟩
  .rintro c J ⟨rfl,b,Y,g,rfl,G,R,hs⟩
   exact⟨rfl,b,Y,g,rfl,G,R,by lia⟩
  .rintro c J ⟨rfl,b,Y,g,rfl,G,R,hs⟩
   have f:=o G;refine Bn (h b Y g G ?_);have hs:Y.toList.length<=1:=by simpa using hs
   revert R hs
   cases Y.toList with
   |nil=>intro R;have:0=arr.size:=R;lia
   |cons q t =>
    obtain⟨s0,n0,p0⟩:=q;intro R hs;have:t=[]:=by cases t with|nil=>rfl|cons _ _=>simp at hs
    subst this;obtain⟨rfl,_,N,e⟩:=R;have e:n0=arr.size:=by have:0+n0=arr.size:=e;lia
    subst e;rw[Jt];intro i j hi hj l;have za:i<b.size:=by simpa using hi
    have ze:j<b.size:=by simpa using hj
    have:=N i j (by lia) (by lia) (by lia)
    simpa [Gv,za,ze,Le] using this
end
structure Cmps (prog:Bf)(w:Bx)(h0:Bo)(vs:Aa Ac)(f:Ai->Ai->As):Prop where
 ex:∃ κ,∀ (A:Br),A.units+8<Fk->∀ (s:Ag),Sup h0 s.heap->(∀ (Q:Mn->Ag->Prop) (E:Ac->Ag->Prop),Q κ s->Ao (Au prog w) A (keyKind' vs.toArray) Q E s)/\∀ i j (C:As->Ag->Prop),i<vs.length->j<vs.length->C (f i j) s->kas_ask prog w A κ vs i j C s
open Classical in
def kV {K:Type}(is:K->Ac->Prop)(d:K)(v:Ac):K:=if h:∃ k,is k v then choose h else d
open Classical in
theorem g9 {K:Type}{is:K->Ac->Prop}{d:K}{v:Ac}(h:∃ k,is k v):is (kV is d v) v:=by
 unfold kV;rw[dif_pos h];exact choose_spec h
section
variable {prog:Bf}{w:Bx}{A:Br}{E:Ac->Ag->Prop}{s:Ag}
theorem KG {K:Type}{is:K->Ac->Prop}{lt':K->K->As}{d:K}(O:Ord lt')(inj:∀ {k k':K} {v:Ac},is k v->is k' v->k=k'){a:Af}{vs:Aa Ac}{ks:Aa K}{n:Ai}{h0:Bo}{P:PySem.Fin->Ag->Prop}(J:vs.length=ks.length)(zc:∀ i v,vs[i]? = Ab v->is (ks.getD i d) v)(ho:s.heap.get? a=Ab (Es "list" vs.toArray n))(hu:A.units+8<Fk)(hz:vs.length<=100000)(c:2<=vs.length->Cmps prog w h0 vs (sQ lt' ks d))(hS:Sup h0 s.heap)(ha:h0.get? a=none)
  (h:∀ ps:Aa (K × Ac),ps.Perm (ks.zip vs)->Nf lt' (ps.map (·.1))->P (.done (.ret .none)) { s with heap:=sortedHeap s.heap a vs (ps.map (·.2)).toArray }) : Ao (Au prog w) A (Ik.«list.sort» ⟨[.ref a],[]⟩) P E s:=by
 rw[list_sort_plain];have hb:a<s.heap.objs.size:=Ba ho;have zb:vs.toArray.size=vs.length:=by simp
 refine Ad (listItems_at ho rfl (Ad (listUpdate_at ho rfl ?_ (by rw[zb,Fb];lia) (Hk _))))
 obtain⟨H,T⟩:∃ H,(s.heap.update a (Fc λ_=>#[])).get? a=Ab (Es "list" #[] H):=⟨_,Mp ho (λ_=>#[])⟩;refine Ad (seqEpoch_at T rfl (Ad (Wk (Ad (Xu (Ed ?_) (Hk _))) (by show vs.length<=_;rw[Fb];lia))))
 have I:(((s.heap.update a (Fc λ_=>#[])).push (Es "tuple" vs.toArray 0)).push (Es "list" #[] 0)).get? a=Ab (Es "list" #[] H):=
  Ah _ (Ah _ T)
 have S6:Sup h0 (((s.heap.update a (Fc λ_=>#[])).push (Es "tuple" vs.toArray 0)).push (Es "list" #[] 0)):=λb o e =>
  Ah _ (Ah _ ((Dj _ _ (λz:a=b=>by rw[<- z,ha] at e;cases e)).trans (hS b o e)))
 show Ao (Au prog w) A _ P E { s with heap:=((s.heap.update a (Fc λ_=>#[])).push (Es "tuple" vs.toArray 0)).push (Es "list" #[] 0) }
 dsimp only;have fin:∀ (Y:Gg) (ps:Aa (K × Ac)),(arrOf Y).map (·.2)=(ps.map (·.2)).toArray->failedOf Y=none->ps.Perm (ks.zip vs)->Nf lt' (ps.map (·.1))->Ao (Au prog w) A (do
   let N:=(<- seqEpoch a) != H
   Builtin.List.listUpdate (.ref a) λ_=>(arrOf Y).map (·.2)
   if let Ab e:=failedOf Y then rule "list.sort.comparison-raised";throw e
   if N then rule "list.sort.modified";raiseError "ValueError" "list modified during sort"
   ret .none) P E { s with heap:=((s.heap.update a (Fc λ_=>#[])).push (Es "tuple" vs.toArray 0)).push (Es "list" #[] 0) }:=by
  intro Y ps h1 U f h4;have hl:(ps.map (·.2)).length=vs.length:=by rw[Aq,f.length_eq,Vm,J,Yv]
  refine Ad (seqEpoch_at I rfl ?_);rw[h1];refine Ad (listUpdate_at I rfl ?_ (Hk _) (by show (ps.map (·.2)).toArray.size<=_;rw[AT,hl,Fb];lia))
  rw[U];simp only[bne_self_eq_false,Bw,Ec];exact Al (h ps f h4)
 by_cases U:vs.toArray.size<2
 .rw[Be U,Be U]
  refine Ad (Al ?_);rw[StateT.run_pure];refine Ad (Al ?_);refine fin (Di general' (vs.toArray.zip vs.toArray) #[] 7 none) (ks.zip vs) ?_ rfl (Kb _) ?_
  .show (vs.toArray.zip vs.toArray).map (·.2)=_
   apply Aa4.mp;simp[List.map_snd_zip,J]
  .rw[TW (by lia)]
   match ks,J with
   |[],_=>exact Np
   |[_],_=>exact Uk _ _
   |_::_::_,e=>simp at e U;lia
 .rw[Bg U,Bg U]
  have za:2<=vs.length:=by lia
  obtain⟨κ,C⟩:=c za;obtain⟨k1,k2⟩:=C A hu { s with heap:=((s.heap.update a (Fc λ_=>#[])).push (Es "tuple" vs.toArray 0)).push (Es "list" #[] 0) } S6
  have r:∀ i,i<vs.length->kV is d (vs.getD i Dk)=ks.getD i d:=λi G=>by
   have q:=zc i (vs.getD i Dk) (by rw[Rv,Ap G];rfl)
   exact inj (g9 ⟨_,q⟩) q
  have km:∀ i,i<vs.length->ks.getD i d∈ks:=λi G=>by
   have:i<ks.length:=by lia
   simp[Lb,this]
  have cm:Cm (Au prog w) A { s with heap:=((s.heap.update a (Fc λ_=>#[])).push (Es "tuple" vs.toArray 0)).push (Es "list" #[] 0) } κ (λx=>∃ i,i<vs.length/\x=(vs.getD i Dk,vs.getD i Dk)) (λx=>gK lt' ks (kV is d x.1)):=by
   refine⟨?_⟩;rintro x y ⟨i,G,rfl⟩ ⟨j,L,rfl⟩ E Q st hk q;rw[lt'_eq];refine Bb (Ng ?_);rw[hk];rw[r i G,r j L,<- eW O (km i G)] at q;refine Bb (Ry (Ix (Gm (k2 i j (λb s'=>s'=_/\b=sQ lt' ks d i j) G L ⟨rfl,rfl⟩) ?_ λ_ _ e=>e.elim)));rintro b s' ⟨rfl,rfl⟩;exact⟨rfl,Bn q⟩
  have pl:(vs.toArray.zip vs.toArray).toList=(Cu vs.length).map λi=>(vs.getD i Dk,vs.getD i Dk):=by
   apply TD
   .simp
   .intro i h1 U
    have:i<vs.length:=by simpa using U
    simp[this]
  refine Ad (k1 _ _ ?_);refine Ad (Gm (dO (E:=E) (Q:=λ_ Y=>∃ b M g,Y=Di κ b M g none/\b.toList.Perm (vs.toArray.zip vs.toArray).toList/\b.toList.Pairwise (Le λx=>gK lt' ks (kV is d x.1))) cm (arr:=vs.toArray.zip vs.toArray) (g:=7) ?_ ?_ λb M g p q=>⟨b,M,g,rfl,p,q⟩) ?_ λ_ _ e=>e)
  .intro x B
   rw[pl] at B;obtain⟨i,G,rfl⟩:=Ci.mp B;exact⟨i,Du.mp G,rfl⟩
  .simp;lia
  .rintro⟨⟨⟩,Y⟩ s' ⟨rfl,b,M,g,rfl,pm,up⟩
   refine fin _ (b.toList.map λx=>(kV is d x.1,x.2)) ?_ rfl ?_ ?_
   .show b.map (·.2)=_
    apply Aa4.mp;simp
   .refine(pm.map _).trans ?_
    rw[pl,Gk];have:ks.zip vs=(Cu vs.length).map λi=>(ks.getD i d,vs.getD i Dk):=by
     apply TD
     .simp[J]
     .intro i h1 U
      have f:i<vs.length:=by simpa using U
      have h4:i<ks.length:=by lia
      simp[f,h4]
    rw[this];refine List.Perm.of_eq (Ki λi G=>?_);show (kV is d (vs.getD i Dk),_)=_;rw[r i (Du.mp G)]
   .unfold Nf
    rw[Gk,Ep];refine up.imp_of_mem λ{x y} B u h=>?_;have B:=pm.mem_iff.mp B;have u:=pm.mem_iff.mp u;rw[pl] at B u;obtain⟨i,G,rfl⟩:=Ci.mp B;obtain⟨j,L,rfl⟩:=Ci.mp u;have h:gK lt' ks (kV is d (vs.getD i Dk))<=gK lt' ks (kV is d (vs.getD j Dk)):=h;show lt' (kV is d (vs.getD j Dk)) (kV is d (vs.getD i Dk))=false;have L:=Du.mp L;rw[eW O (ks:=ks) (by rw[r j L];exact km j L)]
    exact Ds (by lia)
end
section
variable {prog:Bf}{w:Bx}{h0:Bo}
theorem BO {A:Br}{s:Ag}{b:As}{Q:As->Ag->Prop}:∀ {xs Y:Aa Ak} {us vs:Aa Ac} {i:Ai} {N M:Ai},ItemsAre (Bj prog w) xs us->ItemsAre (Bj prog w) Y vs->N+Y.length=M+xs.length->Q (_H.lexLt xs Y) s->KatLex prog w A b (decide (N<M)) Q (us.zip vs) i s:=by
 intro xs Y us vs i N M O
 induction O generalizing Y vs i with
 |nil =>
  intro U J h;cases U with
  |nil =>
   have:decide (N<M)=false:=Ds (by simp at J;lia)
   rw[this];exact h
  |@cons k v Y vs q r =>
   have:decide (N<M)=true:=Dl (by simp at J;lia)
   rw[this];exact h
 |@cons x u xs us B E G =>
  intro U J h;cases U with
  |nil =>
   have:decide (N<M)=false:=Ds (by simp at J;lia)
   rw[this];exact h
  |@cons y v Y vs L C =>
   obtain⟨t,rfl⟩:=wH (prog:=prog) (w:=w) B;obtain⟨T,rfl⟩:=wH (prog:=prog) (w:=w) L;rw[Re];refine kat_cons (ZB ?_);rw[_H.lexLt_cons] at h;refine kat_go (λe=>kat_yes ?_) λe=>kat_no ?_
   .rw[Be (by simpa using e)] at h
    exact G C (by simp at J;lia) h
   .rw[Bg (by simpa using e)] at h
    cases b&&i == 0 with
    |true=>exact oneLt_int h
    |false=>exact kat_one _ _ (Xg h)
theorem iW {h:Bo}:∀ {vs:Aa Ac} {ks:Aa (Aa Ak)},vs.length=ks.length->(∀ i v,vs[i]? = Ab v->isT prog w h (ks.getD i []) v)->(∀ k∈ks,k≠[])->∃ fs,KatTups h vs fs/\fs.length=vs.length/\∀ f∈fs,∃ n t,f=Pk n t
 |[],[],_,_,_=>⟨[],trivial,rfl,λf hf=>by simp at hf⟩
 |v::vs,k::ks,L,hv,J=>by
  obtain⟨fs,A,I,H⟩:=iW (vs:=vs) (ks:=ks) (by simpa using L) (λi u O=>by simpa using hv (i+1) u (by simpa using O)) λk U=>J k (by simp[U])
  obtain⟨a,rfl,o,Q,n,E,B,C,T⟩:=hv 0 v rfl;have U:k≠[]:=J k (by simp)
  have Y:ItemsAre (Bj prog w) k Q.toList:=T;cases G:Q.toList with
  |nil=>rw[G] at Y;cases Y;exact absurd rfl U
  |cons f N =>
   rw[G] at Y;cases Y with
   |cons q _ =>
    obtain⟨t,rfl⟩:=wH (prog:=prog) (w:=w) q;refine⟨_::fs,KatTups.cons E B C (by rw[<- Bk,G];rfl) A,by simp[I],λf hf=>?_⟩
    rcases Az.mp hf with rfl|hf
    .exact⟨_,_,rfl⟩
    .exact H f hf
theorem TQ {ks:Aa (Aa Ak)}(I:vs.length=ks.length)(hv:∀ i v,vs[i]? = Ab v->isT prog w h0 (ks.getD i []) v)(U:∀ k∈ks,k≠[])(h2:2<=vs.length):Cmps prog w h0 vs (sQ _H.lexLt ks []):=by
 refine⟨tuples' (Hc "int" != Hc "tuple"),λA d s N=>⟨λQ E h=>?_,λi j C H M h=>?_⟩⟩
 .obtain⟨fs,c,a2,p⟩:=iW (h:=s.heap) I (λi v Y=>by obtain⟨a,e,q⟩:=hv i v Y;exact⟨a,e,vX N q⟩) U
  refine kat_kind c (by lia) (λv Y=>?_) (by decide) h
  obtain⟨n,t,rfl⟩:=p v Y;exact Looks.of_pure rfl
 .have g:∀ k (J:k<vs.length),∃ a,vs.getD k Dk=.ref a/\Qn (Bj prog w) s.heap (ks.getD k []) a:=λk J=>by
   obtain⟨a,e,q⟩:=hv k vs[k] (Ap J);exact⟨a,by rw[<- e];simp[Lb,J],vX N q⟩
  obtain⟨a,ea,f,x,na,B,_,y,G⟩:=g i H;obtain⟨b,eb,ob,r,nb,L,_,o,O⟩:=g j M;unfold kas_ask;rw[ea,eb];refine kat_lt B y L o (BO G O ?_ h);have u:=G.length;have T:=O.length;simp only[Bl] at u T
  lia
theorem TN {ks:Aa Ak}(I:vs.length=ks.length)(hv:∀ i v,vs[i]? = Ab v->isI prog w (ks.getD i 0) v)(h2:2<=vs.length):Cmps prog w h0 vs (sQ ltI ks 0):=by
 have U:∀ v∈vs,∃ n t,v=Pk n t:=λv N=>by
  obtain⟨i,U,e⟩:=Cz.mp N;obtain⟨t,q⟩:=wH (hv i v (by rw[Ap U,e]))
  exact⟨_,t,q⟩
 refine⟨oneType',λA T s H=>⟨λQ E h=>?_,λi j C U O h=>?_⟩⟩
 .obtain⟨v₁,Y,J,rfl⟩:∃ v₁ Y J,vs=v₁::Y::J:=by
   match vs,h2 with
   |v₁::Y::J,_=>exact⟨v₁,Y,J,rfl⟩
  rw[keyKind_ints (intsAre_map _ U)];exact Al h
 .have g:∀ k (G:k<vs.length),∃ t,vs.getD k Dk=.int (ks.getD k 0) t:=λk G=>by
   obtain⟨t,q⟩:=wH (hv k vs[k] (Ap G));exact⟨t,by rw[<- q];simp[Lb,G]⟩
  obtain⟨t,L⟩:=g i U;obtain⟨u,B⟩:=g j O;unfold kas_ask;rw[L,B];exact kat_lt_int h
end
section
variable {K:Type}{lt':K->K->As}
theorem YA {α:Type}{ks:Aa K}{vs:Aa α}{d:K}(U:vs.length=ks.length){p:K × α}(h:p∈ks.zip vs):∃ i,vs[i]? = Ab p.2/\ks.getD i d=p.1:=by
 obtain⟨i,J,e⟩:=Cz.mp h;have Q:i<ks.length:=by rw[Vm] at J;lia
 have Y:i<vs.length:=by lia
 rw[List.getElem_zip] at e;subst e;exact⟨i,Ap Y,by simp[Q]⟩
end
structure Kind (prog:Bf)(w:Bx){K:Type}(is:K->Ac->Prop)(hash:K->Ak)(lt':K->K->As)(d:K)(Fit:K->Prop)(h0:Bo):Prop where
 ord:Ord lt'
 inj:∀ {k k':K} {v:Ac},is k v->is k' v->k=k'
 cmps:∀ {vs:Aa Ac} {ks:Aa K},vs.length=ks.length->(∀ i v,vs[i]? = Ab v->is (ks.getD i d) v)->(∀ k∈ks,Fit k)->2<=vs.length->Cmps prog w h0 vs (sQ lt' ks d)
theorem KC (prog:Bf)(w:Bx)(h0:Bo):Kind prog w (isT prog w h0) (Bu (Bj prog w)) _H.lexLt [] (·≠[]) h0:=⟨gH,isT.inj,λY Q U J=>TQ Y Q U J⟩
theorem KB (prog:Bf)(w:Bx)(h0:Bo):Kind prog w (isI prog w) (Bj prog w).hash ltI 0 (λ_=>Oe) h0:=⟨OX,λa b=>(Bj prog w).inj _ _ _ a b,λY Q _ J=>TN Y Q J⟩
section
variable {prog:Bf}{w:Bx}{A:Br}{E:Ac->Ag->Prop}{s:Ag}{K:Type}{is:K->Ac->Prop}{hash:K->Ak}{lt':K->K->As}{d:K}{Fit:K->Prop}{h0:Bo}{S:Af}{V:Aa Ac}{seen:Aa K}
open Classical in
def kOf (is:K->Ac->Prop)(d:K)(e:Ak × Ac):K:=if h:∃ k,is k e.2 then choose h else d
open Classical in
theorem LK {e:Ak × Ac}(h:∃ k,is k e.2):is (kOf is d e) e.2:=by
 unfold kOf;rw[dif_pos h];exact choose_spec h
theorem QR {Q:Ac->Ag->Prop}(kd:Kind prog w is hash lt' d Fit h0)(hh:A.handled=none)(hu:A.units+16<Fk)(hS:Sup h0 s.heap)(Z:SetK is hash S (wC w) V seen s.heap)(hf:∀ k∈seen,Fit k){U:Aa K}(hU:U.length<=1000)(zf:∀ k∈seen,k∈U)
  (h:∀ h' tk D c (ps:Aa (K × Ac)),(∀ b o,s.heap.get? b=Ab o->h'.get? b=Ab o)->s.heap.objs.size<=D->h'.get? D=Ab (Es "list" (ps.map (·.2)).toArray c)->ps.map (·.1)=srt lt' seen->(∀ p∈ps,is p.1 p.2/\p.2∈V)->ps.length<=1000->Q (.ref D) { s with heap:=h',toks:=tk }) :
  Ao (Au prog w) A (call (.builtin "sorted") [.ref S]) Q E s:=by
 obtain⟨O,I,t,ho,H,T,hl,hV⟩:=Z;have st:Still w S O I t:=⟨T,hl⟩;have hn:O.size<=1000:=by
  have:=fS O.toList U H.nd λe N=>by
   obtain⟨k',_,q⟩:=H.good e N;exact⟨k',zf k' ((H.mem k').mpr ⟨e,N,q⟩),q⟩
  rw[Bl] at this
  lia
 have M:=mX w S I O;have zh:=uC w S I O;have Y:∀ e∈(qR w S I O).toList,is (kOf is d e) e.2/\e.2∈V:=λe N=>by
  have u:=M.mem_iff.mp N;obtain⟨k,_,q⟩:=H.good e u;exact⟨LK ⟨k,q⟩,hV e u⟩
 have zb:(qR w S I O).toList.Pairwise λa b=>∀ k,is k a.2->¬ is k b.2:=(M.pairwise_iff λ{x y} h k hy hx=>h k hx hy).mpr H.nd;generalize ze:(qR w S I O).toList=oe at *;have zg:oe.length<=1000:=by rw[M.length_eq,Bl];exact hn
 have B:∀ i v,(oe.map (·.2))[i]? = Ab v->is ((oe.map (kOf is d)).getD i d) v/\v∈V:=λi v hv=>by
  rw[Dn] at hv;cases hi:oe[i]? with
  |none=>rw[hi] at hv;cases hv
  |some e =>
   rw[hi] at hv;cases hv;have g:=Y e (Bq hi);have:(oe.map (kOf is d)).getD i d=kOf is d e:=by rw[Rv,Dn,hi];rfl
   rw[this];exact g
 have nd:(oe.map (kOf is d)).Nodup:=by
  unfold Qm;rw[Ep];refine Ti (λ{a b} ha L h e=>?_) zb;exact h _ (Y a ha).1 (e▸(Y b L).1)
 have mem:∀ x,x∈oe.map (kOf is d)↔x∈seen:=λx=>by
  rw[H.mem,Ci];constructor
  .rintro⟨e,N,rfl⟩
   exact⟨e,M.mem_iff.mp N,(Y e N).1⟩
  .rintro⟨e,N,q⟩
   exact⟨e,M.mem_iff.mpr N,kd.inj (Y e (M.mem_iff.mpr N)).1 q⟩
 have G:(oe.map (·.2)).length=(oe.map (kOf is d)).length:=by simp
 refine Ta kind_sorted plain_sorted entry_sorted (args_sorted1 _) ?_;unfold Ik.«sorted»;refine Ad (m:=checkCount "sorted" 1 1 _) (Al ?_);refine Ad (cH hh st ho (by lia) λJ f j C=>?_)
 rw[ze];refine Ad (Xu ?_ (by rw[Fb,Aq];lia))
 have hD:(J.push (Es "list" (oe.map (·.2)).toArray 0)).get? J.objs.size=Ab (Es "list" (oe.map (·.2)).toArray 0):=Bc _ rfl
 have n0:h0.get? J.objs.size=none:=by
  cases q:h0.get? J.objs.size with
  |none=>rfl
  |some o=>exact absurd (Ba (hS _ _ q)) (NE.mpr (Eo C))
 show Ao _ _ _ _ _ { s with heap:=J.push (Es "list" (oe.map (·.2)).toArray 0),toks:=f }
 refine Ad (Ed (Eg slot_list_sort ⟨_,hD,rfl⟩ entry_list_sort (KG (h0:=h0) (is:=is) kd.ord kd.inj (d:=d) (vs:=oe.map (·.2)) G (λi v hv=>(B i v hv).1) hD (by show A.units+2+8<Fk;lia) (by rw[Aq];lia) (λh2=>kd.cmps G (λi v hv=>(B i v hv).1) (λk hk=>hf k ((mem k).mp hk)) h2) (λb o e=>Ah _ (j b o (hS b o e))) n0 λps pm nf=>⟨_,rfl,?_⟩) (args_list_sort _)))
 refine Al ⟨_,rfl,?_⟩;have hz:(J.push (Es "list" (oe.map (·.2)).toArray 0)).objs.size=J.objs.size+1:=size_push' ..
 have zc:∀ b o,b≠J.objs.size->(J.push (Es "list" (oe.map (·.2)).toArray 0)).get? b=Ab o->((((J.push (Es "list" (oe.map (·.2)).toArray 0)).update J.objs.size (Fc λ_=>#[])).push (Es "tuple" (oe.map (·.2)).toArray 0)).push (Es "list" #[] 0)).get? b=Ab o:=λb o L e =>
  Ah _ (Ah _ ((Dj _ _ (Gb L)).trans e))
 obtain⟨r,zd⟩:∃ r,((J.push (Es "list" (oe.map (·.2)).toArray 0)).update J.objs.size (Fc λ_=>#[])).get? J.objs.size=Ab (Es "list" #[] r):=⟨_,Mp hD (λ_=>#[])⟩
 have za:=Mp (Ah (Es "list" #[] 0) (Ah (Es "tuple" (oe.map (·.2)).toArray 0) zd)) (λ_=>(ps.map (·.2)).toArray)
 have pk:(ps.map (·.1)).Perm (oe.map (kOf is d)):=by
  have:=pm.map (·.1)
  rwa [TW (by lia)] at this
 refine h _ f J.objs.size _ ps (λb o e=>?_) (Eo C) za (D4 kd.ord nf (pk.nodup_iff.mpr nd) λx=>by rw[pk.mem_iff,mem]) (λp hp=>?_) (by have:=pk.length_eq;rw[Aq,Aq] at this;lia)
 .have L:b≠J.objs.size:=λz=>by
   subst z;exact absurd (Ba e) (NE.mpr (Eo C))
  exact(Dj _ _ (Gb L)).trans (zc b o L (Ah _ (j b o e)))
 .obtain⟨i,r,e2⟩:=YA (d:=d) G (pm.mem_iff.mp hp)
  exact e2▸B i _ r
end
end _S
namespace _D
open PySem PySem.Spec PyProof.Rows _L
variable {pins:Aa (Af × Cq)}{α:Aa Af}{σ:_L.St}
noncomputable def xV:Aa D->Am (Aa (Aa Ak))
 |[]=>Ab []
 |.tup Q::r=>(xS Q).bind λk=>(xV r).map (k::·)
 |_::_=>none
noncomputable def tpD (k:Aa Ak):D:=.tup (k.map D.int)
theorem fZ:∀ {Q:Aa D} {ks:Aa (Aa Ak)},xV Q=Ab ks->Q=ks.map tpD
 |[],ks,h=>by cases h;rfl
 |d::r,ks,h=>by
  cases d with
  |tup J =>
   obtain⟨k,U,Y⟩:=Ex.mp (show (xS J).bind (λk=>(xV r).map (k::·))=Ab ks from h)
   obtain⟨m,G,rfl⟩:=De.mp Y;rw[fZ G,uR U];rfl
  |_=>cases h
theorem yS (ks:Aa (Aa Ak)):xV (ks.map tpD)=Ab ks:=by
 induction ks with
 |nil=>rfl
 |cons k ks Q =>
  show (xS (k.map D.int)).bind (λk=>(xV (ks.map tpD)).map (k::·))=_
  rw[lP,Q];rfl
noncomputable def j3 (xs:Aa D):Am (Aa D):=match xS xs with
 |some Y=>if (_S.srt _S.ltI Y).length<=1000 then Ab ((_S.srt _S.ltI Y).map D.int) else none
 |none=>match xV xs with
  |some Q=>if ((_S.srt _H.lexLt Q).length<=1000&&Q.all λk=>!k.isEmpty) then Ab ((_S.srt _H.lexLt Q).map tpD) else none
  |none=>none
noncomputable def J9:D->Am (Aa D)
 |.lst Q=>Ab Q
 |.tup Q=>Ab Q
 |_=>none
theorem JF {K:Type}{lt':K->K->As}(O:_S.Ord lt')(ks:Aa K)(d:K):_S.srt lt' (_S.wY (λi=>ks.getD i d) ks.length)=_S.srt lt' ks:=
 _S.lA O (_S.pU O _) (_S.pU O _) λx=>by
  rw[_S.vM O,_S.vM O,_S.jH];constructor
  .rintro⟨i,Q,rfl⟩
   simp[Lb,Q]
  .intro Y
   obtain⟨i,Q,e⟩:=Cz.mp Y;exact⟨i,Q,by simp[Lb,Q,e]⟩
section
variable {X:Cx}{e:Bt}{fa:DE}{p1 p2 pos1 pos2:Ev}
theorem ZD:Gi "sorted" = Ab (.builtin "sorted"):=by decide +kernel
theorem nE {prog:Bf}{w:Bx}:∀ {k:Aa Ak} {us:Aa Ac},qJ (k.map V.int) us->ItemsAre (Bj prog w) k us
 |[],us,h=>by cases h;exact .nil
 |i::k,us,h=>by
  cases h with
  |cons q t =>
   obtain⟨Q,rfl⟩:=q;exact .cons (Xq _ _ _ _) (nE t)
theorem hJ {H P:Hp}{S:Sto}{s:Ag}{d:D}{xs:Aa D}{v:V}{Y:Ac}(I:Inv X pins σ H s)(r:Rel X.K H P α S)(p:Rep X.K P α d v)(q:qK v Y)(h:J9 d=Ab xs) :
  ∃ a vs its,Y=.ref a/\qD X.K P α xs vs/\qJ vs its/\(s.heap.IsList a its.toArray\/s.heap.IsTuple a its.toArray)/\xs.length=its.length:=by
 cases d with
 |lst J =>
  cases h;obtain⟨a,vs,its,n,rfl,_,t,Q,e,l,_⟩:=vU I r p;exact⟨a,vs,its,q,t,Q,.inl ⟨_,e,rfl,n,rfl⟩,l⟩
 |tup J =>
  cases h;obtain⟨a,vs,its,rfl,_,t,Q,⟨o,e,G,n,U⟩,l,_⟩:=vY I r p;exact⟨a,vs,its,q,t,Q,.inr ⟨o,e,G,n,U⟩,l⟩
 |_=>cases h
end
section
variable {X:Cx}
noncomputable def lstM (d:D)(S:Sto):Am (Aa D):=match d with
 |.lst Q=>Ab Q
 |.loc i=>match S[i]? with
  |some (.lst Q)=>Ab Q
  |_=>none
 |_=>none
noncomputable def b8:G2:=λa b S=>match lstM a S,lstM b S with
 |some Q,Ab Y=>if Q.length+Y.length<=lim then .ok (.lst (Q++Y)) S else .bad
 |_,_=>.bad
theorem bF {H P:Hp}{S:Sto}{s:Ag}{d:D}{xs:Aa D}{v:V}(I:Inv X pins σ H s)(r:Rel X.K H P α S)(h:lstM d S=Ab xs)(p:Rep X.K P α d v) :
  ∃ a vs its n,v=.ref a/\qD X.K P α xs vs/\qJ vs its/\s.heap.get? a=Ab { cls:=.type "list",data:=.seq its.toArray n } /\ xs.length=its.length:=by
 cases d with
 |lst J =>
  cases h;obtain⟨a,vs,its,n,e,_,t,Q,U,G,_⟩:=vU I r p;exact⟨a,vs,its,n,e,t,Q,U,G⟩
 |loc i =>
  simp only[lstM] at h;cases Y:S[i]? with
  |none=>rw[Y] at h;cases h
  |some m =>
   rw[Y] at h;cases m with
   |lst J =>
    cases h;simp only[Rep] at p;obtain⟨a,rfl,q⟩:=p;obtain⟨vs,z,t⟩:=r.at' i a _ q Y;obtain⟨_,its,n,Q,e⟩:=I.hok a _ z;exact⟨a,vs,its,n,rfl,t,Q,e,by rw[t.length,Q.length]⟩
   |_=>cases h
 |_=>cases h
theorem BX:OpD X (Ei .Add) b8:=by
 intro pins σ H s P α S v u c f a b Q I r M w pa pb Y;unfold b8 at Y;cases J:lstM a S with
 |none=>rw[J] at Y;exact An Y
 |some o =>
  cases U:lstM b S with
  |none=>rw[J,U] at Y;exact An Y
  |some p =>
   rw[J,U] at Y;obtain⟨O,Y⟩:=x9 (X:=X) Y;obtain⟨a,q,j,n,rfl,E,N,B,y⟩:=bF I r J pa;obtain⟨b,g,C,d,rfl,A,G,T,L⟩:=bF I r U pb;cases M;cases w;refine Tv B T ?_ (by rw[AT,AT,<- y,<- L,<- zH];exact O)
   rw[Qi];exact fR I r (E.append A) (N.append G) (by rw[Cf];exact O) Y
end
section
variable {X:Cx}{cm:As}{k:Ai}{e:Bt}{fa:DE}{p1 p2 pos1 pos2:Ev}
theorem EJ:ZOp X (Ei .Add) b8:=⟨BX⟩
end
end _D
section
namespace _D
open PySem PySem.Spec PyProof.Rows _L
mutual
noncomputable def pyD:D->Am PyData
 |.non=>Ab .none
 |.bl b=>Ab (.bool b)
 |.int i=>Ab (.int i)
 |.str x=>Ab (.str x)
 |.tup Q=>(fV Q).map .tuple
 |.lst Q=>(fV Q).map .list
 |.dct0=>Ab (.dict [])
 |_=>none
noncomputable def fV:Aa D->Am (Aa PyData)
 |[]=>Ab []
 |d::Q=>(pyD d).bind λx=>(fV Q).map (x::·)
end
end _D
end
section
namespace _H
open PySem PyProof.Rows
noncomputable def stepLo (n:Ai)(k:Ak):Ak:=(Fw none none k (n:Ak)).1
noncomputable def stepHi (n:Ai)(k:Ak):Ak:=(Fw none none k (n:Ak)).2
noncomputable def stepN (n:Ai)(k:Ak):Ai:=Gq (stepLo n k) (stepHi n k) k
noncomputable def stepL {α:Type}(xs:Aa α)(k:Ak):Aa α:=(Cu (stepN xs.length k)).filterMap λ(m:Ai)=>xs[(stepLo xs.length k+(m:Ak)*k).toNat]?
section
variable {prog:Bf}{w:Bx}{A:Br}{E:Ac->Ag->Prop}{s:Ag}
theorem bT {U:Af}{k:Ak}{t:Te}{n:Ai}{Q:Ak × Ak × Ai->Ag->Prop}(hs:s.heap.IsSliceOf U .none .none (.int k t))(N:k≠0)
  (h:Q (stepLo n k,k,stepN n k) s):Ao (Au prog w) A (Jk (.ref U) (pure (n:Ak))) Q E s:=by
 obtain⟨os,Y,G,J⟩:=id hs;unfold Jk Sb;refine Ad (Ad (Dx Y J (x:=.none) rfl (Ad (Dx Y J (x:=.none) rfl (Ad (Dx Y J (x:=.int k t) rfl (Al ?_)))))));refine Ad (slicePart_int ?_);show Ao _ _ (if (k == 0)=true then _ else _) _ _ s
 rw[Bg (by simpa using N)]
 refine Ad (Qt (Ad (Qt (Ad (Al ?_)))));exact Al h
theorem stepL_length {α:Type}(xs:Aa α)(k:Ak):(stepL xs k).length<=stepN xs.length k:=by
 unfold stepL;exact Dc (Tl _ _) (by rw[Ju];exact Av _)
theorem getItem_tuple_step {t N:Af}{items:Ay Ac}{k:Ak}{u:Te}{Q:Ac->Ag->Prop}(J:Qr s.heap t items)(hs:s.heap.IsSliceOf N .none .none (.int k u))(h0:k≠0)(h1:k≠1)
  (h:Q (.ref s.heap.objs.size) { s with heap:=s.heap.push { cls:=.type "tuple",data:=.seq (stepL items.toList k).toArray } })
  (hsz:stepN items.size k<=sizeLine):Ao (Au prog w) A (Lm (.ref t) (.ref N)) Q E s:=by
 have Y:sizeOk (.seq (stepL items.toList k).toArray):=by
  show (stepL items.toList k).toArray.size<=sizeLine;rw[AT];exact Dc (stepL_length _ _) (by simpa using hsz)
 obtain⟨os,C,G,B⟩:=id hs;have O:s.TypeIs (.ref N) "slice":=⟨os,C,G⟩;unfold Lm
 try with_reducible refine Ed ?_
 first|refine Ad (Al ?_)|skip
 refine Ad (Sc J.typeIs (by decide) ?_)
 refine Ad (DL (name:=Hu "__getitem__") J.typeIs Dp
  (Eg Dp J.typeIs Qg ?_ (Rf _ _)))
 show Ao _ _ (Lx (.ref t) >>= _) _ _ s;refine Ad (Xi J ?_);refine Ad (Lr O ?_);rw[Be (by decide)]
 refine Ad (bT hs h0 ?_);have U:¬ ((stepLo items.size k == 0&&k == 1&&stepN items.size k == items.size)=true):=by
  intro q;rw[Ax,Ax] at q;exact h1 (eq_of_beq q.1.2)
 show Ao _ _ (if (stepLo items.size k == 0&&k == 1&&stepN items.size k == items.size)=true then _ else _) _ _ s
 rw[Bg U];have e:((Cu (stepN items.size k)).filterMap λ(m:Ai)=>items[(stepLo items.size k+(m:Ak)*k).toNat]?)=stepL items.toList k:=by
  unfold stepL;simp
 rw[e]
 first
  |exact Ad (m:=Fg _) (Dm (Al ⟨_,rfl,Al h⟩) Y)
  |exact Ad (m:=Fg _) (Dm (Ad (Al (Al ⟨_,rfl,Al h⟩))) Y)
  |exact Ad (Ad (m:=Fg _) (Dm (Al (Al ⟨_,rfl,Al h⟩)) Y))
  |exact Ad (Ad (m:=Fg _) (Dm (Al ⟨_,rfl,Al h⟩) Y))
end
end _H
namespace _D
open PySem PySem.Spec PyProof.Rows _L
noncomputable def dY:G2:=λd k S=>match d,k with
 |.tup Q,.int k=>if k≠0/\k≠1/\_H.stepN Q.length k<=lim then .ok (.tup (_H.stepL Q k)) S else .bad
 |_,_=>.bad
noncomputable def oO (Q Y:DE):DE:=d2 dY Q Y
section
variable {X:Cx}{e ek:Bt}{fe fk:DE}{p2 pos:Ev}
theorem Y6 {vs:Aa V}{us:Aa Ac}(Y:qJ vs us)(l:Aa Ai)(f:Ai->Ai):qJ (l.filterMap λm=>vs[f m]?) (l.filterMap λm=>us[f m]?):=by
 induction l with
 |nil=>exact .nil
 |cons m l Q =>
  simp only[Gp];cases h:vs[f m]? with
  |none =>
   have:us[f m]? = none:=by
    rw[Tc] at h ⊢;rw[<- Y.length];exact h
   rw[this];exact Q
  |some v =>
   obtain⟨u,J,r⟩:=Y.get h;rw[J];exact .cons r Q
theorem WT {K:Aj}{P:Hp}{α:Aa Af}{Q:Aa D}{vs:Aa V}(J:qD K P α Q vs)(l:Aa Ai)(f:Ai->Ai):qD K P α (l.filterMap λm=>Q[f m]?) (l.filterMap λm=>vs[f m]?):=by
 induction l with
 |nil=>exact .nil
 |cons m l Y =>
  simp only[Gp];cases h:Q[f m]? with
  |none =>
   have:vs[f m]? = none:=by
    rw[Tc] at h ⊢;rw[<- J.length];exact h
   rw[this];exact Y
  |some d =>
   obtain⟨u,U,r⟩:=J.get h;rw[U];exact .cons r Y
set_option tactic.hygienic true in
theorem GY (he:PE X e (tD X fe))(n:PE X ek (tD X fk)):PE X (.Subscript e (.Slice none none (Ab ek) p2) pos) (tD X (oO fe fk)):=by
 intro T s σ H Q I h;obtain⟨P,α,L,S,r,re,af⟩:=h;have w:qI X P α ((fe L S).bind λd o=>(fk L o).bind λk g=>dY d k g) (OkV X P α Q):=af;refine Xk (thn (zM he I r re w) λv s1 ⟨x,H1,P1,za,d,o,N,A⟩=>?_);refine wpAny_Slice ?_;rw[Xj];refine Al (Al ?_);rw[evalPart_some];refine thn (zM n N.inv N.rel N.env (qS.base N.same N.pre A)) λvk U ⟨y,H2,c,M,k,g,G2,Y⟩=>?_;have Y:=qS.base G2.same G2.pre Y;cases d with
 |tup u =>
  cases k with
  |int k =>
   simp only[dY] at Y
   split at Y
   .rename_i J
    have rp:=Rep.mono G2.same G2.pre _ _ N.rep;obtain⟨a,O,G,rfl,q,t,B,i,hl,_⟩:=vY G2.inv G2.rel rp;cases (show v=Cg a from N.val)
    have p:=G2.rep;simp only[Rep] at p;subst p;obtain⟨E,rfl⟩:=G2.val;have f:Inv X T σ H2 { U with heap:=U.heap.push { cls:=.type "slice",data:=.fields #[.none,.none,.int k E] } }:=G2.inv.kept (t':=U.toks) λb ob q=>Ah _ q
    have C:Qr (U.heap.push { cls:=.type "slice",data:=.fields #[.none,.none,.int k E] }) a G.toArray:=i.keeps λb ob q=>Ah _ q;refine tail_any (ops:=[.ref a,.ref U.heap.objs.size]) (s:={ U with heap:=U.heap.push { cls:=.type "slice",data:=.fields #[.none,.none,.int k E] } }) C.typeIs Dp.lookup ?_ (by with_unfolding_all rfl)
    refine _H.getItem_tuple_step (s:={ U with heap:=U.heap.push { cls:=.type "slice",data:=.fields #[.none,.none,.int k E] } }) C (Yf ..) J.1 J.2.1 ?_ ?_
    .have lv:O.length=G.length:=B.length
     have ld:u.length=O.length:=t.length;have t':qD X.K c M (_H.stepL u k) (_H.stepL O k):=by
      unfold _H.stepL;rw[ld];exact WT t _ λm=>(_H.stepLo O.length k+(m:Ak)*k).toNat
     have j:qJ (_H.stepL O k) (_H.stepL G k):=by
      unfold _H.stepL;rw[lv];exact Y6 B _ λm=>(_H.stepLo G.length k+(m:Ak)*k).toNat
     exact eA f G2.rel t' j (Dc (_H.stepL_length _ _) J.2.2) Y
    .rw[AT,<- hl,<- zH];exact J.2.2
   .exact An Y
  |_=>exact An Y
 |_=>exact An Y
end
end _D
end
namespace _D
open PySem PySem.Spec PyProof.Rows _L
section
variable {X:Cx}{cm:As}{k:Ai}{e ek:Bt}{fe fk:DE}{p2 pos:Ev}
theorem FM (Y:QE X e fe)(Q:QE X ek fk):QE X (.Subscript e (.Slice none none (Ab ek) p2) pos) (oO fe fk):=⟨GY Y.1 Q.1⟩
end
end _D
namespace _S
open PySem PySem.W PyProof.Rows
section
variable {prog:Bf}{w:Bx}{A:Br}{E:Ac->Ag->Prop}{s:Ag}{K:Type}{is:K->Ac->Prop}{hash:K->Ak}{lt':K->K->As}{d:K}{Fit:K->Prop}{h0:Bo}
theorem QQ {Q:Ac->Ag->Prop}(kd:Kind prog w is hash lt' d Fit h0)(hu:A.units+16<Fk)(g:Sup h0 s.heap){l:Af}{vs:Aa Ac}(hl:s.heap.IsList l vs.toArray\/s.heap.IsTuple l vs.toArray)(ks:Aa K)(Y:vs.length=ks.length)(U:∀ i v,vs[i]? = Ab v->is (ks.getD i d) v)(hf:∀ k∈ks,Fit k)(O:vs.length<=100000)
  (h:∀ (h1 h':Bo) (tk:Ai) (D:Af) (c:Ai) (ps:Aa (K × Ac)),(∀ b o,s.heap.get? b=Ab o->h1.get? b=Ab o)->(∀ b o,h1.get? b=Ab o->h'.get? b=Ab o)->h1.objs.size<=D->h'.get? D=Ab (Es "list" (ps.map (·.2)).toArray c)->ps.map (·.1)=wJ lt' ks->(∀ p∈ps,is p.1 p.2/\p.2∈vs)->ps.length=ks.length->Q (.ref D) { s with heap:=h',toks:=tk }) :
  Ao (Au prog w) A (call (.builtin "sorted") [.ref l]) Q E s:=by
 refine Ta kind_sorted plain_sorted entry_sorted (args_sorted1 _) ?_;unfold Ik.«sorted»;refine Ad (m:=checkCount "sorted" 1 1 _) (Al ?_);have N:∀ {R:Aa Ac->Ag->Prop},(∀ h1:Bo,(∀ b o,s.heap.get? b=Ab o->h1.get? b=Ab o)->R vs { s with heap:=h1 }) -> Ao (Au prog w) A.in1 (collect (.ref l)) R E s:=λ{R} r=>by
  have e:vs.toArray.toList=vs:=by simp
  rcases hl with⟨o,M,H,n,L⟩|⟨o,M,H,n,L⟩
  .exact Zy l (.inl rfl) M H L (λh' T=>by rw[e];exact r h' T) (by rw[AT,Fb];lia)
  .exact Zy l (.inr rfl) M H L (λh' T=>by rw[e];exact r h' T) (by rw[AT,Fb];lia)
 refine Ad (N λh1 J=>?_);refine Ad (Xu ?_ (by rw[Fb];lia))
 have j:(h1.push (Es "list" vs.toArray 0)).get? h1.objs.size=Ab (Es "list" vs.toArray 0):=Bc _ rfl;have x:h0.get? h1.objs.size=none:=by
  cases q:h0.get? h1.objs.size with
  |none=>rfl
  |some o=>exact absurd (Ba (J _ _ (g _ _ q))) (Ej _)
 show Ao _ _ _ _ _ { s with heap:=h1.push (Es "list" vs.toArray 0),toks:=s.toks }
 refine Ad (Ed (Eg slot_list_sort ⟨_,j,rfl⟩ entry_list_sort (KG (h0:=h0) (is:=is) kd.ord kd.inj (d:=d) (vs:=vs) Y U j (by show A.units+2+8<Fk;lia) O (λh2=>kd.cmps Y U hf h2) (λb o e=>Ah _ (J b o (g b o e))) x λps u nf=>⟨_,rfl,?_⟩) (args_list_sort _)))
 refine Al ⟨_,rfl,?_⟩;have hz:(h1.push (Es "list" vs.toArray 0)).objs.size=h1.objs.size+1:=size_push' ..;have y:∀ b o,b≠h1.objs.size->(h1.push (Es "list" vs.toArray 0)).get? b=Ab o->((((h1.push (Es "list" vs.toArray 0)).update h1.objs.size (Fc λ_=>#[])).push (Es "tuple" vs.toArray 0)).push (Es "list" #[] 0)).get? b=Ab o:=λb o C e =>
  Ah _ (Ah _ ((Dj _ _ (Gb C)).trans e))
 obtain⟨G,I⟩:∃ G,((h1.push (Es "list" vs.toArray 0)).update h1.objs.size (Fc λ_=>#[])).get? h1.objs.size=Ab (Es "list" #[] G):=⟨_,Mp j (λ_=>#[])⟩;have B:=Mp (Ah (Es "list" #[] 0) (Ah (Es "tuple" vs.toArray 0) I)) (λ_=>(ps.map (·.2)).toArray)
 have f:(ps.map (·.1)).Perm ks:=by
  have:=u.map (·.1)
  rwa [TW (by lia)] at this
 refine h h1 _ s.toks h1.objs.size _ ps J (λb o e=>?_) (Av _) B (iB kd.ord nf (iV kd.ord ks) (f.trans (vW ks).symm)) (λp hp=>?_) (by have:=f.length_eq;rwa [Aq] at this)
 .have C:b≠h1.objs.size:=λz=>by
   subst z;exact absurd (Ba e) (Ej _)
  exact(Dj _ _ (Gb C)).trans (y b o C (Ah _ e))
 .obtain⟨i,G,e2⟩:=YA (d:=d) Y (u.mem_iff.mp hp)
  exact⟨e2▸U i _ G,Bq G⟩
end
end _S
namespace _D
open PySem PySem.Spec PyProof.Rows _L
noncomputable def vS (xs:Aa D):Am (Aa D):=match xS xs with
 |some Y=>if Y.length<=100000 then Ab ((_S.wJ _S.ltI Y).map D.int) else none
 |none=>match xV xs with
  |some Q=>if (decide (Q.length<=100000)&&Q.all λk=>!k.isEmpty) then Ab ((_S.wJ _H.lexLt Q).map tpD) else none
  |none=>none
noncomputable def JE (R:Aa D->Sto->Res D):DF:=λY S=>match Y with
 |[d]=>match (J9 d).bind vS with
  |some Q=>R Q S
  |none=>.bad
 |_=>.bad
noncomputable def vF:DF:=JE λQ S=>.ok (.lst Q) S
section
variable {X:Cx}{pins:Aa (Af × Cq)}{σ : _L.St}{H P:Hp}{α : Aa Af}{S:Sto}{s:Ag}
inductive NewR (X:Cx)(pins:Aa (Af × Cq))(σ : _L.St)(H P:Hp)(α : Aa Af)(ys:Aa D)(u:Ac)(s':Ag):Prop
 |mk (D:Af) (vs:Aa V) (e:u=.ref D) (hn:H D=none) (I:Inv X pins σ (upd H D (.lst vs)) s') (rp:qD X.K P α ys vs):NewR X pins σ H P α ys u s'
theorem dB {K:Type}{is:K->Ac->Prop}{O:K->Ak}{lt':K->K->As}{d:K}{U:K->Prop}(kd:_S.Kind X.prog X.w is O lt' d U s.heap)(hu:X.A.units+64<Fk)(I:Inv X pins σ H s)(r:Rel X.K H P α S){a:Af}{its:Aa Ac}
  (f:s.heap.IsList a its.toArray\/s.heap.IsTuple a its.toArray) (ks:Aa K) (hl:ks.length=its.length) (m:∀ i v,its[i]? = Ab v->is (ks.getD i d) v) (hn:ks.length<=100000) (hf:∀ k∈ks,U k) (enc:K->D)
  (G:∀ k v,is k v->v∈its->∃ T,qK T v/\Rep X.K P α (enc k) T) {E:Ac->Ag->Prop} :
  Ao (Au X.prog X.w) X.A (call (.builtin "sorted") [.ref a]) (NewR X pins σ H P α ((_S.wJ lt' ks).map enc)) E s:=by
 refine _S.QQ kd li (λ_ _ e=>e) f ks hl.symm m hf li λy n N D c Y M A u j w hp za=>?_;have o:Inv X pins σ H { s with heap:=y,toks:=s.toks }:=I.kept M
 have T:∀ (Y:Aa (K × Ac)),(∀ p∈Y,is p.1 p.2/\p.2∈its)->∃ Q,qJ Q (Y.map (·.2))/\qD X.K P α ((Y.map (·.1)).map enc) Q:=by
  intro Y
  induction Y with
  |nil=>exact λ_=>⟨[],.nil,.nil⟩
  |cons p Y g =>
   intro h;obtain⟨Q,B,C⟩:=g λq hq=>h q (by simp[hq])
   obtain⟨v,x,b2⟩:=G p.1 p.2 (h p (by simp)).1 (h p (by simp)).2
   exact⟨v::Q,.cons x B,.cons b2 C⟩
 obtain⟨Q,B,C⟩:=T Y hp;rw[w] at C;have nd:([(D,HO.lst Q)].map (·.1)).Nodup:=by simp
 have I2:Inv X pins σ (jT H [(D,HO.lst Q)]) { s with heap:=n,toks:=N }:=Inv.laidL (s:={ s with heap:=y,toks:=s.toks }) (L:=[(D,HO.lst Q)]) (t':=N) o A (λp J=>by
  have:p=(D,HO.lst Q):=by simpa using J
  subst this;exact u) λp J=>by
  have:p=(D,HO.lst Q):=by simpa using J
  subst this;refine⟨?_,Y.map (·.2),c,B,j⟩
  have:=B.length;rw[Aq] at this;rw[this,Fb]
  lia
 exact⟨D,Q,rfl,o.hok.fresh u,I2,C⟩
set_option tactic.hygienic true in
theorem QP {E:Ac->Ag->Prop}(n:X.A.units+64<Fk)(I:Inv X pins σ H s)(r:Rel X.K H P α S){a:Af}{xs e:Aa D}{vs:Aa V}{its:Aa Ac}(t1:qD X.K P α xs vs)(N:qJ vs its)(e1:s.heap.IsList a its.toArray\/s.heap.IsTuple a its.toArray)(f:xs.length=its.length)(hs:vS xs=Ab e) :
  Ao (Au X.prog X.w) X.A (call (.builtin "sorted") [.ref a]) (NewR X pins σ H P α e) E s:=by
 unfold vS at hs;cases O:xS xs with
 |some x =>
  rw[O] at hs;dsimp only at hs
  split at hs
  .rename_i Y
   cases hs;have:=uR O;subst this;have:=yQ t1;subst this;refine dB (d:=0) (_S.KB X.prog X.w s.heap) n I r e1 x (by simpa using f) (λi u Q=>?_) Y (λ_ _=>trivial) D.int λk u G _=>?_
   .have O:Ke its x:=by simpa using kX N
    obtain⟨t,rfl⟩:=Rb O i u Q;exact Xq _ _ _ _
   .obtain⟨t,rfl⟩:=_S.wH G
    exact⟨.int k,⟨t,rfl⟩,by simp only[Rep]⟩
  .cases hs
 |none =>
  rw[O] at hs;dsimp only at hs;cases T:xV xs with
  |none=>rw[T] at hs;cases hs
  |some J =>
   rw[T] at hs;dsimp only at hs
   split at hs
   .rename_i Y
    cases hs;rw[Ax,Ch] at Y;have:=fZ T;subst this;have C:∀ (i:Ai) (u:Ac),its[i]? = Ab u->∃ b,u=.ref b/\Qn (Bj X.prog X.w) s.heap (J.getD i []) b/\∃ h,qK h u/\Rep X.K P α (tpD (J.getD i [])) h:=λi u Q=>by
     have U:i<its.length:=(Aw.mp Q).1;have g:i<J.length:=by rw[Aq] at f;lia
     obtain⟨v,p,q,_⟩:=vH t1 N (j:=i) (by rw[AT];exact U)
     have B:(J.map tpD).getD i D.non=tpD (J.getD i []):=by simp[Lb,g]
     rw[B] at p;have y:its.toArray[i]'(by rw[AT];exact U)=u:=by
      rw[Ap U] at Q;simpa using Q
     rw[y] at q;obtain⟨b,ws,us,rfl,sq,t,rv,⟨o,ho,M,m,B⟩,_,_⟩:=vY I r (show Rep X.K P α (.tup ((J.getD i []).map D.int)) v from p)
     cases (show u=Cg b from q)
     have:=yQ t;subst this;exact⟨b,rfl,⟨o,us.toArray,m,ho,M,B,by simpa using nE rv⟩,.ref b,rfl,p⟩
    refine dB (d:=[]) (_S.KC X.prog X.w s.heap) n I r e1 J (by simpa using f) (λi u Q=>?_) Y.1 (λk G=>?_) tpD λk u G L=>?_
    .obtain⟨b,rfl,q,_⟩:=C i u Q
     exact⟨b,rfl,q⟩
    .have:=Cb.mp Y.2 k G
     intro z;subst z;cases this
    .obtain⟨i,A,rfl⟩:=Cz.mp L
     obtain⟨b,eb,q,w,c,pw⟩:=C i _ (Ap A);have:k=J.getD i []:=_S.isT.inj G ⟨b,eb,q⟩;rw[this];exact⟨w,c,pw⟩
   .cases hs
theorem AU (L:X.A.units+64<Fk){vs:Aa V}{us:Aa Ac}{B:Aa D}{Q:VK}{R:Aa D->Sto->Res D}(I:Inv X pins σ H s)(r:Rel X.K H P α S)(w:qJ vs us)(C:qD X.K P α B vs)(Y:qS X P α (JE R B S) Q)
  (k:∀ U D J,H D=none->qD X.K P α U J->qS X P α (R U S) Q->Q (.ref D) (upd H D (.lst J))):Ao (Au X.prog X.w) X.A (call (.builtin "sorted") us) (EP X pins σ Q) X.xe s:=by
 match B,Y,C with
 |[],Y,_=>exact An Y
 |_::_::_,Y,_=>exact An Y
 |[d],Y,C =>
  simp only[JE] at Y;cases N:(J9 d).bind vS with
  |none=>rw[N] at Y;exact An Y
  |some U =>
   rw[N] at Y;obtain⟨g,T,hs⟩:=Ex.mp N;obtain⟨v,u,rfl,rfl,p,q⟩:=y8 C w;obtain⟨a,vs,j,rfl,M,G,E,o⟩:=hJ I r p q T;refine thn (QP L I r M G E o hs) λc f ⟨D,J,e,A,y,O⟩=>?_;subst e;exact⟨.ref D,_,y,rfl,k U D J A O Y⟩
theorem ZJ (U:X.A.units+64<Fk):xQ X (.builtin "sorted") vF:=by
 intro pins σ H s P α S L E A Q I r C B O;exact AU U I r C B O λT D N G Y J=>wA r G Y J
end
section
variable {X:Cx}{cm:As}{k:Ai}
theorem JQ (Q:RoomC cm k X.A):ZCall X (.builtin "sorted") vF:=⟨ZJ Q.units⟩
end
end _D
namespace _L
open PySem PySem.Spec PyProof.Rows
variable {loose:Aa Ar}{mg mb:Ar->Am Ac}
def IU (H:Hp):Prop:=∀ b,H b=none\/(∃ o Q,H b=Ab (.frz o (.lst Q)))\/H b=Ab (.tbl #[])
def Tb0 (K:Aj)(H:Hp):Prop:=∀ x∈w9,∀ c T,Dt K x=Ab (c,T)->H T=Ab (.tbl #[])
structure Tabs (K:Aj)(h:Bo):Prop where
 at':∀ x∈w9,∀ c T,Dt K x=Ab (c,T)->Wh h c T/\h.get? T=Ab (Lo #[]) /\ K.lookup T=none
 inj:∀ x∈w9,∀ y∈w9,∀ c d T,Dt K x=Ab (c,T)->Dt K y=Ab (d,T)->x=y
theorem VY {P:Bf}{w:Bx}{K:Aj}{CX:CXT}{k:Ai}{fa a:Af}{fd:Fu}{x:Ar}{sp:Sp}{Q:Ag}{vs:Aa Ac}{ns:Aa Ak}
  (KX:K.In Q.heap) (zd:Q.heap.Ns Ct mg) (J:Q.heap.Ns Qe mb) (zf:∀ x:Ar,x ≠ "__name__" -> mb x=Gi x) (i:Q.heap.NoLimit) (hg:Q.gens=#[]) (zg:MU mg Q.heap) (N:Tabs K Q.heap)
  (I:Q.heap.get? a=Ab { cls:=.type "list",data:=.seq vs.toArray }) (hi:Ke vs ns) (hl:ns.length<=sizeLine) (hr:Room k Sf)
  (F:∀ base:Bo,K.In base->base.Ns Ct mg->FnOk P w K mg base CX k fa fd [x] sp) (g:∀ (s:Ag) (u:Ac),Om s fd ⟨[u],[]⟩ [(x,u)])
  (zi:∀ H:Hp,Tb0 K H->SqX K H a (ns.map V.int)->sp [.ref a] H (λv _=>v=.bl true) λ_ _ _=>Fn)
  (zh:∀ H e s',CX [] H Q (λ_ _ _=>Fn) e s'->Fn) :
  Ih (Au P w) Sf (.call (.ref fa) ⟨[.ref a],[]⟩) (λr s'=>r=.ok (.ret (.bool true))/\OldK Q.heap s'.heap/\s'.os=Q.os/\Of s'.gens) Q:=by
 have rv:=Y5 hi;have zl:=hi.length
 let isT:Af->Prop:=λb=>∃ x∈w9,∃ c,Dt K x=Ab (c,b)
 have tab:∀ b,isT b->Q.heap.get? b=Ab (Lo #[]) /\ K.lookup b=none:=λb ⟨x,U,c,h⟩=>(N.at' x U c b h).2;have B:∀ H:Hp,IU H->Tb0 K H->SqX K H a (ns.map V.int)->HOk P w H Q.heap->(∀ b,H b≠none->b=a\/isT b)->(H a≠none->K.lookup a=none) ->
   Ih (Au P w) Sf (.call (.ref fa) ⟨[.ref a],[]⟩) (λr s'=>r=.ok (.ret (.bool true))/\OldK Q.heap s'.heap/\s'.os=Q.os/\Of s'.gens) Q:=by
  intro H hO hT hS p hA hK;have Y:∀ {b:Af} {o:Cq},Q.heap.get? b=Ab o->H b=none->(kW Q.heap H).get? b=Ab o:=λe n=>VM e n;have zc:∀ {b:Af} {o:Cq},Q.heap.get? b=Ab o->o.cls≠.none->(o.cls≠.type "list" \/ ∃ M j,o.data=.dict M j)->H b=none:=λ{b o} e c1 c2=>by
   cases q:H b with
   |none=>rfl
   |some u =>
    rcases hA b (by rw[q];simp) with e'|e'
    .subst e'
     rw[I] at e;cases e;rcases c2 with z|⟨M,j,d⟩
     .exact absurd rfl z
     .cases d
    .rw[(tab b e').1] at e;cases e
     exact absurd rfl c1
  have zk:∀ {b:Af} {o:Cq} {M:Ay DictEntry} {j:Ai},Q.heap.get? b=Ab o->o.data=.dict M j->H b=none:=λ{b o M j} e d=>by
   cases q:H b with
   |none=>rfl
   |some u =>
    rcases hA b (by rw[q];simp) with e'|e'
    .subst e'
     rw[I] at e;cases e;cases d
    .rw[(tab b e').1] at e;cases e;cases d
  have G:∀ {b:Af} {m:Ar->Am Ac},Q.heap.Ns b m->(kW Q.heap H).Ns b m:=λ{b m} ⟨o,M,j,e,d,r⟩=>⟨o,M,j,Y e (zk e d),d,r⟩;have f:K.In (kW Q.heap H):=λb o e=>Y (KX b o e) (by
   cases q:H b with
   |none=>rfl
   |some u =>
    rcases hA b (by rw[q];simp) with e'|e'
    .subst e'
     rw[hK (by rw[q];simp)] at e;cases e
    .rw[(tab b e').2] at e;cases e)
  have hM:Mod K mg (kW Q.heap H):=by
   refine⟨f,G zd,⟨mb,G J,zf⟩,let ⟨mc,h1,h2⟩:=i;⟨mc,G h1,h2⟩,?_,λx U c T h=>?_,N.inj⟩
   .obtain⟨bm,o,b1,b2,b3,b4,b5⟩:=zg
    exact⟨bm,o,b1,b2,Y b3 (zc b3 (by rw[b4];nofun) (.inl (by rw[b4];decide))),b4,b5⟩
   .obtain⟨o,vs,zb,tf,A,tg,zj,za,tt,C,y,r⟩:=(N.at' x U c T h).1
    exact⟨o,vs,zb,tf,A,tg,zj,za,tt,Y C (zc C (by rw[y];nofun) (.inl (by rw[y];decide))),y,r⟩
  have e0:Env0 P w K mg (kW Q.heap H) Sf [] Q H:=⟨rfl,hM,λb o e=>F2 e,Yz (X5 _ _),trivial,λb J=>absurd (show b∈([]:Aa Af) from J) (by simp),p,.of_eq hg⟩
  refine Kj ((F _ f (G zd)).run Sf [] Q H ⟨[.ref a],[]⟩ [.ref a] [.ref a] _ _ hr e0 (g Q (.ref a)) (.cons rfl .nil) (zi H hT hS)) λr s' h=>?_;cases r with
  |error e=>exact(zh H e s' h).elim
  |ok fl =>
   cases fl with
   |next=>exact An h
   |brk=>exact An h
   |cont=>exact An h
   |ret u =>
    obtain⟨v,H',os,ze,un,E,r',q⟩:=h;have q':v=.bl true:=q;subst q';obtain rfl:u=Ga true:=r';refine⟨rfl,⟨λb o e=>?_,λb o e=>un.there b o e (by simp)⟩,os,ze⟩
    cases q:H b with
    |none=>exact .inl (un.keep b o e q (by intro z;exact absurd (show b∈([]:Aa Af) from z) (by simp)) (by simp))
    |some u =>
     rcases hO b with z|⟨ob,xs,z⟩|z
     .rw[q] at z;cases z
     .have z2:=un.frzs b ob _ z
      obtain⟨C,_⟩:=p b _ z;obtain⟨y,_⟩:=E b _ z2;rw[e] at C;cases C;exact .inl y
     .obtain⟨L,z2⟩:=un.tbls b _ z
      have C:Q.heap.get? b=Ab (Lo #[]):=p b _ z;have y:s'.heap.get? b=Ab (Lo (#[] ++ L)):=E b _ z2;rw[e] at C;cases C;rcases hA b (by rw[q];simp) with e'|⟨x,U,c,h⟩
      .subst e';rw[I] at e;cases e
      .exact .inr (.inl ⟨((N.at' x U c b h).1.tab e).isCodeTable,rfl,#[],L,rfl,y⟩)
 have nT:¬ isT a:=λh=>by
  have z:=(tab a h).1;rw[I] at z;cases z
 have tT:∀ x∈w9,∀ c T,Dt K x=Ab (c,T)->isT T:=λx U c T h=>⟨x,U,c,h⟩;have zm:∀ b,Jr (isT b):=λb=>Classical.propDecidable _;cases hk:K.lookup a with
 |some o =>
  have e:=KX a o hk;rw[I] at e;cases e;refine B (λb=>if isT b then Ab (.tbl #[]) else none) (λb=>?_) (λx U c T h=>Be (tT x U c T h)) (.inr ⟨vs,_,hk,by rw[Aq];exact hl,rv⟩) (λb u z=>?_) (λb z=>?_) λz=>absurd (Bg nT) z
  .by_cases h:isT b
   .exact .inr (.inr (Be h))
   .exact .inl (Bg h)
  .by_cases h:isT b
   .have O:=(Be h).symm.trans z
    cases O;exact(tab b h).1
   .have O:=(Bg h).symm.trans z
    cases O
  .by_cases h:isT b
   .exact .inr h
   .exact absurd (Bg h) z
 |none =>
  refine B (λb=>if b=a then Ab (.frz { cls:=.type "list",data:=.seq vs.toArray } (.lst (ns.map V.int))) else if isT b then Ab (.tbl #[]) else none) (λb=>?_) (λx U c T h=>?_) (.inl (.inr ⟨{ cls:=.type "list",data:=.seq vs.toArray },Be rfl⟩)) (λb u z=>?_) (λb z=>?_) λ_=>hk
  .by_cases J:b=a
   .exact .inr (.inl ⟨_,_,Be J⟩)
   .by_cases h:isT b
    .exact .inr (.inr ((Bg J).trans (Be h)))
    .exact .inl ((Bg J).trans (Bg h))
  .have h':=tT x U c T h
   exact(Bg (λ(z:T=a)=>nT (z▸h'))).trans (Be h')
  .by_cases J:b=a
   .have O:=(Be J).symm.trans z
    cases O;subst J;exact⟨I,by rw[Aq];exact hl,vs,_,rv,I⟩
   .by_cases h:isT b
    .have O:=((Bg J).trans (Be h)).symm.trans z
     cases O;exact(tab b h).1
    .have O:=((Bg J).trans (Bg h)).symm.trans z
     cases O
  .by_cases J:b=a
   .exact .inl J
   .by_cases h:isT b
    .exact .inr h
    .exact absurd ((Bg J).trans (Bg h)) z
noncomputable def oJ (q:Bf)(K:Aj):As:=w9.all λx=>match Dt K x with
 |none=>true
 |some (_,T)=>((recsOf q).find? λe=>e.name == x).isSome&&((K.lookup T).isNone&&w9.all λy=>match Dt K y with
  |none=>true
  |some (_,U)=>x == y||!decide (T=U))
theorem ME {q:Bf}{Y:ExcName->Am Ac}{h:Bo}{K:Aj}(T:Top q loose Y mg mb h)(X:K.In h)(c:oJ q K=true):Tabs K h:=by
 unfold oJ at c;have g:∀ x∈w9,∀ d U,Dt K x=Ab (d,U)->((recsOf q).find? λe=>e.name == x).isSome=true/\(K.lookup U).isNone=true/\(w9.all λy=>match Dt K y with
  |none=>true
  |some (_,V)=>x == y||!decide (U=V))=true:=λx Q d U e=>by
  have z:=Cb.mp c x Q;rw[e] at z;simpa only [Ax] using z
 refine⟨λx Q d U e=>?_,λx Q y B d I U G C=>?_⟩
 .obtain⟨N,E,_⟩:=g x Q d U e
  obtain⟨r,L⟩:=Jz.mp N;obtain⟨J,O⟩:=PySem.W.tab_of T X L e;exact⟨J,O,by simpa using E⟩
 .have z:=Cb.mp (g x Q d U G).2.2 y B
  rw[C] at z;simpa using z
theorem MI {l:AaD}{n k:Ai}{q:Bf}{loose:Aa Ar}{m:(Ar->Am Ac)->Bo->Prop}{j:Bx->Bo->Prop}{d:DefRec}{K:Params->Aj}{CX:Bx->CXT}{sp:Bx->Sp}{x:Ar}
  (hn:l.most=Ab n) (A:n<=sizeLine) (B:d.params.defaults=[]) (hr:Room k Sf) (r:∀ p,oJ q (K p)=true)
  (hY:∀ (w:Bx) (h:Bo),j w h->(K w.params).In h)
  (F:∀ (w:Bx) (mg:Ar->Am Ac) (C:Af) (h:Bo),(K w.params).In h->h.Ns Ct mg->mg d.name=Ab (.ref C) ->
   ∃ fd:Fu,(∀ (s:Ag) (u:Ac),Om s fd ⟨[u],[]⟩ [(x,u)]) /\
    ∀ base:Bo,(K w.params).In base->base.Ns Ct mg->FnOk l.prog w (K w.params) mg base (CX w) k C fd [x] (sp w))
  (T:∀ (w:Bx) (H:Hp) (a:Af) (O:Aa Ak),O.length<=n->Tb0 (K w.params) H->SqX (K w.params) H a (O.map V.int)->sp w [.ref a] H (λv _=>v=.bl true) λ_ _ _=>Fn)
  (L:∀ (w:Bx) (H:Hp) (s:Ag) (e:Ac) (s':Ag),CX w [] H s (λ_ _ _=>Fn) e s'->Fn) :
  Ab0 q loose m j l.row.toRowW d [] (λf vs=>AaI f vs):=by
 refine _A.attach_call hn B λw M N mg mb C o pm cd c a vs O G Y ho hd g I U J Q hg=>?_;have E:=hY w _ Y;obtain⟨fd,y,hF⟩:=F w mg C _ E G.T.g I;exact VY E G.T.g G.T.b G.T.builtins G.T.nolimit hg (let ⟨bm,ob,i,b2,b3,b4,b5,b6⟩:=G.T.bmain;⟨bm,ob,i,b2,b3,b4,b5,b6⟩) (ME G.T E (r _)) U J (Dc Q A) hr hF y (λH hT hS=>T w H a O Q hT hS) λH e s'=>L w H N e s'
end _L
namespace _D
open PySem PySem.Spec PyProof.Rows _L
variable {K:Aj}{mg:Ar->Am Ac}
theorem E6 {h:Bo}(X:K.In h)(G:h.Ns Ct mg){x:Ar}{st:EQ}{ps:Aa Ar}{f:Af}{L:Ac}{B N:Am Af}{J:Ay (Am Ac)}{kV Y U Q O:Ac}
  (a:Dw K Ct x=Ab (Ab (.ref f)))
  (l:K.lookup f=Ab ⟨L,B,.func (Gw x x (wX st) (zL st) (qH st) .none kV Y U N Q O),J⟩) (c:Ll K Q x=true) (k:Fi K (.ref f)=true)
  (C:∀ (kV Y U:Ac) (N:Am Af) (Q O:Ac) (us:Aa Ac),us.length=ps.length->Rx (Gw x x (wX st) (zL st) (qH st) .none kV Y U N Q O) ⟨us,[]⟩=pure (ps.zip us)):Src K mg x st ps:=
 have F:=L7 (st:=st) l c k
 ⟨f,_,Xv X G a,F,F.binds C⟩
noncomputable def sX (K:Aj)(C:Af):As:=
 decide (Nj K (.ref C) "__getattribute__" = Ab (Ab (.builtin "BaseException.__getattribute__")))&&decide (Nj K (.ref C) "__getattr__" = Ab none)
 && decide (Nj K (.ref C) "__class__" = Ab (Ab (.builtin "object.__class__")))&&decide (Xd K C (.type "object")=Ab true)&&decide (Xd K C (.type "BaseException")=Ab true)
 && (PySem.W.clsIn K C).isSome&&decide (Lj K (.ref C) (.type "ValueError")=Ab true)
noncomputable def YM (K:Aj):As:=
 decide (Zh K (.builtin "object.__class__") "__get__" = Ab (Ab (.builtin "getset_descriptor.__get__")))&&decide (Aa9 K (.builtin "object.__class__")=Ab true)
noncomputable def TK (K:Aj)(Q:Aa Af):As:=Q.all λC=>Q.all λB=>decide (Lj K (.ref C) (.ref B)=Ab (C == B))
theorem TM {Y:Aa Af}(h1:Y.all (sX K)=true)(h2:YM K=true)(h3:TK K Y=true):ClsK K Y:=by
 have g:=h2;unfold YM at g;simp only[Ax,Ch] at g;have J:∀ C∈Y,sX K C=true:=Cb.mp h1;refine⟨λC Q=>?_,λC Q B L=>?_,λC Q=>?_⟩
 .have e:=J C Q
  unfold sX at e;simp only[Ax,Ch] at e;obtain⟨⟨⟨⟨⟨⟨T,U⟩,O⟩,G⟩,N⟩,E⟩,I⟩:=e;exact⟨T,U,O,g.1,g.2,G,N,E⟩
 .have e:=Cb.mp (Cb.mp h3 C Q) B L
  exact Bv e
 .have e:=J C Q
  unfold sX at e;simp only[Ax,Ch] at e;exact e.2
noncomputable def OC (K:Aj)(Q:Aa Ac)(A:Af):As:=Q.all λv=>decide (Ka K v (.ref A)=Ab true)
noncomputable def OA (K:Aj)(Q:Aa Af)(A:Af):As:=Q.all λC=>fH K C A
noncomputable def OB (K:Aj)(Q:Aa Af):As:=Q.all λC=>Fi K (.ref C)
def sI (K:Aj):Sp:=λJ H Q E=>Tb0 K H/\∃ a Y,J=[.ref a]/\SqX K H a (List.map V.int Y)/\Y.length<=63/\∀ U,Q (.bl true) U
theorem eX {P:Hp}{α:Aa Af}:∀ Q:Aa Ak,qD K P α (Q.map D.int) (Q.map V.int)
 |[]=>.nil
 |n::Q=>.cons (by simp only[Rep]) (eX Q)
noncomputable def noT (H:Hp):Hp:=λb=>match H b with
 |some (.tbl _)=>none
 |u=>u
theorem BL {P:Bf}{w:Bx}{d:Af}{st:EQ}{k:Ai}{x:Ar}(hs:Src K mg "law" st [x])(C:mg "law" = Ab (.ref d))
  (A:∀ (kV Y B:Ac) (M:Am Af) (U j:Ac) (s:Ag) (v:Ac),Om s (Gw "law" "law" (wX st) (zL st) (qH st) .none kV Y B M U j) ⟨[v],[]⟩ [(x,v)])
  (N:∀ base:Bo,∃ F,sM P w K mg base true k "law" [x] F/\∀ J:Aa Ak,J.length<=63->∃ S,F [.lst (J.map D.int)] [] = .ok (.bl true) S) :
  ∃ fd:Fu,(∀ (s:Ag) (v:Ac),Om s fd ⟨[v],[]⟩ [(x,v)])/\∀ base:Bo,K.In base->base.Ns Ct mg->FnOk P w K mg base (CXd P w) k d fd [x] (sI K):=by
 obtain⟨f,fd,g,F,hb⟩:=hs;cases C.symm.trans g;refine⟨fd,?_,λbase _ _=>?_⟩
 .obtain⟨oc,od,kV,Y,B,M,U,j,zb,rfl,_,_⟩:=F.ex
  exact A kV Y B M U j
 .obtain⟨G,⟨f',n,L,_,za,I,X⟩,hG⟩:=N base
  cases g.symm.trans L;cases I.one (bD F);refine(X.imp λvs H Q E h=>?_).ok;obtain⟨r,a,J,rfl,hS,I,k⟩:=h;obtain⟨S,e⟩:=hG J I;have keep:∀ (b:Af) (u:HO),H b=Ab u->(∀ O,u≠.tbl O)->noT H b=Ab u:=λb u q h=>by
   unfold noT;rw[q];cases u with
   |tbl O=>exact absurd rfl (h O)
   |_=>rfl
  have y:SqX K (noT H) a (List.map V.int J):=by
   rcases hS with (h|⟨o,h⟩)|h
   .exact .inl (.inl (keep _ _ h λ_ z=>by cases z))
   .exact .inl (.inr ⟨o,keep _ _ h λ_ z=>by cases z⟩)
   .exact .inr h
  have sub:qE (noT H) H:=λb u q=>by
   unfold noT at q;cases z:H b with
   |none=>rw[z] at q;cases q
   |some v =>
    rw[z] at q;cases v with
    |tbl O=>cases q
    |_=>exact q
  refine⟨rfl,noT H,[],[.lst (J.map D.int)],[],⟨λx p c T h=>⟨#[],r x p c T h,by unfold noT;rw[r x p c T h],by simp,trivial,λzc cv z=>by cases z⟩,sub,rfl,.nil,by simp,by simp,by simp⟩,.cons (nX y (eX J)) .nil,?_⟩
  rw[e];intro v H' P' i _ _ _ m;simp only[Rep] at m;subst m;exact k H'
theorem ID {l:AaD}{q:Bf}{Q:Aa Ar}{O:(Ar->Am Ac)->Bo->Prop}{U:Bx->Bo->Prop}{d:DefRec}{K:Params->Aj}{k:Ai}{x:Ar}(C:l.most=Ab 63)(Y:d.params.defaults=[])(I:Room k Sf)(N:∀ p,oJ q (K p)=true)
  (E:∀ (w:Bx) (h:Bo),U w h->(K w.params).In h)
  (F:∀ (w:Bx) (mg:Ar->Am Ac) (J:Af) (h:Bo),(K w.params).In h->h.Ns Ct mg->mg d.name=Ab (.ref J) ->
   ∃ fd:Fu,(∀ (s:Ag) (u:Ac),Om s fd ⟨[u],[]⟩ [(x,u)])/\∀ base:Bo,(K w.params).In base->base.Ns Ct mg->FnOk l.prog w (K w.params) mg base (CXd l.prog w) k J fd [x] (sI (K w.params))) :
  Ab0 q Q O U l.row.toRowW d [] (λf vs=>AaI f vs):=
 _L.MI (n:=63) (k:=k) (x:=x) (CX:=λw=>CXd l.prog w) (sp:=λw=>sI (K w.params)) C (by decide) Y I N E F (λ_ _ a G B T L=>⟨T,a,G,rfl,L,B,λ_=>rfl⟩) λw H s e A h=>by
  obtain⟨_,_,_,_,_,_,_,_,_,_,_,_,z⟩:=h;exact z
end _D
namespace _D
open PySem
variable {us:Aa Ac}
theorem us0 (h:us.length=0):us=[]:=Pv h
theorem usS {n:Ai}(h:us.length=n+1):∃ a vs,us=a::vs/\vs.length=n:=by
 cases us with
 |nil=>exact absurd h (by simp)
 |cons a vs=>exact⟨a,vs,rfl,by simpa using h⟩
theorem us1 (h:us.length=1):∃ a,us=[a]:=by
 obtain⟨a,Y,rfl,Q⟩:=usS h;exact⟨a,by rw[us0 Q]⟩
theorem us2 (h:us.length=2):∃ a b,us=[a,b]:=by
 obtain⟨a,Y,rfl,Q⟩:=usS h;obtain⟨b,rfl⟩:=us1 Q;exact⟨a,b,rfl⟩
theorem us3 (h:us.length=3):∃ a b c,us=[a,b,c]:=by
 obtain⟨a,Y,rfl,Q⟩:=usS h;obtain⟨b,c,rfl⟩:=us2 Q;exact⟨a,b,c,rfl⟩
end _D
namespace _D
open PySem PySem.Spec PyProof.Rows _L
variable {vs:Aa (Key × V)}{us:Aa Ac}{caps:Aa D}{E:Ac->Ag->Prop}{c':Af}{j:Ai}{oc:Cq}{sc:El}{H':Hp}{env:qF}
theorem KY (F:DF):∃ G:DF,G=F:=⟨F,rfl⟩
def sh (F:DF):DF:=Tw (KY F)
theorem zK (F:DF):sh F=F:=Ou (KY F)
noncomputable def isV:Am Ie->As
 |some .local => true
 |some .cell=>true
 |some .free=>true
 |_=>false
noncomputable def isL:Am Ie->As
 |some .local => true
 |some .cell=>true
 |_=>false
noncomputable def isG:Am Ie->As
 |some .globalImplicit=>true
 |_=>false
noncomputable def okN (x:Ar):As:=!(x == ("__debug__" : Ar))&&(!(x == ("__classdict__" : Ar))&&!decide (x = "__name__"))
noncomputable def okG (X:Cx)(x:Ar):As:=isG (X.env.kindOf x)&&okN x
noncomputable def okB (v:Ac)(x:Ar):As:=decide (Gi x=Ab v)
noncomputable def jR (sc:El):Aa Ar:=sc.names.filterMap λy=>if isL (Ab y.2) then Ab y.1 else none
noncomputable def yK (sc:El):Aa Ar:=(sc.names.filterMap λy=>if isL (Ab y.2)&&!(y.1 == (".0" : Ar)) then Ab y.1 else none)++sc.names.filterMap λy=>if y.2 == .free then Ab y.1 else none
def Ck (b:As):Prop:=b=true
theorem ck {b:As}(h:b=true:=by kernel_rfl):Ck b:=h
structure DfS (F:DF)(P:Bf)(w:Bx)(K:Aj)(mg:Ar->Am Ac)(base:Bo)(cm:As)(k:Ai)(x:Ar)(n:Ai):Prop where
 get:Def P w K mg base cm k x n F
noncomputable def okT (X:Cx)(m:Ai)(x:Ar):As:=decide (X.N[m]? = Ab x)&&(isL (X.env.scope.names.lookup x)&&(decide X.N.Nodup&&(X.fn x||decide (X.env.scope.names.lookup x=Ab .local))))
noncomputable def okP (X:Cx)(m:Ai)(x:Ar):As:=decide (X.N[m]? = Ab x)&&decide (X.env.scope.names.lookup x=Ab .local)
noncomputable def dP (Y:El)(J:Aa Ar)(scope:El)(Q:Aa (Am Ai)):As:=
 decide (scope.kind=.function)&&(decide (∀ y∈scope.names,y.2=.local -> scope.names.lookup y.1=Ab .local)&&(decide (∀ y∈scope.names,y.2=.cell->scope.names.lookup y.1=Ab .cell)&&(decide (∀ y∈scope.names,y.2=.free->Y.names.lookup y.1=Ab .cell\/Y.names.lookup y.1=Ab .free)
 && (decide (∀ y∈scope.names,y.2=.free->scope.names.lookup y.1=Ab .free)&&(decide (Q.length=(yK scope).length)&&(((Q.zip (yK scope)).all λp=>match p.1 with|none=>true|some i=>J[i]? == Ab p.2&&scope.names.lookup p.2 == Ab .free)&&decide (yK scope).Nodup))))))
noncomputable def fnB (N P:Aa Ar)(sc:El):As:=
 decide (sc.kind=.function)&&(decide (sc.isCoroutine=false)&&(decide (sc.isGenerator=false)&&(decide N.Nodup&&(decide (N.take P.length=P)&&(decide (∀ x∈P,sc.names.lookup x=Ab .local \/ sc.names.lookup x=Ab .cell)&&decide (∀ y∈sc.names,y.2≠.free))))))
theorem sY {Y:El}{J:Aa Ar}{scope:El}{Q:Aa (Am Ai)}(h:dP Y J scope Q=true):CompSc Y J scope (yK scope) Q:=by
 simp only[dP,Ax,Ch] at h;obtain⟨a,b,c,d,e,f,g,k⟩:=h;exact⟨a,b,c,d,e,f,g,k⟩
theorem rS {N P:Aa Ar}(h:fnB N P sc=true):FnScope N P sc:=by
 simp only[fnB,Ax,Ch] at h;obtain⟨a,b,c,d,e,f,g⟩:=h;exact⟨a,b,c,d,e,f,g⟩
section
variable {X:Cx}{a b c e o elt tg iter:Bt}{ifs rest:Aa Bt}{f g:DS}{fa:DE}{f2:DI2}{dg:DG}{t:DT}{kk:DK}{gens grest:Aa Ee}{scope:El}{cap:Aa (Am Ai)}{mm:As}{l q:Ai}{y z:Ar}{G2':G2}{es:Aa Bt}{fA:DA}{x:Ar}{p pos:Ev}{cm:As}{k n m:Ai}{F:DF}
theorem aU (h:isV (sc.names.lookup x)=true):Vis sc x:=by
 unfold Vis
 revert h
 cases sc.names.lookup x with
 |none=>intro h;cases h
 |some y=>cases y <;> intro h <;> first|cases h;done|exact .inl rfl|exact .inr (.inl rfl)|exact .inr (.inr rfl)
theorem B8 (h:isL (sc.names.lookup x)=true):_L.Loc sc x:=by
 unfold _L.Loc
 revert h
 cases sc.names.lookup x with
 |none=>intro h;cases h
 |some y=>cases y <;> intro h <;> first|cases h;done|exact .inl rfl|exact .inr rfl
theorem kE (h:okN x=true):(x == ("__debug__" : Ar))=false/\(x == ("__classdict__" : Ar))=false/\x ≠ "__name__":=by
 unfold okN at h;rw[Ax,Ax] at h;exact⟨by simpa using h.1,by simpa using h.2.1,by simpa using h.2.2⟩
theorem w4 (h:okG X x=true):Gl X x/\(x == ("__debug__" : Ar))=false/\x ≠ "__name__":=by
 have h:=(Ax _ _).mp h;refine⟨?_,(kE h.2).1,(kE h.2).2.2⟩;have z:=h.1;unfold Gl
 revert z
 cases X.env.kindOf x with
 |none=>intro z;cases z
 |some y=>cases y <;> intro z <;> first|cases z;done|rfl
theorem eE (h:okT X m x=true):X.N[m]? = Ab x/\_L.Loc X.env.scope x/\X.N.Nodup/\(X.fn x=true\/X.env.scope.names.lookup x=Ab .local):=by
 simp only[okT,Ax,Ch,Ml] at h;exact⟨h.1,B8 h.2.1,h.2.2⟩
theorem kF (h:okP X m x=true):X.N[m]? = Ab x/\X.env.scope.names.lookup x=Ab .local:=by
 simp only[okP,Ax,Ch] at h;exact h
theorem K4 (h:Ck (okG X x)):Gl X x:=(w4 h).1
theorem aV (h:Ck (decide (X.N[m]? = Ab x)&&(isV (X.env.scope.names.lookup x)&&okN x))):QE X (.Name x pos) (qB m):=by
 unfold Ck at h;simp only[Ax,Ch] at h;exact RL m h.1 (aU h.2.1) (kE h.2.2).1 (kE h.2.2).2.1
theorem aBt {nm:Em}(h:Ck (okG X x))(hm:X.mg x=none)(Q:Ck (okB (.type nm) x)):QE X (.Name x pos) (dC (.ty nm)):=
 have h:=w4 h
 FH h.1 hm (Bv Q) h.2.2 h.2.1
theorem aCl {C:Af}(h:Ck (okG X x))(hm:X.mg x=Ab (.ref C)/\Fi X.K (.ref C)=true):QE X (.Name x pos) (dC (.obj C)):=
 have h:=w4 h
 RD h.1 hm.1 hm.2 h.2.1
theorem aGi {v:Ak}(h:Ck (okG X x))(hm:∃ t,X.mg x=Ab (.int v t)):QE X (.Name x pos) (dC (.int v)):=
 have h:=w4 h
 FJ h.1 hm h.2.1
abbrev St1 (X:Cx)(e:Bt)(es:Aa Bt)(pos:Ev):Prop:=Bm (e::es) X.env=(false,eval e X.env)::Bm es X.env/\(Gh pos (Bm es X.env)).any (·.1)=false
theorem aN (G:DfS F X.prog X.w X.K X.mg X.base cm k x n)(Q:RoomC cm k X.A)(J:Fn1 X)(h:Ck (okG X x))(Y:QA X (e::es) fA)(s:St1 X e es pos):QE X (.Call (.Name x p) (e::es) [] pos) (qM n F fA):=
 have h:=w4 h
 qcN G.1 Q J h.1 Y h.2.1 s.1 s.2
theorem aO (G:DfS F X.prog X.w X.K X.mg X.base cm k x n)(Q:RoomC cm k X.A)(h:Ck (okG X x))(Y:QA X (e::es) fA)(s:St1 X e es pos):QE X (.Call (.Name x p) (e::es) [] pos) (qM n (okO F) fA):=
 have h:=w4 h
 qcO G.1 Q h.1 Y h.2.1 s.1 s.2
theorem aB {id:Em}(J:ZCall X (.builtin id) F)(h:Ck (okG X x))(hm:X.mg x=none)(Q:Ck (okB (.builtin id) x))(Y:QA X (e::es) fA)(s:St1 X e es pos):QE X (.Call (.Name x p) (e::es) [] pos) (qL F fA):=
 have h:=w4 h
 UO J h.1 hm (Bv Q) Y h.2.2 h.2.1 s.1 s.2
theorem aT {T:Em}(J:ZCall X (.type T) F)(h:Ck (okG X x))(hm:X.mg x=none)(Q:Ck (okB (.type T) x))(Y:QA X (e::es) fA)(s:St1 X e es pos):QE X (.Call (.Name x p) (e::es) [] pos) (qL F fA):=
 have h:=w4 h
 WB J h.1 hm (Bv Q) Y h.2.2 h.2.1 s.1 s.2
theorem aC (S:Ck (dP X.env.scope X.N scope cap))(N:X.calm=true)(hi:QI2 X tg iter f2)(O:∀ J C U Q Y,QG (qX X (yK scope) scope J C U Q Y) tg dg)(B:∀ J C U Q Y,QTs (qX X (yK scope) scope J C U Q Y) ifs t)
  (has:∀ g',(⟨tg,iter,ifs,0⟩::grest:Aa Ee)[0+1]? = Ab g'->g'.is_async=0)
  (G:∀ J C U Q Y,QK accL (qX X (yK scope) scope J C U Q Y) (λacc=>xG false elt (⟨tg,iter,ifs,0⟩::grest) scope pos 0 acc (qX X (yK scope) scope J C U Q Y).env) kk) (hs:∀ x,Gc iter X.env x=pure x) :
  QE X (.ListComp elt (⟨tg,iter,ifs,0⟩::grest) scope pos) (zI mm cap f2 dg t kk):=UQ N (sY S) hi O B has G hs
theorem aCs {N J:Ev}(hsw:Nq (.ListComp elt (⟨tg,iter,ifs,0⟩::grest) scope pos) (Ab (.Name y N)) J.line X.env=pure true)(S:Ck (dP X.env.scope X.N scope cap))(I:Ck (okT X m y))(T:X.calm=true)(hi:QI2 X tg iter f2)(B:∀ G C U Q Y,QG (qX X (yK scope) scope G C U Q Y) tg dg)(L:∀ G C U Q Y,QTs (qX X (yK scope) scope G C U Q Y) ifs t)
  (has:∀ g',(⟨tg,iter,ifs,0⟩::grest:Aa Ee)[0+1]? = Ab g'->g'.is_async=0)
  (O:∀ G C U Q Y,QK accL (qX X (yK scope) scope G C U Q Y) (λacc=>xG false elt (⟨tg,iter,ifs,0⟩::grest) scope pos 0 acc (qX X (yK scope) scope G C U Q Y).env) kk) (hs:∀ x,Gc iter X.env x=pure x) :
  QS X (.Assign [.Name y N] (.ListComp elt (⟨tg,iter,ifs,0⟩::grest) scope pos) J) (qV (zI mm cap f2 dg t kk) (gNm m)):=
 have h:=eE I
 UU T h.2.2.1 (sY S) hi B L has O h.1 h.2.1 h.2.2.2 hsw hs
theorem aNm (h:Ck (okT X m x)):QG X (.Name x pos) (gNm m):=
 have h:=eE h
 FN h.2.2.1 h.1 h.2.1 h.2.2.2
theorem aSt {Q:Ev}(hs:Nq e (Ab (.Name x Q)) pos.line X.env=pure false)(Y:QE X e fa)(h:Ck (okT X m x)):QS X (.Assign [.Name x Q] e pos) (qV fa (gNm m)):=
 have h:=eE h
 RU h.2.2.1 Y h.1 h.2.1 hs h.2.2.2
theorem aP2 {Y Q pt:Ev} {kt k2 pt2} (h:Ck (decide X.N.Nodup&&(okP X m x&&(okP X l y&&!decide (m=l))))) (J:X.calm=true) (U:QA X [a,b] fA)
  (hw:Ly [.Tuple [.Name x Y,.Name y Q] kt pt] (.Tuple [a,b] k2 pt2) X.env=pure (Ab [x,y])) (hs:Lz [.Tuple [.Name x Y,.Name y Q] kt pt] (.Tuple [a,b] k2 pt2) pos.line X.env=pure false) :
  QS X (.Assign [.Tuple [.Name x Y,.Name y Q] kt pt] (.Tuple [a,b] k2 pt2) pos) (pQ m l fA):=by
 unfold Ck at h;simp only[Ax,Ch,Nr,Ir] at h;exact RT J h.1 U (kF h.2.1).1 (kF h.2.2.1).1 h.2.2.2 (kF h.2.1).2 (kF h.2.2.1).2 hw hs
theorem aRs {C:Af}{O Q:Ev}(h:Ck (okG X x))(N:X.calm=true)(J:Fn1 X)(hm:∃ G,X.mg x=Ab (.ref C)/\fH X.K C G=true)(Y:QA X (e::rest) fA)(s:St1 X e rest Q) :
  QS X (.Raise (Ab (.Call (.Name x O) (e::rest) [] Q)) none pos) (uY (.ref C) fA):=
 have h:=w4 h
 let ⟨_,hm,U⟩:=hm
 UV N J h.1 hm U Y h.2.1 s.1 s.2
theorem aTr {nm:Ar}{Y:Aa EQ}{Q:EQ}{suite:Aa EQ}{L J:Ev}{N:Aa Ac}(h:Ck (okG X x&&(okP X m nm&&(decide X.N.Nodup&&decide (X.N.length=n)))))(B:Fn1 X)(hm:∃ G,X.mg x=Ab (.ref G)/\∀ c∈N,Ka X.K c (.ref G)=Ab true)(C:∀ E O,ZPass (Cx.tryIn X E O)->QB (Cx.tryIn X E O) Y f)(hs:∀ e,QB (Cx.suite X e) (Q::suite) g) :
  QS X (.Try Y [.ExceptHandler (Ab (.Name x L)) (Ab nm) (Q::suite) J] [] [] pos) (fW n m N f g):=by
 unfold Ck at h;simp only[Ax,Ch] at h;obtain⟨G,hm,U⟩:=hm;exact RV B C hs (w4 h.1).1 hm U h.2.2.1 (kF h.2.1).1 (kF h.2.1).2 (w4 h.1).2.1 h.2.2.2
end
structure TxS (K:Aj)(mg:Ar->Am Ac)(tp:Ai->EQ)(tab:Aa (Ar × Ai × Aa Ar))(bl:Aa Ar)(clt plt:Aa (Ar × Af))(cs:Aa Ac)(exl:Aa Af)(cst:Aa (Ar × Ak)):Prop where
 src:∀ (j:Ai) {x:Ar} {i:Ai} {ps:Aa Ar},tab[j]? = Ab (x,i,ps)->Src K mg x (tp i) ps
 nb:∀ {x:Ar},Ck (bl.contains x)->mg x=none
 cl:∀ {x:Ar} {C:Af},clt.lookup x=Ab C->mg x=Ab (.ref C)/\Fi K (.ref C)=true
 rz:∀ {x:Ar} {C:Af},plt.lookup x=Ab C->∃ Ae,mg x=Ab (.ref C)/\fH K C Ae=true
 ct:∃ C0,mg "FarError" = Ab (.ref C0)/\∀ c∈cs,Ka K c (.ref C0)=Ab true
 cls:ClsK K exl
 gi:∀ {x:Ar} {v:Ak},cst.lookup x=Ab v->∃ t,mg x=Ab (.int v t)
section
variable {K:Aj}{mg:Ar->Am Ac}{cm:As}{tp:Ai->EQ}{tab:Aa (Ar × Ai × Aa Ar)}{bl:Aa Ar}{clt plt:Aa (Ar × Af)}{cs:Aa Ac}{exl:Aa Af}{cst:Aa (Ar × Ak)}{x:Ar}{i m:Ai}{ps:Aa Ar}{F:DF}{g:DS}
theorem dq (P:Bf)(w:Bx)(base:Bo)(k j:Ai)(T:TxS K mg tp tab bl clt plt cs exl cst)(U:tab[j]? = Ab (x,i,ps))(h:Ck (fnB (jR (qH (tp i))) ps (qH (tp i))&&decide ((jR (qH (tp i))).length=m)))(G:F=qP m g)
  (J:∀ (f:Af) (Q:Ac) (A:Br) (Y:Aa Il) (s:Ag) (H:Hp) (E:XK),kJ K x Q->RoomC cm k (A.deeper (Go x (qH (tp i)) s.heap.objs.size f Q)) ->
   QB (cxC cm P w K mg base (jR (qH (tp i))) x (qH (tp i)) f Q A Y s H E) (zL (tp i)) g):DfS F P w K mg base cm (k+1) x ps.length:=by
 unfold Ck at h;simp only[Ax,Ch] at h;obtain⟨h,rfl⟩:=h;exact⟨G▸OG (T.src j U) (rS h) rfl J⟩
theorem dqP {P:Bf}{w:Bx}{base:Bo}(k j:Ai)(T:TxS K mg tp tab bl clt plt cs exl cst)(U:tab[j]? = Ab (x,i,ps))(h:Ck (fnB (jR (qH (tp i))) ps (qH (tp i))&&decide ((jR (qH (tp i))).length=m)))
  (J:∀ (f:Af) (Q:Ac) (A:Br) (Y:Aa Il) (s:Ag) (H:Hp) (E:XK),kJ K x Q->RoomC cm k (A.deeper (Go x (qH (tp i)) s.heap.objs.size f Q)) ->
   QB (cxC cm P w K mg base (jR (qH (tp i))) x (qH (tp i)) f Q A Y s H E) (zL (tp i)) g):sM P w K mg base cm (k+1) x ps (qP m g):=by
 unfold Ck at h;simp only[Ax,Ch] at h;obtain⟨h,rfl⟩:=h;exact HJ (T.src j U) (rS h) rfl J
end
theorem hv {a b:Prop}(f:a->b)(h:a):b:=f h
inductive SrcF (K:Aj)(x:Ar)(st:EQ)(ps:Aa Ar):Prop
 |mk {f:Af} {oc:Ac} {od an:Am Af} {osl:Ay (Am Ac)} {kV doc pm cdv ct:Ac} (a:Dw K Ct x=Ab (Ab (.ref f)))
  (l:K.lookup f=Ab ⟨oc,od,.func (Gw x x (wX st) (zL st) (qH st) .none kV doc pm an cdv ct),osl⟩) (c:Ll K cdv x=true) (k:Fi K (.ref f)=true):SrcF K x st ps
def o8 (K:Aj)(tp:Ai->EQ):Aa (Ar × Ai × Aa Ar)->Prop
 |[]=>Oe
 |(x,i,Q)::t=>SrcF K x (tp i) Q/\o8 K tp t
def BdF (tp:Ai->EQ):Aa (Ar × Ai × Aa Ar)->Prop
 |[]=>Oe
 |(x,i,J)::t=>(∀ (kV Q U:Ac) (G:Am Af) (Y N:Ac) (us:Aa Ac),us.length=J.length->Rx (Gw x x (wX (tp i)) (zL (tp i)) (qH (tp i)) .none kV Q U G Y N) ⟨us,[]⟩=pure (J.zip us))/\BdF tp t
def o4 (K:Aj):Aa (Ar × Af)->Prop
 |[]=>Oe
 |(x,C)::t=>Dw K Ct x=Ab (Ab (.ref C))/\o4 K t
def o6 (K:Aj):Aa (Ar × Ak)->Prop
 |[]=>Oe
 |(x,v)::t=>(∃ k,Dw K Ct x=Ab (Ab (.int v k)))/\o6 K t
noncomputable def OK:Am (Am Ac)->As
 |some none=>true
 |_=>false
section
variable {K:Aj}{h:Bo}{mg:Ar->Am Ac}{tp:Ai->EQ}
theorem iT (X:K.In h)(G:h.Ns Ct mg):∀ (tab:Aa (Ar × Ai × Aa Ar)),o8 K tp tab->BdF tp tab->∀ (j:Ai) {x:Ar} {i:Ai} {ps:Aa Ar},tab[j]? = Ab (x,i,ps)->Src K mg x (tp i) ps
 |[],_,_,_,_,_,_,e=>by cases e
 |(x,i,ps)::t,H,B,0,_,_,_,e=>by
  cases e;obtain⟨a,l,c,k⟩:=H.1;exact E6 X G a l c k B.1
 |(x,i,ps)::t,H,B,j+1,_,_,_,e=>iT X G t H.2 B.2 j e
theorem wQ {β:Type}{p:Ar->β->Prop}{x:Ar}{C:β}:∀ {l:Aa (Ar × β)},(∀ y∈l,p y.1 y.2)->l.lookup x=Ab C->p x C
 |[],_,e=>by cases e
 |(y,b)::t,H,e=>by
  rw[Kf] at e;cases q:x == y with
  |true =>
   rw[q] at e;cases e;rw[eq_of_beq q];exact H (y,_) (.head _)
  |false =>
   rw[q] at e;exact wQ (λz Q=>H z (.tail _ Q)) e
theorem pY (X:K.In h)(G:h.Ns Ct mg):∀ {l:Aa (Ar × Af)},o4 K l->∀ y∈l,mg y.1=Ab (.ref y.2)
 |(x,C)::t,H,y,hy=>by
  rcases Az.mp hy with rfl|hy
  .exact Xv X G H.1
  .exact pY X G H.2 y hy
theorem aD (X:K.In h)(G:h.Ns Ct mg):∀ {l:Aa (Ar × Ak)},o6 K l->∀ y∈l,∃ k,mg y.1=Ab (.int y.2 k)
 |(x,C)::t,H,y,hy=>by
  rcases Az.mp hy with rfl|hy
  .obtain⟨k,e⟩:=H.1
   exact⟨k,Xv X G e⟩
  .exact aD X G H.2 y hy
theorem AZ {tab:Aa (Ar × Ai × Aa Ar)}{bl:Aa Ar}{clt plt:Aa (Ar × Af)}{J:Aa Ac}{Q:Aa Af}{cst:Aa (Ar × Ak)}{far:Af}(B:BdF tp tab)(hp:∀ y∈plt,y∈clt)(N:clt.lookup ("FarError" : Ar)=Ab far)(X:K.In h)(G:h.Ns Ct mg)
  (s:o8 K tp tab) (z:(bl.all λx=>OK (Dw K Ct x))=true) (q:o4 K clt) (g:o6 K cst) (e1:Q.all (sX K)=true) (e2:YM K=true) (e3:TK K Q=true) (e4:OC K J far=true) (e5:OA K (plt.map (·.2)) far=true) (e6:OB K (clt.map (·.2))=true):TxS K mg tp tab bl clt plt J Q cst where
 src:=iT X G tab s B
 nb:=λ{x} U=>by
  have e:=Cb.mp z x (by simpa using Ge.mp U)
  refine PySem.W.mg_none_of X G ?_
  revert e
  cases Dw K Ct x with
  |none=>intro e;cases e
  |some y=>cases y with
   |none=>intro _;rfl
   |some y=>intro e;cases e
 cl:=λh=>⟨wQ (p:=λx C=>mg x=Ab (.ref C)) (pY X G q) h,wQ (p:=λ_ C=>Fi K (.ref C)=true) (λy Y=>Cb.mp e6 y.2 (Mf Y)) h⟩
 rz:=λh=>⟨far,wQ (p:=λx C=>mg x=Ab (.ref C)) (λy Y=>pY X G q y (hp y Y)) h,wQ (p:=λ_ C=>fH K C far=true) (λy Y=>Cb.mp e5 y.2 (Mf Y)) h⟩
 ct:=⟨far,wQ (p:=λx C=>mg x=Ab (.ref C)) (pY X G q) N,λv hv=>Bv (Cb.mp e4 v hv)⟩
 cls:=TM e1 e2 e3
 gi:=λh=>wQ (p:=λx v=>∃ k,mg x=Ab (.int v k)) (aD X G g) h
end
structure LamT where
 qual:Ar
 params:Po
 body:Bt
 scope:El
noncomputable def xN (sc:El):Aa Ar:=sc.names.filterMap λy=>if y.2 == .free then Ab y.1 else none
inductive CloAt (h:Bo)(H:Hp)(fs:Aa Af)(L:LamT)(a:Af)(cv:Aa V):Prop
 |mk (cl:Aa (Ar × Af)) (pm ctv:Ac) (c:Af) (oc:Cq) (ws:Ay Ac) (t:Te) (o:h.get? a=Ab (Mq "<lambda>" L.qual L.params L.body L.scope cl pm c ctv)) (hc:H c=Ab (.frz oc (.frz oc (.own 0)))) (hd:oc.data=.fields ws) (ht:ws[1]? = Ab (.str L.qual t))
  (inj:∀ x y d,cl.lookup x=Ab d->cl.lookup y=Ab d->x=y) (cel:∀ x d,cl.lookup x=Ab d->H d=none/\∃ v,h.IsCell d v) (has:∀ x,L.scope.names.lookup x=Ab .free->∃ d,cl.lookup x=Ab d)
  (len:cv.length=(xN L.scope).length) (val:∀ (j:Ai) x v,(xN L.scope)[j]? = Ab x->cv[j]? = Ab v->∃ d u,cl.lookup x=Ab d/\qK v u/\h.IsCell d (Ab u)) (hn:H a=none) (hf:a ∉ fs):CloAt h H fs L a cv
theorem CloAt.at {X:Cx}{pins:Aa (Af × Cq)}{σ:_L.St}{H:Hp}{s:Ag}{L:LamT}{a:Af}{N:Aa V}(C:CloAt X.s₀.heap X.H₀ X.fs L a N)(F:Fn1 X)(I:Inv X pins σ H s):CloAt s.heap H (frs X.stack) L a N:=by
 obtain⟨m,g,U,c,oc,p,t,o,i,w,f,inj,Q,has,G,val,M,B⟩:=C;have Y:∀ b,b ∉ X.ex:=λb=>by rw[F.1];simp
 have h:∀ b o,X.s₀.heap.get? b=Ab o->b ∉ X.fs->b ∉ frs X.stack:=λb o e n z=>(F.mem.mp z).elim (Cp (Bd (Ba e) I.ok.above)) n;have A:∀ d v,X.H₀ d=none->X.s₀.heap.IsCell d v->s.heap.IsCell d v:=λd v J ⟨o,e,q⟩=>let ⟨_,z⟩:=I.base.any e J (Y d);⟨_,z,q⟩
 refine⟨m,g,U,c,oc,p,t,I.base.keep a _ o M B (Y a),I.base.frzs _ _ _ i,w,f,inj,λx d e=>?_,has,G,λj x v y r=>?_,I.base.free a _ o M (Y a),h a _ o B⟩
 .obtain⟨J,v,O⟩:=Q x d e
  obtain⟨ob,e3,q⟩:=id O;exact⟨I.base.free d ob e3 J (Y d),v,A d v J O⟩
 .obtain⟨d,u,T,q2,q3⟩:=val j x v y r
  exact⟨d,u,T,q2,A d _ (Q x d T).1 q3⟩
noncomputable def oX (cm:As)(P:Bf)(w:Bx)(K:Aj)(mg:Ar->Am Ac)(base:Bo)(N:Aa Ar)(L:LamT)(Q:Aa (Ar × Af))(f:Af)(cd:Ac)(A:Br)(outer:Aa Il)(s:Ag)(H:Hp)(E:XK):Cx where
 prog:=P
 w:=w
 K:=K
 mg:=mg
 base:=base
 A:=A.deeper (Kn L.qual L.scope s.heap.objs.size f cd Q)
 N:=N
 s₀:=s
 H₀:=H
 env:=Kn L.qual L.scope s.heap.objs.size f cd Q
 outer:=outer
 stack:=Kn L.qual L.scope s.heap.objs.size f cd Q::outer
 ex:=[]
 calm:=cm
 fn:=λ_=>false
 pn:=[]
 xe:=xeL P w A (Kn L.qual L.scope s.heap.objs.size f cd Q) outer H s E
structure LamSc (L:LamT)(ps:Aa Ar):Prop where
 kind:L.scope.kind=.function
 co:L.scope.isCoroutine=false
 gen:L.scope.isGenerator=false
 nocell:∀ y∈L.scope.names,y.2≠.cell
 par:∀ x∈ps,L.scope.names.lookup x=Ab .local
 one:ps.length<=1
 fr:∀ x∈xN L.scope,L.scope.names.lookup x=Ab .free
def f9 (P:Bf)(w:Bx)(K:Aj)(mg:Ar->Am Ac)(base:Bo)(cm:As)(k:Ai)(L:LamT)(n:Ai)(G:Aa D->DF):Prop:=
 ∀ (A:Br) (Y:Aa Il) (s:Ag) (H:Hp) (us:Aa Ac) (O N:Aa V) (a:Af) (J:Hp) (α : Aa Af) (S:Sto) (caps U:Aa D) (Q:VK) (E:XK),RoomC cm k A->Env0 P w K mg base A Y s H->CloAt s.heap H (frs Y) L a N->Rel K H J α S ->
  qD K J α caps N->qD K J α U O->qJ O us->U.length=n->spR K J α (G caps U S) Q E->Ih (Au P w) A (.call (.ref a) ⟨us,[]⟩) (CR (CXd P w) Y P w H s Q E) s
section
variable {P:Bf}{w:Bx}{K:Aj}{mg:Ar->Am Ac}{base:Bo}{cm:As}{L:LamT}{ps:Aa Ar}
theorem B6 {G:Aa (Ar × Af)}{f:Af}{cd:Ac}{A:Br}{Q:Aa Il}{s:Ag}{H:Hp}{E:XK}{I B:Aa V}{h':Bo}{tk:Ai}(S:LamSc L ps)(hd:cm=true->A.handled=none)(J:Env0 P w K mg base A Q s H)
  (inj:∀ x y d,G.lookup x=Ab d->G.lookup y=Ab d->x=y) (O:∀ x d,G.lookup x=Ab d->H d=none/\∃ v,s.heap.IsCell d v) (has:∀ x,L.scope.names.lookup x=Ab .free->∃ d,G.lookup x=Ab d)
  (M:B.length=(xN L.scope).length) (val:∀ (j:Ai) x v,(xN L.scope)[j]? = Ab x->B[j]? = Ab v->∃ d u,G.lookup x=Ab d/\qK v u/\s.heap.IsCell d (Ab u)) (C:I.length=ps.length) (r:qJ I us)
  (m:h'.Ns s.heap.objs.size λy=>(ps.zip us).reverse.lookup y) (T:∀ b o,s.heap.get? b=Ab o->h'.get? b=Ab o) :
  Inv (oX cm P w K mg base (ps++xN L.scope) L G f cd A Q s H E) [] ((I++B).map Ab) H { s with heap:=h',toks:=tk }:=by
 have kc:∀ d v,s.heap.IsCell d v->h'.IsCell d v:=λd v ⟨o,e,q⟩=>⟨o,T d o e,q⟩;have g:∀ b:Af,b ∉ ([]:Aa Af):=λb=>by simp
 refine⟨⟨J.mod,S.kind,rfl,rfl,Av _,inj,λy hy=>?_,(λy c z=>nomatch z),hd,Pg J.frames,.inr ⟨rfl,rfl⟩,λb z=>absurd z (g b),J.bs,J.bsz,λb _ _=>g b,λb z=>absurd z (g b),J.funs,J.frf⟩,
  rfl,J.bare,Un.kept T,⟨_,m,λi y v Y U h3=>?_⟩,λy c h=>?_,J.hok.fresh (Av _),λy c h=>(O y c h).1,λp hp=>absurd (show p∈([]:Aa (Af × Cq)) from hp) (by simp),J.hok.kept T,?_⟩
 .rcases hy with hy|hy
  .exact absurd rfl (S.nocell _ (Fl hy))
  .exact has y hy
 .have Y:(ps++xN L.scope)[i]? = Ab y:=Y
  rw[Dn] at U;obtain⟨v',U,e⟩:=De.mp U;cases e;by_cases N:i<ps.length
  .rw[Bi N] at Y
   rw[Bi (by rw[C];exact N)] at U
   obtain⟨u,n,rv⟩:=r.get U;refine⟨u,rv,.inl ⟨S.par y (Bq Y),?_⟩⟩;have one:=S.one;cases ps with
   |nil=>cases Y
   |cons p t =>
    cases t with
    |cons _ _=>simp at one
    |nil =>
     have i0:i=0:=by simpa using N
     subst i0;cases us with
     |nil=>cases n
     |cons u' us =>
      cases Y;cases n;simp
  .rw[Cw (Tq N)] at Y
   rw[Cw (by rw[C];exact Tq N),C] at U
   obtain⟨d,u,q1,q2,q3⟩:=val _ y v Y U;exact⟨u,q2,.inr ⟨.inr (S.fr y (Bq Y)),d,q1,kc d _ q3⟩⟩
 .obtain⟨_,v,q⟩:=O y c h
  exact⟨v,kc c v q⟩
 .show _=(ps++xN L.scope).length
  simp[C,M]
theorem XF {k:Ai}{m:DE}(S:LamSc L ps)(hb:∀ (U:Aa (Ar × Af)) (pm za O:Ac) (us:Aa Ac),us.length=ps.length->Rx (Ws "<lambda>" L.qual L.params L.body L.scope U pm za O) ⟨us,[]⟩=pure (ps.zip us))
  (N:∀ (U:Aa (Ar × Af)) (f:Af) (cd:Ac) (A:Br) (Y:Aa Il) (s:Ag) (H:Hp) (E:XK),RoomC cm k (A.deeper (Kn L.qual L.scope s.heap.objs.size f cd U)) ->
   QE (oX cm P w K mg base (ps++xN L.scope) L U f cd A Y s H E) L.body m):f9 P w K mg base cm (k+1) L ps.length λcaps T S=>m ((T++caps).map Ab) S:=by
 intro A Y s H us ws cv a P' α St caps T Q E hr n C r rc p rv hn G;obtain⟨U,pm,O,c,oc,vs,t,o,hc,hd,ht,inj,ze,has,zc,val,zi,hf⟩:=C;have G:spR K P' α (m ((T++caps).map Ab) St) Q E:=G;have lim:s.heap.NoLimit:=n.mod.nolimit.keeps λb o e=>(n.bs b o e).1;have zg:us.length=ps.length:=by rw[<- rv.length,<- p.length];exact hn
 have M:∀ y∈ps.zip us,L.scope.names.lookup y.1=Ab .local:=λy hy=>S.par _ (Mj hy).1;refine PySem.W.kla_callFunE hr.depth o rfl S.co S.gen rfl ⟨c,oc,vs,t,rfl,(n.hok c _ hc).1,hd,ht⟩ ?_;rw[hb U pm (.ref c) O us zg];refine Al (wpAny_newFunctionEnv S.nocell M (λB zf zd=>?_) S.kind);have J:∀ b o,s.heap.get? b=Ab o->B.get? b=Ab o:=λb o e=>zd.extBut b o (Cp (Ba e)) (Ah _ e);refine⟨lim.keeps J,?_⟩;show Ih _ _ (.expr L.body (Kn L.qual L.scope s.heap.objs.size a (.ref c) U)) _ _;have I:=B6 (cm:=cm) (f:=a) (cd:=.ref c) (E:=E) (tk:=s.toks+(ps.zip us).length) S hr.hd n inj ze has zc val (by rw[<- p.length];exact hn) rv zf J
 have re:qY K P' α ((ws++cv).map Ab) ((T++caps).map Ab):=by
  have z:=p.append rc;refine⟨by simp[z.length,p.length,rc.length],λi d e=>?_⟩
  rw[Dn] at e;obtain⟨d',h,e2⟩:=De.mp e;cases e2;obtain⟨v,h1,h2⟩:=z.get h;exact⟨v,by rw[Dn,h1];rfl,h2⟩
 refine PySem.W.kla_codeExpr (Gm ((N U a (.ref c) A Y s H E (hr.deeper _)).1 [] _ _ H Q I ⟨P',α,_,St,r,re,?_⟩) (λu s' q=>?_) λ_ _ y=>y)
 .cases z:m ((T++caps).map Ab) St with
  |ok d S'=>rw[z] at G;exact G
  |ex e x S'=>rw[z] at G;exact λu s' q=>rB (A:=A) rfl q λH' P1 zb r1 h e2=>G H' P1 zb r1 h e2
  |bad=>rw[z] at G;exact An G
 .obtain⟨v,H',g,zh,q⟩:=q
  exact⟨v,H',g.os,g.bare,g.base,g.hok,zh,q⟩
end
open Classical in
def yV (i:Ai)(J:DA)(a:Af)(Y:Aa V)(n:Ai)(G:Aa D->DF):DE:=λenv S=>match env[i]? with
 |some (Ab (.clo b vs caps))=>if b=a/\vs=Y then (J env S).bind λQ U=>if Q.length=n then G caps Q U else .bad else .bad
 |_=>.bad
section
variable {X:Cx}{cm:As}{k n i:Ai}{x:Ar}{p pos:Ev}{e:Bt}{es:Aa Bt}{fa:DA}{L:LamT}{G:Aa D->DF}{a:Af}{cv:Aa V}
set_option tactic.hygienic true in
theorem a8 {S:Sto}{P:Hp}{α:Aa Af}{Ok:D->Sto->Prop}(h:qI X P α (yV i fa a cv n G env S) Ok):∃ caps,env[i]? = Ab (Ab (.clo a cv caps))/\qI X P α ((fa env S).bind λQ J=>if Q.length=n then G caps Q J else .bad) Ok:=by
 unfold yV at h
 split at h
 .rename_i b vs caps e
  obtain⟨⟨rfl,rfl⟩,Y⟩:=x9 h;exact⟨caps,e,Y⟩
 .exact An h
theorem VG {h:Bo}{H:Hp}{fs:Aa Af}(C:CloAt h H fs L a cv):PySem.W.FnAt a h:=by
 obtain⟨J,U,Q,c,oc,Y,t,o,_⟩:=C;exact⟨_,_,_,_,o⟩
theorem a9 {pins:Aa (Af × Cq)}{σ:_L.St}{H P:Hp}{α:Aa Af}{s:Ag}{Q:VK}{U:Aa V}{J:Aa D}{S:Sto}(N:f9 X.prog X.w X.K X.mg X.base cm k L n G)(A:RoomC cm k X.A)(F:Fn1 X)(C:CloAt X.s₀.heap X.H₀ X.fs L a cv)
  (I:Inv X pins σ H s) (r:Rel X.K H P α S) (O:qD X.K P α caps cv) (M:qD X.K P α J U) (B:qJ U us) (Y:qS X P α (if J.length=n then G caps J S else .bad) Q):Ao (Au X.prog X.w) X.A (call (.ref a) us) (EP X pins σ Q) X.xe s:=by
 obtain⟨T,Y⟩:=x9 Y;exact fG (λ_=>F) I Y (N X.A X.stack s H us U cv a P α S caps J Q _ A I.env0 (C.at F I) r O M B T (c5 Y))
theorem XG {pins:Aa (Af × Cq)}{σ:_L.St}{H P:Hp}{α:Aa Af}{s:Ag}{Q:Ac->Ag->Prop}(T:X.N[i]? = Ab x)(hv:Vis X.env.scope x)(N:(x == ("__debug__" : Ar))=false)(J:(x == ("__classdict__" : Ar))=false)
  (I:Inv X pins σ H s) (re:qY X.K P α σ env) (y:env[i]? = Ab (Ab (.clo a cv caps))) (h:∀ Y,Inv X pins σ H Y->qD X.K P α caps cv->Q (.ref a) Y):Ao (Au X.prog X.w) X.A (eval (.Name x p) X.env) Q X.xe s:=by
 obtain⟨v,O,U⟩:=re.2 i _ y;simp only[Rep] at U;obtain⟨rfl,M⟩:=U;refine thn (W5 T hv N J pins s σ H (λv H'=>v=.ref a/\H'=H) I ⟨_,O,rfl,rfl⟩) λu Y ⟨v,q,B,w,C,A⟩=>?_;subst C;subst A;cases (show u=Cg a from w)
 exact h Y B M
theorem TZ (y:f9 X.prog X.w X.K X.mg X.base cm k L n G)(m:RoomC cm k X.A)(F:Fn1 X)(C:CloAt X.s₀.heap X.H₀ X.fs L a cv)(g:X.N[i]? = Ab x)(hv:Vis X.env.scope x)(u:(x == ("__debug__" : Ar))=false)(Y:(x == ("__classdict__" : Ar))=false)(w:PA X (e::es) (tDA X fa))
  (he:Bm (e::es) X.env=(false,eval e X.env)::Bm es X.env:=by rfl) (J:(Gh pos (Bm es X.env)).any (·.1)=false:=by rfl):PE X (.Call (.Name x p) (e::es) [] pos) (tD X (yV i fa a cv n G)):=by
 intro A s σ H Q I h;obtain⟨P,α,env,S,r,re,U⟩:=h;obtain⟨caps,o,U⟩:=a8 U;refine Hb (XG g hv u Y I re o λs1 O v=>?_);refine PySem.W.callWith_F (VG (C.at F O)) (thn (wB w O r re U pos) λus s2 ⟨vs,H2,P2,d,ds,S2,M,f,q,c,rp,B,T,N⟩=>⟨VG (C.at F M),?_⟩) he J;exact a9 y m F C M q (qD.mono B T _ _ v) rp f (qS.base B T N)
theorem GU (O:f9 X.prog X.w X.K X.mg X.base cm k L n G)(M:RoomC cm k X.A)(F:Fn1 X)(C:CloAt X.s₀.heap X.H₀ X.fs L a cv)(w:X.N[i]? = Ab x)(hv:Vis X.env.scope x)(B:(x == ("__debug__" : Ar))=false)(Y:(x == ("__classdict__" : Ar))=false) :
  PE X (.Call (.Name x p) [] [] pos) (tD X (yV i qC a cv n G)):=by
 intro N s σ H Q I h;obtain⟨P,α,env,S,r,re,J⟩:=h;obtain⟨caps,T,J⟩:=a8 J;refine Hb (XG w hv B Y I re T λy U A=>?_);exact PySem.W.callWith_F0 (VG (C.at F U)) (a9 (us:=[]) O M F C U r A .nil .nil J)
end
theorem cS {i:Ai}{c:Ac}(l:Aa Ac)(h:Mb l):Mb (l++[Gn i,Gn j,c]):=by
 fun_induction Mb l with
 |case1=>simp[Mb,Gn]
 |case2 _ _ _ _ _ Q Y=>simp only[Jh,Mb];exact Y h
 |case3=>exact An h
set_option tactic.hygienic true in
theorem Z5 {Q:Ev}{i:Ai}{c v:Ac}(l:Aa Ac)(h:Mb l)(e:Pp Q (l++[Gn i,Gn j,c])=Ab v):Pp Q l=Ab v\/v=c:=by
 fun_induction Mb l with
 |case1 =>
  simp only[Ip,Pp,Gn] at e
  split at e
  .exact .inr (Cy e).symm
  .cases e
 |case2 _ _ _ _ _ J U =>
  simp only[Jh,Pp] at e ⊢
  split at e
  .rename_i Y;rw[Be Y];exact .inl e
  .rename_i Y;rw[Bg Y];exact U h e
 |case3=>exact An h
theorem MOk.at {K:Aj}{H P:Hp}{α:Aa Af}{a:Af}(e:H' a=H a):∀ {o:MO},MOk K H P α a o->MOk K H' P α a o
 |.dead,_=>trivial
 |.lst _,⟨vs,q,r⟩=>⟨vs,e.trans q,r⟩
 |.dct _,⟨vs,q,r⟩=>⟨vs,e.trans q,r⟩
 |.ins _ _,⟨Q,vs,q,r⟩=>⟨Q,vs,e.trans q,r⟩
section
variable {X:Cx}{pins:Aa (Af × Cq)}{σ : _L.St}{H P:Hp}{α : Aa Af}{s:Ag}{S:Sto}{y:Ar}{c T:Af}
theorem Rel.grown {ps:Ay Ac}{I:Ay Ac}{t:Te}{i:Ai}(r:Rel X.K H P α S)(m:Mod X.K X.mg X.base)(hy:y∈w9)(ht:Dt X.K y=Ab (c,T))(e:H T=Ab (.tbl ps))(p:P T=none)(f:T ∉ α)(ok:Mb ps.toList)
  (cd:∀ Q Y,Pp Q ps.toList=Ab Y->∃ c oc vs t,Y=.ref c/\H c=Ab (.frz oc (.frz oc (.own 0)))/\oc.data=.fields vs/\vs[1]? = Ab (.str (y ++ ".<locals>." ++ "<lambda>") t)) (O:H c'=none) (hd:oc.data=.fields I) (hs:I[1]? = Ab (.str (y ++ ".<locals>." ++ "<lambda>") t)) :
  Rel X.K (upd (upd H T (.tbl (ps++#[Gn i,Gn j,.ref c']))) c' (.frz oc (.frz oc (.own 0)))) P α S:=by
 have ne:T≠c':=qT e O;have G:∀ b u,b≠T->H b=Ab u->upd (upd H T (.tbl (ps++#[Gn i,Gn j,.ref c']))) c' (.frz oc (.frz oc (.own 0))) b=Ab u:=λb u h q=>by rw[qG (qT q O),qG h];exact q
 have nT:∀ b∈α,b≠T:=λb h z=>f (z▸h);have nc:∀ (k:Ai) b,α[k]? = Ab b->b≠c':=λk b h z=>r.own k b h (z▸O);have J:∀ (k:Ai) b,α[k]? = Ab b->upd (upd H T (.tbl (ps++#[Gn i,Gn j,.ref c']))) c' (.frz oc (.frz oc (.own 0))) b=H b:=λk b h=>by rw[qG (nc k b h),qG (nT b (Bq h))]
 refine⟨λx w d U n=>?_,λb u q=>G b u (λz=>by rw[z,p] at q;cases q) (r.sub b u q),r.len,r.nd,r.sep,λk b o v h2=>MOk.at (J k b v) (r.at' k b o v h2),λk b h=>by rw[J k b h];exact r.own k b h⟩
 by_cases g:U=T
 .subst g
  cases m.inj x w y hy d c U n ht;refine⟨_,by rw[qG ne];exact qQ,p,f,?_,λQ Y q=>?_⟩
  .rw[Dr];exact cS _ ok
  .rw[Dr] at q
   rcases Z5 _ ok q with q|q
   .obtain⟨d,N,vs,t,L,C,a3⟩:=cd Q Y q
    exact⟨d,N,vs,t,L,G d _ (λz=>by rw[z,e] at C;cases C) C,a3⟩
   .exact⟨c',oc,I,t,q,qQ,hd,hs⟩
 .obtain⟨qs,e1,p1,L,M,A⟩:=r.tb x w d U n
  exact⟨qs,G U _ g e1,p1,L,M,λQ Y q=>let ⟨d,N,vs,t,b1,B,b3⟩:=A Q Y q;⟨d,N,vs,t,b1,G d _ (λz=>by rw[z,e] at B;cases B) B,b3⟩⟩
theorem Inv.pinned {a:Af}{o:Cq}{h':Bo}{tk:Ai}(I:Inv X pins σ H' { s with heap:=h'.push o,toks:=tk })(J:a=h'.objs.size)(hs:s.heap.objs.size<=h'.objs.size)(Y:Inv X pins σ H s)(U:H' a=none)(G:∀ v,o.data≠.cell v)(Q:o.isFreed=false:=by rfl):Inv X ((a,o)::pins) σ H' { s with heap:=h'.push o,toks:=tk }:=by
 refine I.pins_of λp hp=>?_;rcases Az.mp hp with rfl|hp
 .subst J
  exact⟨Bc _ Q,U,Gj (Bd Y.lt hs),Y.nofs hs,G⟩
 .exact I.pin p (Cd _ hp)
theorem VX {M:Ky}{Y:Po}{N:Bt}{scope:El}{J:Ev}{cl:Aa (Ar × Af)}{Q:Ac->Ag->Prop}(I:Inv X pins σ H s)(r:Rel X.K H P α S)(hy:y∈w9)(ht:Dt X.K y=Ab (c,T))(hc:X.env.code=.ref c)(hq:X.env.qual=y ++ ".<locals>.")
  (zb:Xw Y X.env=([],[])) (za:Tt scope X.env=pure cl)
  (h:∀ (a:Af) (H':Hp) (s':Ag) (pm G:Ac) (c':Af) (oc:Cq) (A:Ay Ac) (t:Te),Inv X ((a,Mq "<lambda>" (y ++ ".<locals>." ++ "<lambda>") Y N scope cl pm c' G)::pins) σ H' s'->Rel X.K H' P α S ->
   H' c'=Ab (.frz oc (.frz oc (.own 0)))->oc.data=.fields A->A[1]? = Ab (.str (y ++ ".<locals>." ++ "<lambda>") t)->Q (.ref a) s'):Ao M X.A (eval (.Lambda Y N scope J) X.env) Q E s:=by
 obtain⟨m,e,pn,an,ok,cd⟩:=r.tb y hy c T ht;have hP:s.heap.get? T=Ab (Lo m):=I.hok T _ e;have hC:Wh s.heap c T:=(I.mod.code y hy c T ht).keeps I.bk;have hg:s.heap.Ns Ct X.mg:=I.mod.glob.keeps I.bk;have zc:Ct≠T:=λz=>by
  obtain⟨o,es,ep,g,d1,_⟩:=hg;rw[z,hP] at g;cases g;cases d1
 have U:s.heap.BuiltinsAt X.mg T:=by
  obtain⟨bm,o,b1,b2,b3,b4,b5,b6⟩:=I.mod.bm;have C:=I.bk _ _ b3;refine⟨bm,o,b1,b2,λz=>?_,λz=>?_,C,b4,b5,b6⟩
  .obtain⟨o',es,ep,g,d1,_⟩:=hg
   rw[<- z,C] at g;cases g;rw[b6] at d1;cases d1
  .rw[z,hP] at C;cases C;cases b4
 refine PySem.W.kla_eval zb ?_;rw[hq];cases hf:Pp J m.toList with
 |none =>
  refine PySem.W.kla_makeFunction (mg:=X.mg) za I.ok.glob hg hc hC hP ok hf zc U λc' G h' tk hx L i f zd=>?_;obtain⟨c2,oc,A,t,z,zf,hd,hs⟩:=f;cases z;have hn:H c'=none:=I.hok.fresh L;have ne:T≠c':=qT e hn;have O:s.heap.objs.size<=h'.objs.size:=Dc L (Eo i)
  let o:=Mq "<lambda>" (y ++ ".<locals>." ++ "<lambda>") Y N scope cl ((X.mg "__name__").getD .none) c' G
  have kp:∀ b u,b≠T->s.heap.get? b=Ab u->(h'.push o).get? b=Ab u:=λb u U q=>Ah _ (hx b u U q);have eT:(h'.push o).get? T=Ab (Lo (m++#[Gn J.line,Gn J.col,.ref c'])):=Ah _ zd
  let p:=upd (upd H T (.tbl (m++#[Gn J.line,Gn J.col,.ref c']))) c' (.frz oc (.frz oc (.own 0)))
  have go:∀ b u,b≠T->H b=Ab u->p b=Ab u:=λb u h q=>by show upd _ _ _ b=_;rw[qG (qT q hn),qG h];exact q
  have x:∀ b,b≠T->b≠c'->H b=none->p b=none:=λb h h' q=>by show upd _ _ _ b=_;rw[qG h',qG h];exact q
  have nT:∀ b,H b=none->b≠T:=λb q z=>by rw[z,e] at q;cases q
  have eH:p T=Ab (.tbl (m++#[Gn J.line,Gn J.col,.ref c'])):=by show upd _ _ _ T=_;rw[qG ne];exact qQ
  have un:Un X.fs [] H p s.heap (h'.push o):=by
   refine⟨λb u q n _ _=>kp b u (nT b n) q,λb u q n _ _=>⟨u.slots,kp b u (nT b n) q⟩,λb u q n _=>x b (nT b n) (Cp (Bd (Ba q) L)) n,λb u q _=>?_,λb xs q=>go b _ (λz=>by rw[z,e] at q;cases q) q,λb u xs q=>go b _ (λz=>by rw[z,e] at q;cases q) q,λb qs q=>?_⟩
   .by_cases U:b=T
    .rw[U];exact⟨_,eT⟩
    .exact⟨u,kp b u U q⟩
   .by_cases U:b=T
    .rw[U,e] at q;cases q
     exact⟨_,by rw[U];exact eH⟩
    .exact⟨#[],by rw[go b _ U q];simp⟩
  have ze:HOk X.prog X.w p (h'.push o):=λb u q=>by
   by_cases U:b=c'
   .have q':Ab (HO.frz oc (.frz oc (.own 0)))=Ab u:=by rw[<- q,U];exact qQ.symm
    cases q';have z:(h'.push o).get? b=Ab oc:=by rw[U];exact Ah _ zf
    exact⟨z,z,_,z⟩
   .by_cases B:b=T
    .rw[B,eH] at q;cases q
     rw[B];exact eT
    .have q':H b=Ab u:=by have q2:upd _ _ _ b=Ab u:=q;rw[qG U,qG B] at q2;exact q2
     refine(I.hok b u q').stay (λd v hd q=>kp d v ?_ q) (λd q=>go d _ (λz=>by rw[z,e] at q;cases q) q) λd xs q=>go d _ (λz=>by rw[z,e] at q;cases q) q
     rcases hd with z|z
     .rw[z];exact B
     .intro w;rw[w,e] at z;cases z
  have I2:=I.un (t':=tk) un ze;refine h h'.objs.size p _ _ G c' oc A t (Inv.pinned I2 rfl O I (x _ (λz=>?_) (Gj i) (I.hok.fresh O)) λv z=>by cases z) (r.grown I.mod hy ht e pn an ok cd hn hd hs) qQ hd hs
  rw[<- z] at e;exact absurd (Bd (I.hok.lt e) O) (Ej _)
 |some cv =>
  obtain⟨c',oc,A,t,rfl,a2,a3,a4⟩:=cd J cv hf;refine PySem.W.kla_makeFunctionHit (mg:=X.mg) za I.ok.glob hg hc hC hP ok hf U λG h' tk hk O=>?_;have I2:=I.kept (t':=tk) (h':=h'.push (Mq "<lambda>" (y ++ ".<locals>." ++ "<lambda>") Y N scope cl ((X.mg "__name__").getD .none) c' G)) λb u q=>Ah _ (hk b u q);exact h h'.objs.size H _ _ G c' oc A t (Inv.pinned I2 rfl O I (I.hok.fresh O) λv z=>by cases z) r a2 a3 a4
end
noncomputable def p8:Aa Ai->qF->Am (Aa D)
 |[],_=>Ab []
 |i::r,env=>match env[i]? with
  |some (Ab d)=>(p8 r env).map (d::·)
  |_=>none
set_option tactic.hygienic true in
theorem cY {K:Aj}{P:Hp}{α:Aa Af}{σ:_L.St}(re:qY K P α σ env):∀ (Q:Aa Ai) (caps:Aa D),p8 Q env=Ab caps->∃ Y,qD K P α caps Y/\Y.length=Q.length/\∀ (j i:Ai) v,Q[j]? = Ab i->Y[j]? = Ab v->σ[i]? = Ab (Ab v)
 |[],caps,h=>by cases h;exact⟨[],.nil,rfl,λj i v e=>by simp at e⟩
 |i::r,caps,h=>by
  unfold p8 at h
  split at h
  .rename_i d e
   obtain⟨T,G,rfl⟩:=De.mp h;obtain⟨Y,L,N,B⟩:=cY re r T G;obtain⟨v,C,O⟩:=re.2 i d e;refine⟨v::Y,.cons O L,by simp[N],λj k w J U=>?_⟩
   cases j with
   |zero=>cases J;cases U;exact C
   |succ j=>exact B j k w (by simpa using J) (by simpa using U)
  .cases h
open Classical in
def uni (f:Af->Aa V->Res D):Res D:=if ∀ a Q,f a Q=f 0 [] then f 0 [] else .bad
theorem Y4 {f:Af->Aa V->Res D}{R:Res D}(h:∀ a Q,f a Q=R):uni f=R:=by
 unfold uni;rw[Be λa Q=>(h a Q).trans (h 0 []).symm];exact h 0 []
set_option tactic.hygienic true in
theorem EH {f:Af->Aa V->Res D}(h:uni f≠.bad)(a:Af)(Q:Aa V):f a Q=uni f:=by
 unfold uni at h ⊢
 split at h
 .rename_i z;rw[Be z];exact z a Q
 .exact absurd rfl h
noncomputable def exO (Q:As)(R:Res D):Res D:=match Q,R with
 |true,.ex _ _ _=>.bad
 |_,R=>R
def yE (G:As)(Q:Aa Ai)(n N:Ai)(U:DA)(g:Af->Aa V->DS):DE:=λenv S=>match p8 Q env with
 |none=>.bad
 |some caps=>(U env S).bind λJ O=>if J.length+1=n then exO G (uni λa Y=>qP N (g a Y) (.clo a Y caps::J) O) else .bad
def MV (P:Bf)(w:Bx)(K:Aj)(mg:Ar->Am Ac)(base:Bo)(cm:As)(k B m:Ai)(x:Ar)(n N:Ai)(g:(Aa D->DF)->Af->Aa V->DS):Prop:=
 ∃ f C st J U,U.length=n/\J.length=N/\mg x=Ab (.ref f)/\Fun K x x st f C/\vN K C U [] /\ FnScope J U (qH st)/\∀ (L:LamT) (G:Aa D->DF) (a:Af) (O:Aa V),f9 P w K mg base cm B L m G ->
  ∀ (Y:Ac) (A:Br) (Q:Aa Il) (s:Ag) (H:Hp) (E:XK),CloAt s.heap H (frs Q) L a O->RoomC cm k (A.deeper (Go x (qH st) s.heap.objs.size f Y))->QB (cxC cm P w K mg base J x (qH st) f Y A Q s H E) (zL st) (g G a O)
noncomputable def gB (Y:El)(J:Aa Ar)(sc:El)(Q:Aa Ai):As:=decide ((xN sc).length=Q.length)&&(Q.zip (xN sc)).all λp=>J[p.1]? == Ab p.2&&(Y.names.lookup p.2 == Ab .cell||Y.names.lookup p.2 == Ab .free)
section
variable {X:Cx}{pins:Aa (Af × Cq)}{σ : _L.St}{H P:Hp}{α : Aa Af}{s:Ag}{S:Sto}{y x:Ar}{c T:Af}{params:Po}{body:Bt}{scope:El}{lpos p pos:Ev}{es:Aa Bt}{fa:DA}{nx cm:As}{k kl m n N:Ai}{cap:Aa Ai}{G:Aa D->DF}{g:(Aa D->DF)->Af->Aa V->DS}
theorem NY {R:Res D}{Ok:D->Sto->Prop}(h:qI X P α (exO nx R) Ok):R≠.bad/\qI X P α R Ok/\((∃ c x Q,R=.ex c x Q)->nx=false):=by
 cases R with
 |ok d Q=>exact⟨nofun,by cases nx <;> exact h,λ⟨_,_,_,z⟩=>nomatch z⟩
 |bad=>cases nx <;> exact An h
 |ex c x Q =>
  cases nx with
  |true=>exact An h
  |false=>exact⟨nofun,h,λ_=>rfl⟩
theorem Rel.know {K:Aj}(r:Rel K H P α S)(h:H c'=Ab (.frz oc (.frz oc (.own 0)))):Rel K H (upd P c' (.frz oc (.frz oc (.own 0)))) α S/\qE P (upd P c' (.frz oc (.frz oc (.own 0)))):=by
 have O:qE P (upd P c' (.frz oc (.frz oc (.own 0)))):=λb u q=>by
  by_cases Q:b=c'
  .have z:=r.sub b u q
   rw[Q,h] at z;cases z;rw[Q];exact qQ
  .rw[qG Q];exact q
 refine⟨⟨λx B d T A=>let ⟨M,e,L,w,ok,v⟩:=r.tb x B d T A;⟨M,e,(qG λ(z:T=c')=>by rw[z,h] at e;cases e).trans L,w,ok,v⟩,λb u q=>?_,r.len,r.nd,λi a o J Y U=>?_,λi a o J Y=>(r.at' i a o J Y).mono O (Bh _),r.own⟩,O⟩
 .by_cases Q:b=c'
  .rw[Q,qQ] at q;cases q;rw[Q];exact h
  .rw[qG Q] at q;exact r.sub b u q
 .have Q:a≠c':=by
   rintro rfl;have z:=r.at' i a o J Y;cases o with
   |dead=>exact U rfl
   |lst ds=>obtain⟨vs,z,_⟩:=z;rw[h] at z;cases z
   |dct I=>obtain⟨vs,z,_⟩:=z;rw[h] at z;cases z
   |ins C fs=>obtain⟨f,vs,z,_⟩:=z;rw[h] at z;cases z
  rw[qG Q];exact r.sep i a o J Y U
theorem lW {z:Ar × Ie}(h:z∈sc.names)(Q:z.2=.free):z.1∈xN sc:=Gz.mpr ⟨z,h,by rw[Q];rfl⟩
set_option tactic.hygienic true in
theorem UG {z:Ar}(h:z∈xN sc):(z,Gu)∈sc.names:=by
 obtain⟨⟨n,k⟩,Y,Q⟩:=Gz.mp h
 split at Q
 .rename_i e
  have:k=Gu:=by simpa using e
  cases Q;subst this;exact Y
 .cases Q
theorem nJ (Q:gB X.env.scope X.N scope cap=true){j:Ai}{z:Ar}(h:(xN scope)[j]? = Ab z):∃ i,cap[j]? = Ab i/\X.N[i]? = Ab z/\(X.env.scope.names.lookup z=Ab .cell\/X.env.scope.names.lookup z=Ab .free):=by
 simp only[gB,Ax,Ch] at Q;obtain⟨O,Y⟩:=Q;have J:j<cap.length:=by rw[<- O];exact(Aw.mp h).1
 have e:=Ap J;have U:(cap[j],z)∈cap.zip (xN scope):=La.mpr ⟨j,by rw[Sj];exact⟨e,h⟩⟩
 have q:=Cb.mp Y _ U;simp only[Ax,Ml,Ts] at q;exact⟨_,e,q.1,q.2⟩
theorem VW (U:gB X.env.scope X.N scope cap=true)(ok:X.Ok):Tt scope X.env=pure (wK X.env.cells scope.names []):=gW λz J Y=>by
 obtain⟨j,Q⟩:=La.mp (lW J Y);obtain⟨i,_,_,q⟩:=nJ U Q;exact ok.has z.1 q
theorem uS (U:gB X.env.scope X.N scope cap=true)(ok:X.Ok){z:Ar}{d:Af}(h:(wK X.env.cells scope.names []).lookup z=Ab d):X.env.cells.lookup z=Ab d:=by
 rcases jN _ _ h with h|⟨J,Q⟩
 .cases h
 .obtain⟨j,Y⟩:=La.mp (lW J rfl)
  obtain⟨i,_,_,q⟩:=nJ U Y;obtain⟨O,e⟩:=ok.has z q;rw[e,Os] at Q;rw[e,Q]
theorem TL {a:Af}{L:Ay Ac}{t:Te}{o U:Ac}{B:Aa V}{s':Ag}(Q:gB X.env.scope X.N scope cap=true)(I:Inv X ((a,Mq "<lambda>" (y ++ ".<locals>." ++ "<lambda>") params body scope (wK X.env.cells scope.names []) o c' U)::pins) σ H' s')
  (hc:H' c'=Ab (.frz oc (.frz oc (.own 0)))) (hd:oc.data=.fields L) (hs:L[1]? = Ab (.str (y ++ ".<locals>." ++ "<lambda>") t)) (hl:B.length=cap.length) (hv:∀ (j i:Ai) v,cap[j]? = Ab i->B[j]? = Ab v->σ[i]? = Ab (Ab v)) :
  CloAt s'.heap H' (frs X.stack) ⟨y ++ ".<locals>." ++ "<lambda>",params,body,scope⟩ a B:=by
 obtain⟨f,r,n2,n3,_⟩:=I.pin _ (Cd _ (.head _));refine⟨_,o,U,c',oc,L,t,f,hc,hd,hs,λz z' d O C=>I.ok.inj z z' d (uS Q I.ok O) (uS Q I.ok C),λz d h=>⟨I.freeC z d (uS Q I.ok h),I.cell z d (uS Q I.ok h)⟩,λz hz=>jD _ _ (.inl (Fl hz)),?_,λj z v O C=>?_,r,λz=>?_⟩
 .simp only[gB,Ax,Ch] at Q
  rw[hl,<- Q.1]
 .obtain⟨i,e,q2,q⟩:=nJ Q O
  obtain⟨m,hm,w⟩:=I.loc;obtain⟨u,ru,lk⟩:=w i z v q2 (hv j i v e C) (q.elim (λk=>.inr (.inl k)) λk=>.inr (.inr k));rcases lk with⟨kl,_⟩|⟨_,d,M,Y⟩
  .have A:X.env.scope.names.lookup z=Ab .local:=kl
   rcases q with k|k <;> (rw[A] at k;cases k)
  .obtain⟨d',J⟩:=jD (cells:=X.env.cells) scope.names [] (.inl (UG (Bq O)))
   have:=uS Q I.ok J;rw[M] at this;cases this;exact⟨d,u,J,ru,Y⟩
 .rcases Az.mp (I.stkSub a z) with z|z
  .exact n2 z
  .exact n3 z
theorem rG (D:MV X.prog X.w X.K X.mg X.base cm k kl m x n N g)(LX:f9 X.prog X.w X.K X.mg X.base cm kl ⟨y ++ ".<locals>." ++ "<lambda>",params,body,scope⟩ m G)(hr:RoomC cm (k+1) X.A)(hF:nx=false->Fn1 X)(hg:Gl X x)(zc:(x == ("__debug__" : Ar))=false)
  (hy:y∈w9) (ht:Dt X.K y=Ab (c,T)) (hc:X.env.code=.ref c) (hq:X.env.qual=y ++ ".<locals>.") (B:Xw params X.env=([],[])) (hB:gB X.env.scope X.N scope cap=true) (ha:PA X es (tDA X fa))
  (he:Bm (.Lambda params body scope lpos::es) X.env=(false,eval (.Lambda params body scope lpos) X.env)::Bm es X.env) (ze:(Gh pos (Bm es X.env)).any (·.1)=false) :
  PE X (.Call (.Name x p) (.Lambda params body scope lpos::es) [] pos) (tD X (yE nx cap n N fa (g G))):=by
 intro pins s σ H Q I h;obtain⟨P,α,env,S,r,re,U⟩:=h;obtain⟨f,fd,st,Ns,ps,hn,hN,hm,F,hb,hS,J⟩:=D;subst hn;subst hN;have U:qI X P α (match p8 cap env with
  |none=>.bad
  |some caps=>(fa env S).bind λds S1=>if ds.length+1=ps.length then exO nx (uni λa L=>qP Ns.length (g G a L) (.clo a L caps::ds) S1) else .bad) (OkV X P α Q):=U
 cases Y:p8 cap env with
 |none=>rw[Y] at U;exact An U
 |some caps =>
  rw[Y] at U;obtain⟨L,rc,e,hv⟩:=cY re cap caps Y;refine Hb (uF I hg hm ?_ zc);refine Rh (h₀:=X.base) I.ok.mod.kin F.kp ?_ he ze;rw[he];show Ao _ _ (spliced ((false,eval (.Lambda params body scope lpos) X.env)::Gh pos (Bm es X.env))) _ _ s;refine Mw (VX I r hy ht hc hq B (VW hB I.ok) λa H1 s1 pm zm c' oc ws t I1 r1 zb hd hs=>?_);obtain⟨rk,i⟩:=Rel.know r1 zb;refine thn (wB ha I1 rk (re.mono i (Bh _)) (qS.base i (Bh _) U) pos) λus v ⟨vs,H2,P2,zi,ds,S2,u,rv,r2,zg,rp,q,q2,zd⟩=>⟨u.kIn,?_⟩;obtain⟨hl,zf⟩:=x9 zd;obtain⟨nb,w,nf⟩:=NY zf;have e1:=EH nb a L;rw[<- e1] at w nf;have C:=TL hB u (r2.sub _ _ (q _ _ qQ)) hd hs e hv;have I3:Inv X pins σ H2 v:=u.pins_of λp hp=>u.pin p (Cd _ (Bp _ hp));obtain⟨zl,od,kV,zh,zk,an,o,ct,zj,rfl,lk,za⟩:=F.ex;have hz:(Cg a::us).length=ps.length:=by rw[<- hl,rp.length,rv.length];rfl
  have O:=hb v (.ref a::us) u.kIn (by rw[Fv];exact hz)
  rw[Fv] at O;have d:=qD.mono (i.trans q) q2 _ _ rc;have M:=qS.base q q2 w;have A:qJ (V.ref a::vs) (Cg a::us):=.cons rfl rv;exact fG (λz=>hF (nf z)) I3 M (X3 lk za hS (by rw[<- hz];exact A.length) hr I3.env0 O A (sS (J _ G a L LX o X.A X.stack v H2 _ C (hr.deeper _)).1 r2 (.cons (by simp only[Rep];exact⟨trivial,d⟩) rp) (c5 M)))
end
section
variable {X:Cx}{pins:Aa (Af × Cq)}{σ : _L.St}{H P:Hp}{α : Aa Af}{s:Ag}{S:Sto}
noncomputable def kS:DF:=λQ S=>match Q with
 |[d,.tup [.ty b,.ty c]]=>if uV b=true/\uV c=true then match tyD d S with
   |some a=>.ok (.bl (w8 a b||w8 a c)) S
   |none=>.bad
  else .bad
 |_=>.bad
inductive KitAt (X:Cx)(u:Ac)(t:Ac)(h:Bo):Prop
 |mk (Hh:Bo->Prop) (Z:PySem.W.KitX X.K u t Hh) (p:Hh h) (ne:u≠.builtin "__main__.__loader__#opaque"):KitAt X u t h
theorem LV {v:V}{u:Ac}{d:D}{a:Em}(I:Inv X pins σ H s)(r:Rel X.K H P α S)(q:qK v u)(p:Rep X.K P α d v)(C:tyD d S=Ab a):KitAt X u (.type a) s.heap:=by
 cases G7 r p C with
 |tup G L e sq ea =>
  subst e ea;cases (show u=Cg G from q)
  obtain⟨N,O,⟨o,Q,Y,_⟩,_⟩:=I.tuple sq;exact⟨_,Mv,⟨o,Q,Y⟩,λz=>nomatch z⟩
 |lst G L e sq ea =>
  subst e ea;cases (show u=Cg G from q)
  obtain⟨N,O,⟨o,_,Q,Y,_⟩,_⟩:=I.list sq;exact⟨_,Js,⟨o,Q,Y⟩,λz=>nomatch z⟩
 |of A =>
  cases A with
  |non=>cases (show u=Dk from q);exact⟨_,Zi,Hg,λz=>nomatch z⟩
  |bl y=>cases (show u=Ga y from q);exact⟨_,Zj,Hg,λz=>nomatch z⟩
  |int i=>obtain⟨t,q⟩:=(show ∃ t,u=Pk i t from q);cases q;exact⟨_,t0,Hg,λz=>nomatch z⟩
  |str y=>obtain⟨t,q⟩:=(show ∃ t,u=Vp y t from q);cases q;exact⟨_,u8,Hg,λz=>nomatch z⟩
  |flt y=>cases d <;> first|(exact nn C)|(simp only[Rep] at p;cases p;done)|(simp only[Rep] at p;obtain⟨_,p⟩:=p;cases p.1;done)|(simp only[Rep] at p;obtain⟨_,_,p⟩:=p;cases p.1;done)
  |@lst b U ea =>
   cases (show u=Cg b from q)
   obtain⟨_,_,n,_,Q⟩:=(show zC X.prog X.w H s.heap b (.lst U) from I.hok b _ ea)
   exact⟨_,Js,⟨_,Q,rfl⟩,λz=>nomatch z⟩
  |@frz b M U ea =>
   cases (show u=Cg b from q)
   obtain⟨_,_,_,n,_,Q⟩:=(show zC X.prog X.w H s.heap b (.frz M (.lst U)) from I.hok b _ ea)
   exact⟨_,Js,⟨_,Q,rfl⟩,λz=>nomatch z⟩
  |@tup b U ea =>
   cases (show u=Cg b from q)
   obtain⟨_,_,_,p⟩:=(show zC X.prog X.w H s.heap b (.tup U) from I.hok b _ ea)
   obtain⟨o,Q,Y,_⟩:=p;exact⟨_,Mv,⟨o,Q,Y⟩,λz=>nomatch z⟩
  |@dK b J ea =>
   cases (show u=Cg b from q)
   obtain⟨_,_,vs,_,p⟩:=(show zC X.prog X.w H s.heap b (.dK J) from I.hok b _ ea)
   obtain⟨o,B,T,Q,Y,_⟩:=p;exact⟨_,No,⟨o,Q,Y.1⟩,λz=>nomatch z⟩
  |@dT b J ea =>
   cases (show u=Cg b from q)
   obtain⟨_,_,U,_,o,B,T,Q,Y,_⟩:=(show zC X.prog X.w H s.heap b (.dT J) from I.hok b _ ea)
   exact⟨_,No,⟨o,Q,Y.1⟩,λz=>nomatch z⟩
set_option tactic.hygienic true in
theorem VQ {Q:Aa D}{Ok:D->Sto->Prop}(h:qI X P α (kS Q S) Ok):∃ d b c a,Q=[d,.tup [.ty b,.ty c]]/\uV b=true/\uV c=true/\tyD d S=Ab a/\Ok (.bl (w8 a b||w8 a c)) S:=by
 unfold kS at h
 split at h
 .rename_i d b c
  obtain⟨⟨U,Y⟩,h⟩:=x9 h
  split at h
  .rename_i a J
   exact⟨d,b,c,a,rfl,U,Y,J,h⟩
  .exact An h
 .exact An h
theorem GF:xQ X (.builtin "isinstance") kS:=by
 intro pins σ H s P α S vs us ds Q I r rv rp af;obtain⟨d,b,c,a,rfl,T,hc,U,ok⟩:=VQ af;obtain⟨v,w,u,x,rfl,rfl,p,N,q,L⟩:=uD rp rv;simp only[Rep] at N;obtain⟨tp,ws,rfl,sq,t⟩:=N;obtain⟨w1,m,rfl,O,t⟩:=t.cons_inv;obtain⟨w2,A,rfl,C,t⟩:=t.cons_inv;cases t.nil_inv;simp only[Rep] at O C;subst O C;cases (show x=Cg tp from L)
 obtain⟨its,G,⟨o,h1,f,n,g⟩,_⟩:=I.tuple (xH r.sub sq);obtain⟨i1,i2,rfl,y1,i⟩:=sL G;cases (show i1=Hc b from y1)
 cases (show i2=Hc c from i)
 obtain⟨Hh,Z,y,M⟩:=LV I r q p U;obtain⟨oc,od,h,za⟩:=o;cases f;cases g;have Y:=nG (K:=X.K) (cA U) T;have J:=nG (K:=X.K) (cA U) hc;refine PySem.W.kia_tup (its:=[.type b,.type c]) (b:=w8 a b||w8 a c) Z I.kIn y h1 ?_ M λe=>⟨.bl _,H,I.tok e,rfl,xr ok r (by simp only[Rep])⟩
 cases z:w8 a b with
 |true=>rw[z] at Y;simp only[Wt,Y];rfl
 |false =>
  rw[z] at Y;cases B:w8 a c with
  |true=>rw[B] at J;simp only[Wt,Y,J];rfl
  |false=>rw[B] at J;simp only[Wt,Y,J];rfl
noncomputable def b7:DF:=λQ S=>match Q with
 |[.int a,.int b]=>if 0<b/\b<1073741824/\0<=a/\a<2 ^ 62 then .ok (.tup [.int (a/b),.int (a % b)]) S else .bad
 |_=>.bad
theorem ZH:xQ X (.builtin "divmod") b7:=by
 intro pins σ H s P α S vs us Y Q I r A y J;cases EC Y with
 |no h=>exact(mC (X:=X) (r:=b7 Y S) (h λa b=>if 0<b/\b<1073741824/\0<=a/\a<2 ^ 62 then .ok (.tup [.int (a/b),.int (a % b)]) S else .bad) J).elim
 |of a b C =>
  subst C;obtain⟨g,ok⟩:=x9 (show qI X P α (if 0<b/\b<1073741824/\0<=a/\a<2 ^ 62 then .ok (.tup [.int (a/b),.int (a % b)]) S else .bad) (OkV X P α Q) from J)
  obtain⟨v,w,u,x,rfl,rfl,p,G,q,U⟩:=uD y A;cases zR p;cases zR G;obtain⟨t,rfl⟩:=q;obtain⟨t',rfl⟩:=U;have B:H s.heap.objs.size=none:=I.hok.fresh (Av _);refine divmod_int om ?_ (.inl (Uv om));have O:a.fdiv b=a/b:=Rl _ om;have L:a.fmod b=a % b:=Rm _ om;rw[O,L];have M:=I.laid (a:=s.heap.objs.size) (o:=.tup [.int (a/b),.int (a % b)]) (t':=s.toks+1+1) (λb u e=>Ah _ e) (Av _) (show zC X.prog X.w _ (s.heap.push { cls:=.type "tuple",data:=.seq #[.int (a/b) s.toks,.int (a % b) (s.toks+1)] }) _ (.tup [.int (a/b),.int (a % b)]) from
   ⟨by show 2<=sizeLine;decide,[.int (a/b) s.toks,.int (a % b) (s.toks+1)],.cons ⟨_,rfl⟩ (.cons ⟨_,rfl⟩ .nil),⟨_,Bc _ rfl,rfl,_,rfl⟩⟩)
  obtain⟨N,T⟩:=r.pure (o:=.tup [.int (a/b),.int (a % b)]) B;exact⟨.ref _,_,M,rfl,ok _ _ _ _ N T (Bh _) (by simp only[Rep];exact⟨_,_,rfl,.inl (.inl qQ),.cons (by simp only[Rep]) (.cons (by simp only[Rep]) .nil)⟩)⟩
end
noncomputable def okV (X:Cx)(i:Ai)(x:Ar):As:=decide (X.N[i]? = Ab x)&&(isV (X.env.scope.names.lookup x)&&okN x)
noncomputable def vI (Q:DE):Aa D->DF:=λcaps Y S=>Q ((Y++caps).map Ab) S
noncomputable def oY (sc:El)(ps:Aa Ar):As:=decide (sc.kind=.function)&&(decide (sc.isCoroutine=false)&&(decide (sc.isGenerator=false)&&(decide (∀ y∈sc.names,y.2≠.cell)&&(decide (∀ x∈ps,sc.names.lookup x=Ab .local)&&decide (∀ x∈xN sc,sc.names.lookup x=Ab .free)))))
structure LmX (G:Aa D->DF)(P:Bf)(w:Bx)(K:Aj)(mg:Ar->Am Ac)(base:Bo)(cm:As)(k:Ai)(L:LamT)(n:Ai):Prop where
 get:f9 P w K mg base cm k L n G
structure DfL (g:(Aa D->DF)->Af->Aa V->DS)(P:Bf)(w:Bx)(K:Aj)(mg:Ar->Am Ac)(base:Bo)(cm:As)(k kl m:Ai)(x:Ar)(n N:Ai):Prop where
 get:MV P w K mg base cm k kl m x n N g
structure ClA (X:Cx)(L:LamT)(a:Af)(cv:Aa V):Prop where
 get:CloAt X.s₀.heap X.H₀ X.fs L a cv
structure LmK (X:Cx)(y:Ar):Prop where
 get:y∈w9/\kJ X.K y X.env.code/\X.env.qual=y ++ ".<locals>." /\ ∃ c T,Dt X.K y=Ab (c,T)
section
variable {X:Cx}{cm nx:As}{k kl m n N i:Ai}{x y:Ar}{p pos lpos:Ev}{e:Bt}{es:Aa Bt}{fA:DA}{fe:DE}{L:LamT}{G:Aa D->DF}{a:Af}{cv:Aa V}{g:(Aa D->DF)->Af->Aa V->DS}{Fs:FnL}{cap:Aa Ai}{params:Po}{body:Bt}{scope:El}
theorem W2 (h:Ck (okV X i x)):X.N[i]? = Ab x/\Vis X.env.scope x/\(x == ("__debug__" : Ar))=false/\(x == ("__classdict__" : Ar))=false:=by
 unfold Ck okV at h;simp only[Ax,Ch] at h;exact⟨h.1,aU h.2.1,(kE h.2.2).1,(kE h.2.2).2.1⟩
theorem aK (Y:LmX G X.prog X.w X.K X.mg X.base cm k L n)(C:ClA X L a cv)(J:RoomC cm k X.A)(F:Fn1 X)(h:Ck (okV X i x))(Q:QA X (e::es) fA)(s:St1 X e es pos):QE X (.Call (.Name x p) (e::es) [] pos) (yV i fA a cv n G):=
 have h:=W2 h
 ⟨TZ Y.1 J F C.1 h.1 h.2.1 h.2.2.1 h.2.2.2 Q.1 s.1 s.2⟩
theorem aK0 (Y:LmX G X.prog X.w X.K X.mg X.base cm k L n)(C:ClA X L a cv)(Q:RoomC cm k X.A)(F:Fn1 X)(h:Ck (okV X i x)):QE X (.Call (.Name x p) [] [] pos) (yV i qC a cv n G):=
 have h:=W2 h
 ⟨GU Y.1 Q F C.1 h.1 h.2.1 h.2.2.1 h.2.2.2⟩
theorem D1 {ps:Aa Ar}{q:Ar}(h:Ck (oY scope ps))(one:ps.length<=1):LamSc ⟨q,params,body,scope⟩ ps:=by
 unfold Ck at h;simp only[oY,Ax,Ch] at h;obtain⟨a,b,c,d,e,f⟩:=h;exact⟨a,b,c,d,e,one,f⟩
theorem IW (D:DfL g X.prog X.w X.K X.mg X.base cm k (kl+1) 0 x n N)(M:LmK X y)(d:RoomC cm (k+1) X.A)(hF:nx=false->Fn1 X)(h:Ck (okG X x&&gB X.env.scope X.N scope cap))(hs:Ck (oY scope []))(C:Xw params X.env=([],[]))
  (u:∀ (q:Ar) (b:Bt) (U:Aa (Ar × Af)) (I J O:Ac),Rx (Ws "<lambda>" q params b scope U I J O) ⟨[],[]⟩ = pure [])
  (Y:∀ (U:Aa (Ar × Af)) (f:Af) (cd:Ac) (A:Br) (Q:Aa Il) (s:Ag) (H:Hp) (E:XK),RoomC cm kl (A.deeper (Kn (y ++ ".<locals>." ++ "<lambda>") scope s.heap.objs.size f cd U)) ->
   QE (oX cm X.prog X.w X.K X.mg X.base ([] ++ xN scope) ⟨y ++ ".<locals>." ++ "<lambda>",params,body,scope⟩ U f cd A Q s H E) body fe)
  (o:QA X es fA) (s:St1 X (.Lambda params body scope lpos) es pos):QE X (.Call (.Name x p) (.Lambda params body scope lpos::es) [] pos) (yE nx cap n N fA (g (vI fe))):=by
 unfold Ck at h;rw[Ax] at h;obtain⟨m1,m2,v,c,T,w⟩:=M.1;have B:=w4 h.1;exact⟨rG D.1 (XF (ps:=[]) (D1 hs (by decide)) (λU I J O us r=>by cases us with|nil=>exact u _ _ _ _ _ _|cons _ _=>cases r) Y) d hF B.1 B.2.1 m1 w (m2 c T w) v C h.2 o.1 s.1 s.2⟩
theorem IX {z:Ar}(D:DfL g X.prog X.w X.K X.mg X.base cm k (kl+1) 1 x n N)(M:LmK X y)(hr:RoomC cm (k+1) X.A)(hF:nx=false->Fn1 X)(h:Ck (okG X x&&gB X.env.scope X.N scope cap))(hs:Ck (oY scope [z]))(J:Xw params X.env=([],[]))
  (d:∀ (q:Ar) (b:Bt) (O:Aa (Ar × Af)) (B U C u:Ac),Rx (Ws "<lambda>" q params b scope O B U C) ⟨[u],[]⟩=pure [(z,u)])
  (Q:∀ (O:Aa (Ar × Af)) (f:Af) (cd:Ac) (A:Br) (Y:Aa Il) (s:Ag) (H:Hp) (E:XK),RoomC cm kl (A.deeper (Kn (y ++ ".<locals>." ++ "<lambda>") scope s.heap.objs.size f cd O)) ->
   QE (oX cm X.prog X.w X.K X.mg X.base ([z]++xN scope) ⟨y ++ ".<locals>." ++ "<lambda>",params,body,scope⟩ O f cd A Y s H E) body fe)
  (v:QA X es fA) (s:St1 X (.Lambda params body scope lpos) es pos):QE X (.Call (.Name x p) (.Lambda params body scope lpos::es) [] pos) (yE nx cap n N fA (g (vI fe))):=by
 unfold Ck at h;rw[Ax] at h;obtain⟨m1,m2,m3,c,T,w⟩:=M.1;have o:=w4 h.1;exact⟨rG D.1 (XF (ps:=[z]) (D1 hs (by simp)) (λO B U C us I=>by cases us with|nil=>cases I|cons u r=>cases r with|nil=>exact d _ _ _ _ _ _ u|cons _ _=>cases I) Q) hr hF o.1 o.2.1 m1 w (m2 c T w) m3 J h.2 v.1 s.1 s.2⟩
theorem ClA.tr {Q:Aa (Af × Cq)}(h:ClA X L a cv):ClA (Cx.tryIn X E Q) L a cv:=⟨h.1⟩
theorem lmK {Y:Aa Ar}(h:(Y.all λy=>(Dt X.K y).isSome)=true)(J:kJ X.K y X.env.code)(Q:Ck (Y.contains y&&w9.contains y))(U:X.env.qual=y ++ ".<locals>."):LmK X y:=by
 unfold Ck at Q;rw[Ax] at Q;obtain⟨⟨c,T⟩,e⟩:=Jz.mp (Cb.mp h y (by simpa using Q.1))
 exact⟨by simpa using Q.2,J,U,c,T,e⟩
theorem Y9:ZCall X (.builtin "isinstance") kS:=⟨GF⟩
theorem JO:ZCall X (.builtin "divmod") b7:=⟨ZH⟩
end
section
variable {P:Bf}{w:Bx}{K:Aj}{mg:Ar->Am Ac}{base:Bo}{cm:As}{tp:Ai->EQ}{tab:Aa (Ar × Ai × Aa Ar)}{bl:Aa Ar}{clt plt:Aa (Ar × Af)}{cs:Aa Ac}{exl:Aa Af}{cst:Aa (Ar × Ak)}{x:Ar}{i:Ai}{ps:Aa Ar}{N:Ai}
theorem dqL {g:(Aa D->DF)->Af->Aa V->DS}(P:Bf)(w:Bx)(base:Bo)(k O m j:Ai)(T:TxS K mg tp tab bl clt plt cs exl cst)(y:tab[j]? = Ab (x,i,ps))(h:Ck (fnB (jR (qH (tp i))) ps (qH (tp i))&&decide ((jR (qH (tp i))).length=N)))
  (B:∀ (L:LamT) (G:Aa D->DF) (a:Af) (J:Aa V),LmX G P w K mg base cm O L m->∀ (f:Af) (Y:Ac) (A:Br) (Q:Aa Il) (s:Ag) (H:Hp) (E:XK),ClA (cxC cm P w K mg base (jR (qH (tp i))) x (qH (tp i)) f Y A Q s H E) L a J->RoomC cm k (A.deeper (Go x (qH (tp i)) s.heap.objs.size f Y)) ->
   QB (cxC cm P w K mg base (jR (qH (tp i))) x (qH (tp i)) f Y A Q s H E) (zL (tp i)) (g G a J)):DfL g P w K mg base cm k O m x ps.length N:=by
 unfold Ck at h;simp only[Ax,Ch] at h;obtain⟨h,rfl⟩:=h;obtain⟨f,q,M,F,U⟩:=T.src j y;exact⟨f,q,tp i,_,ps,rfl,rfl,M,F,U,rS h,λL G a J I Y A Q s H E C u=>B L G a J ⟨I⟩ f Y A Q s H E ⟨C⟩ u⟩
end
section
variable {X:Cx}{pins:Aa (Af × Cq)}{σ : _L.St}{H P:Hp}{α : Aa Af}{s:Ag}{S:Sto}
noncomputable def qAU:D->Aa D->Sto->Res D:=λa J S=>match a,J with
 |.loc i,[.lst Y]=>bJ S i λQ=>if Q.length+Y.length<=lim then .ok .non (S.set i (.lst (Q++Y))) else .bad
 |_,_=>.bad
noncomputable def pI:D->Aa D->Sto->Res D:=λa Y S=>match a,Y with
 |.loc i,[.int k]=>bJ S i λQ=>if 0<=k/\k<1000000 then (match Q[k.toNat]? with|some d=>.ok d (S.set i (.lst (Q.eraseIdx k.toNat)))|none=>.bad) else .bad
 |_,_=>.bad
theorem t9 {K:Aj}:∀ {Q:Aa D} {vs:Aa V} (k:Ai),qD K P α Q vs->qD K P α (Q.eraseIdx k) (vs.eraseIdx k)
 |[],vs,k,r=>by rw[r.nil_inv];exact .nil
 |d::Q,vs,0,r=>by
  obtain⟨w,J,rfl,_,Y⟩:=r.cons_inv;exact Y
 |d::Q,vs,k+1,r=>by
  obtain⟨w,J,rfl,U,Y⟩:=r.cons_inv;exact .cons U (t9 k Y)
set_option tactic.hygienic true in
theorem U6:MtD X "list.pop" pI:=by
 intro pins σ H s P α S v g vs us a n Q I r c p G O Y;unfold pI at Y
 split at Y
 .rename_i i k
  obtain⟨U,L,Y⟩:=uW Y;obtain⟨m,Y⟩:=x9 Y;have N:∃ d,U[k.toNat]? = Ab d/\OkV X P α Q d (S.set i (.lst (U.eraseIdx k.toNat))):=by
   cases C:U[k.toNat]? with
   |none=>rw[C] at Y;exact An Y
   |some d=>rw[C] at Y;exact⟨d,rfl,Y⟩
  obtain⟨d,A,ok⟩:=N;obtain⟨w,u,rfl,rfl,T,f⟩:=y8 O G;cases zR T;simp only[Rep] at p;obtain⟨l,rfl,q⟩:=p;obtain⟨J,z,t⟩:=r.at' i l _ q L;obtain⟨y,B,M⟩:=t.get A;have o:=(Aw.mp B).1;refine U9 pins s σ H (.ref l) [.int k] g [u] Q I c (.cons f .nil) ⟨l,J,k,k.toNat,y,rfl,rfl,z,by omega,by omega,?_,B,?_⟩
  .unfold Zk
   show (if (0<=(if k<0 then k+(J.length:Ak) else k)&&(if k<0 then k+(J.length:Ak) else k)<(J.length:Ak))=true then Ab (if k<0 then k+(J.length:Ak) else k).toNat else none)=_
   rw[Bg (show ¬ k<0 by omega),Be (by simp;omega)]
  .exact ok _ _ _ _ (r.put (m':=.lst (U.eraseIdx k.toNat)) q L (by intro z;cases z) ⟨J.eraseIdx k.toNat,qQ,t9 _ t⟩) (qE.refl _) (Bh _) M
 .exact An Y
theorem MQ:ZMt X "list.pop" pI:=⟨U6⟩
end
noncomputable def b9:G2:=λa b S=>match lstM a S,lstM b S with
 |some Q,Ab Y=>if Q.length+Y.length<=lim then .ok (.loc S.length) (S++[.lst (Q++Y)]) else .bad
 |_,_=>.bad
section
variable {X:Cx}
theorem VV {pins:Aa (Af × Cq)}{σ:_L.St}{H P:Hp}{α:Aa Af}{S:Sto}{s:Ag}{xs:Aa D}{vs:Aa V}{its:Aa Ac}{Q:VK}(I:Inv X pins σ H s)(r:Rel X.K H P α S)(t:qD X.K P α xs vs)(Y:qJ vs its)(hz:xs.length<=lim)
  (ok:OkV X P α Q (.loc S.length) (S++[.lst xs])):EP X pins σ Q (.ref s.heap.objs.size) { s with heap:=s.heap.push { cls:=.type "list",data:=.seq its.toArray } }:=by
 refine⟨.ref s.heap.objs.size,_,I.laid (t':=s.toks) (o:=.lst vs) (λb J q=>Ah _ q) (Av _) ⟨by rw[<- t.length,<- zH];exact hz,its,0,Y,Bc _ rfl⟩,rfl,bG r (I.hok.fresh (Av _)) t ok⟩
theorem BY:OpD X (Ei .Add) b9:=by
 intro B σ H s P α S v u f i a b Q I r y q pa pb Y;unfold b9 at Y;cases J:lstM a S with
 |none=>rw[J] at Y;exact An Y
 |some g =>
  cases U:lstM b S with
  |none=>rw[J,U] at Y;exact An Y
  |some c =>
   rw[J,U] at Y;obtain⟨O,Y⟩:=x9 (X:=X) Y;obtain⟨a,vs,o,n,rfl,M,N,L,p⟩:=bF I r J pa;obtain⟨b,d,C,m,rfl,w,G,A,T⟩:=bF I r U pb;cases y;cases q;refine Tv L A ?_ (by rw[AT,AT,<- p,<- T,<- zH];exact O)
   rw[Qi];exact VV I r (M.append w) (N.append G) (by rw[Cf];exact O) Y
theorem EK:ZOp X (Ei .Add) b9:=⟨BY⟩
end
noncomputable def Iti (a:Af)(o:Cq)(vs:Aa (Key × V)):It:=
 ⟨λi H=>(∃ u,H a=Ab (.frz o u))/\i<vs.length,λi H v H'=>∃ T q,v=.ref T/\H T=none/\H'=upd H T (.tup [kV q.1,q.2])/\vs[i]? = Ab q,λi H=>(∃ u,H a=Ab (.frz o u))/\vs.length<=i⟩
theorem QV {P:Bf}{w:Bx}{K:Aj}{J:Aa Bt}{x1:Ai}{G:Ev}{a it:Af}{o:Cq}{us:Aa (Key × Ac)}{ep:Ai}(f:KV vs us)(N:∀ h:Bo,h.get? a=Ab o->h.DictAt (zO P w) a us ep) :
  Turn P w K (.Tuple J x1 G) (Iti a o vs) [it] it (λi h=>∃ ok Y,IsItemIter h it a i us.length ep ok Y) where
 mem:=by simp
 obj:=λi h st b L=>by
  have e:b=it:=by simpa using L
  subst e;obtain⟨ok,Y,e⟩:=st;exact⟨_,e,λv z=>by cases z⟩
 keep:=λi h h' st k=>by
  obtain⟨ok,Y,e⟩:=st;exact⟨ok,Y,k it (by simp) _ e⟩
 item:=by
  intro X T M A Q i O s σ H E I C st p;subst T M A;obtain⟨⟨u0,B⟩,U⟩:=p;obtain⟨ok,Y,st⟩:=st;have y:s.heap.get? a=Ab o:=(I.hok a _ B).1;obtain⟨u,e1,e2⟩:=XD f (Ap U);refine wpAny_pyNext_items_item st (N _ y) e1 λg h' hk a1 a2 a3 a4=>?_;refine⟨_,rfl,wpAny_letOwnedTupleGo_items (s:={ s with heap:=h' }) a1 λr m b2=>?_⟩
  have up:∀ c o,c≠it->h'.get? c=Ab o->r.get? c=Ab o:=λc o n q=>(b2.2 c n).trans q;have d:it<s.heap.objs.size:=Ba st;have T2:=up _ _ (Gj d) a2;refine⟨.ref s.heap.objs.size,upd H s.heap.objs.size (.tup [kV (vs[i]).1,(vs[i]).2]),?_,rfl,⟨_,vs[i],rfl,I.hok.fresh (Av _),rfl,Ap U⟩,⟨_,_,m⟩,λc Q=>?_⟩
  .have:=Inv.turnLay (s:=s) (fp:=[it]) (its:=[g,u]) (h':=r) (xs:=[kV (vs[i]).1,(vs[i]).2]) I C (λc o Q q=>by
    have Q:c≠it:=by simpa using Q
    exact up c o Q (a4 c o Q q)) (λc Q=>by
    have:c=it:=by simpa using Q
    subst this;exact⟨_,m⟩) (Av _) (.cons (CA hk) (.cons e2 .nil)) ⟨_,T2,rfl,_,rfl⟩ (by show 2<=sizeLine;decide)
   exact this
  .have hn:=(C c Q).1
   rw[qG ?_]
   .exact hn
   .rintro rfl
    have:s.heap.objs.size=it:=by simpa using Q
    rw[this] at d;exact absurd d (Ej _)
 done:=by
  intro X T M A Q i O s σ H E I C st p;subst T M A;obtain⟨⟨u0,B⟩,za⟩:=p;obtain⟨ok,Y,st⟩:=st;have y:s.heap.get? a=Ab o:=(I.hok a _ B).1;obtain⟨x,f1,f2,f3,f4,f5⟩:=C it (by simp)
  have hl:=f.length;exact wpAny_pyNext_items_end (I.ok.hd Q) st (N _ y) (by simp;lia) λh' eb=>⟨rfl,I.turned (t':=s.toks) (λb o L e=>eb b o L e) x f1 f3 f4 f5⟩
 self:=λ_ _ _ _ _ st h=>by
  obtain⟨ok,Y,st⟩:=st;exact PySem.W.kcp_self st h
noncomputable def nF (kvs:Aa (Key × D)):Aa D:=kvs.map λp=>D.tup [kD p.1,p.2]
noncomputable def mF (f:DE):DI:=λenv S=>(f env S).bind λd Y=>match d with
 |.loc n=>match Y[n]? with
  |some (.dct Q)=>.ok (nF Q) (Y.set n .dead)
  |_=>.bad
 |_=>.bad
theorem aZ {K:Aj}{P:Hp}{α:Aa Af}:∀ {kvs:Aa (Key × D)} {vs:Aa (Key × V)},KVs K P α kvs vs->∀ {i:Ai} {q:Key × D},kvs[i]? = Ab q->∃ v,vs[i]? = Ab (q.1,v)/\Rep K P α q.2 v
 |_,_,.nil,i,q,h=>by simp at h
 |_,_,.cons (a:=x) (b:=y) z t,i,q,h=>by
  cases i with
  |zero =>
   simp at h;subst h;exact⟨y.2,by simp;exact Lq z.1.symm rfl,z.2⟩
  |succ i =>
   obtain⟨v,Q,Y⟩:=aZ t (i:=i) (q:=q) (by simpa using h)
   exact⟨v,by simpa using Q,Y⟩
theorem X9 {K:Aj}{P:Hp}{α:Aa Af}{a:Af}{o:Cq}{u:HO}{kvs:Aa (Key × D)}(q:P a=Ab (.frz o u))(t:KVs K P α kvs vs)(I:kvs.length=vs.length):ItD K (Iti a o vs) P α (nF kvs) where
 go:=λi H J Y S Q r e _=>⟨⟨u,r.sub _ _ (e _ _ q)⟩,by unfold nF at Q;rw[Aq] at Q;lia⟩
 yld:=λi H x H' J Y S Q r e C y=>by
  obtain⟨T,p,rfl,B,rfl,N⟩:=y;unfold nF at Q;rw[Aq] at Q;obtain⟨v,U,O⟩:=aZ t (Ap Q);rw[N] at U;cases U;obtain⟨L,G⟩:=r.pure (o:=.tup [kV (kvs[i]).1,v]) B;refine⟨_,.tup [kD (kvs[i]).1,(kvs[i]).2],?_,L,G,?_⟩
  .unfold nF;rw[Dn,Ap Q];rfl
  .exact bO (.of qQ) (.cons (LJ _) (.cons (Rep.mono (e.trans G) C _ _ O) .nil))
 stop:=λi H J Y S Q r e _=>⟨⟨u,r.sub _ _ (e _ _ q)⟩,by unfold nF at Q;rw[Aq] at Q;lia⟩
section
variable {X:Cx}{o:Bt}{fo:DE}{apos cpos:Ev}{elts:Aa Bt}{x1:Ai}{tpos:Ev}
set_option tactic.hygienic true in
theorem YY (ho:PE X o (tD X fo))(G:Sl o "items" X.env (eval o X.env)=eval o X.env:=by rfl)(U:(apos.endLine == cpos.line)=true:=by rfl):PI X (.Tuple elts x1 tpos) (.Call (.Attribute o "items" apos) [] [] cpos) (tDI X (mF fo)):=by
 intro T s σ H R I h;obtain⟨P,α,env,S,r,re,af⟩:=h;refine wpAny_Call_method0_late G U (thn (zM ho I r re af) λvv Y ⟨v,H1,P1,y,d,S1,N,Q⟩=>?_);cases d with
 |loc n =>
  simp only at Q
  split at Q
  .rename_i kvs p
   have g:=N.rep;have M:=N.inv;have c:=N.rel;have ht:tyD (.loc n) S1=Ab "dict":=Y3 p;obtain⟨h1,h2⟩:=Y1 M N.val (Y2 c g ht (by simp))
   simp only[Rep] at g;obtain⟨a,rfl,f⟩:=g;cases (show vv=Cg a from N.val)
   obtain⟨vs,z,t⟩:=c.at' n a _ f p;obtain⟨hz,i,us,C,A⟩:=oP M.hok z;refine⟨"dict","dict.items",Nh,Ul,PySem.F.type_dict_items,h1,h2,Vc rfl (PySem.evalArgs_none ?_)⟩;refine call_meetsIn Ul A.typeIs PySem.F.entry_dict_items (PySem.F.args_dict_items_1 _) (meets_dict_items (zO X.prog X.w) a i) ⟨⟨us,A⟩,?_⟩;obtain⟨ep,O,es,J,B⟩:=A.dictAt;have L:∀ h:Bo,h.get? a=Ab O->h.DictAt (zO X.prog X.w) a us ep:=λh e=>⟨O,es,e,B⟩;obtain⟨r2,e2⟩:=c.still (o:=.frz O (.dK vs)) f p (by intro q;cases q)
   have I2:Inv X T σ (upd H1 a (.frz O (.dK vs))) { Y with heap:=Y.heap,toks:=Y.toks }:=M.write (x:=a) (e:=a) (by rw[z];exact Hg) (.inl rfl) (λb q m e=>e) ⟨O,J⟩ ⟨J,hz,i,us,C,A⟩
   have w:=I2.kept (t':=Y.toks) (h':=Y.heap.push { cls:=.type "dict_items",data:=.fields #[.ref a] }) λb u e=>Ah _ e;refine wpAny_pyIter_items (s:={ Y with heap:=Y.heap.push { cls:=.type "dict_items",data:=.fields #[.ref a] } }) (knd:=zO X.prog X.w) (d:=a) (kvs:=us) (ep:=ep) ⟨_,Bc _ rfl,rfl,rfl⟩ (L _ (Ah _ J)) ?_
   have I4:=w.kept (t':=Y.toks) (h':=(Y.heap.push { cls:=.type "dict_items",data:=.fields #[.ref a] }).push { cls:=.type "dict_itemiterator",data:=.fields #[.none,.bool false,.ref a,.int 0 0,.int us.length 0,.int ep 0,.none,.none] }) λb u e=>Ah _ e;refine⟨_,[_],_,_,_,rfl,I4,QV C L,⟨_,_,Bc _ rfl⟩,λb m=>?_,Q _ _ _ y r2 (N.same.trans e2) N.pre (X9 (u:=.dK vs) qQ (KVs.mono e2 (Bh _) t) (by have:=i6 t;have:=this.length;simpa using this))⟩
   have e:b=(Y.heap.push { cls:=.type "dict_items",data:=.fields #[.ref a] }).objs.size:=by simpa using m
   subst e;exact w.fpOk (Av _) (w.hok.fresh (Av _))
  .exact An Q
 |_=>exact An Q
theorem US (J:QE X o fo)(Y:Sl o "items" X.env (eval o X.env)=eval o X.env:=by rfl)(Q:(apos.endLine == cpos.line)=true:=by rfl):QI X (.Tuple elts x1 tpos) (.Call (.Attribute o "items" apos) [] [] cpos) (mF fo):=⟨YY J.1 Y Q⟩
end
noncomputable def jF (d:D)(S:Sto):Am (Aa (Key × D)):=match d with
 |.loc n=>match S[n]? with
  |some (.dct Q)=>Ab Q
  |_=>none
 |_=>none
noncomputable def mJ:DF:=λY S=>match Y with
 |[d]=>match jF d S with
  |some Q=>.ok (.int Q.length) S
  |none=>.bad
 |_=>.bad
noncomputable def fN:G2:=λa b S=>match jF a S,wO b with
 |some Q,Ab k=>match zT Q k with
  |some d=>.ok d S
  |none=>.bad
 |_,_=>.bad
section
variable {X:Cx}{pins:Aa (Af × Cq)}{σ : _L.St}{H P:Hp}{α : Aa Af}{S:Sto}{s:Ag}
set_option tactic.hygienic true in
theorem rE (r:Rel X.K H P α S){d:D}{kvs:Aa (Key × D)}{v:V}(h:jF d S=Ab kvs)(p:Rep X.K P α d v):∃ a Q,v=.ref a/\H a=Ab (.dK Q)/\KVs X.K P α kvs Q:=by
 unfold jF at h
 split at h
 .split at h
  .rename_i Y
   cases h;simp only[Rep] at p;obtain⟨b,rfl,q⟩:=p;obtain⟨Q,z,t⟩:=r.at' _ b _ q Y;exact⟨b,Q,rfl,z,t⟩
  .cases h
 .cases h
theorem GJ:xQ X (.builtin "len") mJ:=by
 intro pins σ H s P α S vs us O Q I r B U Y
 match O,Y,U with
 |[],Y,_=>exact An Y
 |_::_::_,Y,_=>exact An Y
 |[d],Y,U =>
  simp only[mJ] at Y;cases J:jF d S with
  |none=>rw[J] at Y;exact An Y
  |some C =>
   rw[J] at Y;obtain⟨v,u,rfl,rfl,p,q⟩:=y8 U B;obtain⟨a,G,rfl,z,t⟩:=rE r J p;cases (show u=Cg a from q)
   refine HC I (.inl z) λN T L=>⟨.int G.length,H,L,⟨N,rfl⟩,xr Y r ?_⟩;simp only[Rep];rw[nH t]
set_option tactic.hygienic true in
theorem N5 {o i:Bt}{M T:DE}{N:Ev}(f:X.A.units+1<Fk)(ho:PE X o (tD X M))(hi:PE X i (tD X T))(hs:YF i:=by intro _ _;rfl):PE X (.Subscript o i N) (tD X (d2 fN M T)):=by
 intro pins s σ H Q I h;obtain⟨P,α,env,S,r,re,af⟩:=h;refine MB PySem.F.slot_dict_getitem.lookup hs (thn (zM ho I r re af) λvv s1 ⟨v,H1,B,U,a,S1,J,G⟩=>?_);refine thn (zM hi J.inv J.rel J.env (P:=B) (α:=U) (Ok:=OkV X B U Q) (g:=λy A=>fN a y A) (qS.base J.same J.pre G)) λuu s2 ⟨u,q,P2,zb,b,A,G2,O⟩=>?_;have pa:=Rep.mono G2.same G2.pre _ _ J.rep;have pb:=G2.rep;have c:=G2.inv;have L:=G2.rel;have Y:=qS.base G2.same G2.pre O;unfold fN at Y
 split at Y
 .rename_i za k n e
  split at Y
  .rename_i d hv
   obtain⟨p,ws,rfl,z,t⟩:=rE L n pa;have m:=mS e pb;subst m;cases (show vv=Cg p from J.val)
   obtain⟨w,h1,x⟩:=(bC t).1 d hv;have g:kK q p (kV k) (Ab w):=.inl ⟨_,k,.inl z,rfl,h1.symm⟩;exact⟨cK c g,ZR f c g G2.val λw' s3 I3 C=>⟨w,q,I3,C,xr Y L x⟩⟩
  .exact An Y
 .exact An Y
end
noncomputable def n6:G2:=λa b S=>match jF b S,wO a with
 |some Q,Ab k=>.ok (.bl (zT Q k).isSome) S
 |_,_=>.bad
section
variable {X:Cx}
set_option tactic.hygienic true in
theorem S8 (G:X.A.units+1<Fk):OpD X (Df .In) n6:=by
 intro U σ H s P α S v u f y a b Q I r M w pa pb Y;unfold n6 at Y
 split at Y
 .rename_i J k O C
  obtain⟨p,L,rfl,z,t⟩:=rE r O pb;have N:=mS C pa;subst N;cases (show y=Cg p from w)
  obtain⟨A,T⟩:=bC (k:=k) t;have g:kK H p (kV k) (yC L k):=.inl ⟨_,k,.inl z,rfl,rfl⟩;refine OF G I g M λo q=>⟨.bl _,H,q,rfl,?_⟩;cases hv:zT J k with
  |none=>rw[hv] at Y;rw[T hv];exact xr Y r (by simp only[Rep];rfl)
  |some d =>
   obtain⟨m,B,c⟩:=A d hv;rw[hv] at Y;rw[B];exact xr Y r (by simp only[Rep];rfl)
 .exact An Y
end
section
variable {X:Cx}{cm:As}{k:Ai}{o i:Bt}{fo fi:DE}{pos:Ev}
theorem EO:ZCall X (.builtin "len") mJ:=⟨GJ⟩
theorem RH (Q:RoomC cm k X.A)(Y:QE X o fo)(hi:QE X i fi)(hs:YF i:=by intro _ _;rfl):QE X (.Subscript o i pos) (d2 fN fo fi):=⟨N5 (hu1 Q) Y.1 hi.1 hs⟩
end
section
variable {X:Cx}{cm:As}{k:Ai}{e ei ek:Bt}{fe fi fk:DE}{p2 pos:Ev}
theorem IG (Q:RoomC cm k X.A):ZOp X (Df .In) n6:=⟨S8 (hu1 Q)⟩
end
noncomputable def fX:D->Sto->Am (Aa D)
 |.lst Q,_=>Ab Q
 |.tup Q,_=>Ab Q
 |.loc n,S=>match S[n]? with
  |some (.lst Q)=>Ab Q
  |_=>none
 |_,_=>none
noncomputable def yP (J:As)(f:DE):DE:=λenv S=>(f env S).bind λd Q=>match (fX d Q).bind j3 with
 |some Y=>if J then .ok (.loc Q.length) (Q++[.lst Y]) else .ok (.lst Y) Q
 |none=>.bad
section
variable {X:Cx}{pins:Aa (Af × Cq)}{σ : _L.St}{H P:Hp}{α : Aa Af}{S:Sto}{s:Ag}
theorem bZ {K:Type}{is:K->Ac->Prop}{G:K->Ak}{lt':K->K->As}{d:K}{A:K->Prop}(kd:_S.Kind X.prog X.w is G lt' d A s.heap)(ad:_S.AddS X.prog X.w is G s.heap)(x:X.calm=true)(hu:X.A.units+64<Fk)(I:Inv X pins σ H s)(r:Rel X.K H P α S){a:Af}{its:Aa Ac}
  (ha:s.heap.IsList a its.toArray\/s.heap.IsTuple a its.toArray) (ks:Aa K) (hl:ks.length=its.length) (hk:∀ i v,its[i]? = Ab v->is (ks.getD i d) v) (hn:(_S.srt lt' ks).length<=1000) (hf:∀ k∈ks,A k) (enc:K->D)
  (M:∀ k v,is k v->v∈its->∃ y,qK y v/\Rep X.K P α (enc k) y) {E:Ac->Ag->Prop} :
  Ao (Au X.prog X.w) X.A (call (.type "set") [.ref a]) (λu s1=>Ao (Au X.prog X.w) X.A (call (.builtin "sorted") [u]) (NewR X pins σ H P α ((_S.srt lt' ks).map enc)) E s1) E s:=by
 have O:its.toArray.size=ks.length:=by rw[AT,hl]
 have mem:∀ k,k∈_S.srt lt' ks↔k∈ks:=λk=>_S.vM kd.ord k ks;have C:∀ i,i<ks.length->ks.getD i d∈ks:=λi B=>by simp[Lb,B]
 refine _S.oI (U:=_S.srt lt' ks) ad (I.ok.hd x) li ha (λi=>ks.getD i d) (λi v hv=>hk i v (by simpa using hv)) li (λi B=>(mem _).mpr (C i (by rw[<- O];exact B))) λm N Z kp=>?_
 have seen:∀ k∈_S.wY (λi=>ks.getD i d) its.toArray.size,k∈ks:=λk Q=>by
  obtain⟨i,B,rfl⟩:=_S.jH.mp Q;exact C i (by rw[<- O];exact B)
 have e:Inv X pins σ H { s with heap:=m,toks:=N }:=I.kept kp
 refine _S.QR (s:={ s with heap:=m,toks:=N }) kd (I.ok.hd x) li kp Z (λk Q=>hf k (seen k Q)) (U:=_S.srt lt' ks) li (λk Q=>(mem k).mpr (seen k Q)) λh2 w D c J f hD n T hp za=>?_
 rw[O,JF kd.ord] at T;have y:∀ (J:Aa (K × Ac)),(∀ p∈J,is p.1 p.2/\p.2∈its)->∃ vs,qJ vs (J.map (·.2))/\qD X.K P α ((J.map (·.1)).map enc) vs:=by
  intro J
  induction J with
  |nil=>exact λ_=>⟨[],.nil,.nil⟩
  |cons p J ih =>
   intro h;obtain⟨vs,g,o⟩:=ih λq hq=>h q (by simp[hq])
   obtain⟨v,b1,b2⟩:=M p.1 p.2 (h p (by simp)).1 (h p (by simp)).2
   exact⟨v::vs,.cons b1 g,.cons b2 o⟩
 obtain⟨vs,g,o⟩:=y J λp Y=>by simpa using hp p Y
 rw[T] at o;have nd:([(D,HO.lst vs)].map (·.1)).Nodup:=by simp
 have I2:Inv X pins σ (jT H [(D,HO.lst vs)]) { s with heap:=h2,toks:=w }:=Inv.laidL (s:={ s with heap:=m,toks:=N }) (L:=[(D,HO.lst vs)]) (t':=w) e f (λp Y=>by
  have:p=(D,HO.lst vs):=by simpa using Y
  subst this;exact hD) λp Y=>by
  have:p=(D,HO.lst vs):=by simpa using Y
  subst this;refine⟨?_,J.map (·.2),c,g,n⟩
  have:=g.length;rw[Aq] at this;rw[this,Fb]
  lia
 exact⟨D,vs,rfl,e.hok.fresh hD,I2,o⟩
set_option tactic.hygienic true in
theorem M2 {d:D}{xs:Aa D}{v:V}{Q:Ac}(I:Inv X pins σ H s)(r:Rel X.K H P α S)(p:Rep X.K P α d v)(q:qK v Q)(h:fX d S=Ab xs) :
  ∃ a vs its,Q=.ref a/\qD X.K P α xs vs/\qJ vs its/\(s.heap.IsList a its.toArray\/s.heap.IsTuple a its.toArray)/\xs.length=its.length:=by
 cases d with
 |lst U=>exact hJ I r p q h
 |tup U=>exact hJ I r p q h
 |loc n =>
  have G:S[n]? = Ab (.lst xs):=by
   have h:(match S[n]? with|some (.lst xs)=>Ab xs|_=>none)=Ab xs:=h
   split at h
   .rename_i e;cases h;exact e
   .cases h
  simp only[Rep] at p;obtain⟨a,rfl,J⟩:=p;cases (show Q=Cg a from q)
  obtain⟨vs,z,t⟩:=r.at' n a _ J G;obtain⟨its,Y,p,N⟩:=I.list (SqL.of z);exact⟨a,vs,its,rfl,t,Y,.inl p.isList,by rw[t.length,Y.length]⟩
 |_=>cases h
end
section
variable {X:Cx}{e:Bt}{fa:DE}{p1 p2 pos1 pos2:Ev}{mu:As}
set_option tactic.hygienic true in
theorem cJ (hc:X.calm=true)(hu:X.A.units+64<Fk)(hg:Gl X "sorted")(hm:X.mg "sorted" = none)(zg:Gl X "set")(zh:X.mg "set" = none)(ha:PE X e (tD X fa))(he:Bm [e] X.env=(false,eval e X.env)::Bm [] X.env:=by rfl) :
  PE X (.Call (.Name "sorted" p1) [.Call (.Name "set" p2) [e] [] pos2] [] pos1) (tD X (yP mu fa)):=by
 intro zb s σ H Q I h;obtain⟨P,α,env,S,r,re,af⟩:=h;refine Hb (vT I hg hm ZD ?_);refine Pd ?_ rfl rfl;refine Mw ?_;refine Call_ (vT I zg zh YH (Hl ?_ he rfl));rw[he];refine Mw (thn (zM ha I r re af) λvv C ⟨v,H1,P1,L,d,S1,Y,U⟩=>Sa ?_);cases hq:(fX d S1).bind j3 with
 |none=>simp only[hq] at U;exact An U
 |some ys =>
   simp only[hq] at U;obtain⟨xs,x,hs⟩:=Ex.mp hq;obtain⟨a,vs,G,rfl,t1,za,M,l1⟩:=M2 Y.inv Y.rel Y.rep Y.val x;have y:Ao (Au X.prog X.w) X.A (call (.type "set") [.ref a]) (λu C=>Ao (Au X.prog X.w) X.A (call (.builtin "sorted") [u]) (NewR X zb σ H1 P1 L ys) X.xe C) X.xe C:=by
    unfold j3 at hs;cases c:xS xs with
    |some ns =>
     rw[c] at hs;dsimp only at hs
     split at hs
     .rename_i A
      cases hs;have:=uR c;subst this;have:=yQ t1;subst this;refine bZ (d:=0) (_S.KB X.prog X.w C.heap) (_S.MZ C.heap) hc hu Y.inv Y.rel M ns (by simpa using l1) (λi u J=>?_) A (λ_ _=>trivial) D.int λk u g _=>?_
      .have c:Ke G ns:=by simpa using kX za
       obtain⟨t,rfl⟩:=Rb c i u J;exact Xq _ _ _ _
      .obtain⟨t,rfl⟩:=_S.wH g
       exact⟨.int k,⟨t,rfl⟩,by simp only[Rep]⟩
     .cases hs
    |none =>
     rw[c] at hs;dsimp only at hs;cases ht:xV xs with
     |none=>rw[ht] at hs;cases hs
     |some N =>
      rw[ht] at hs;dsimp only at hs
      split at hs
      .rename_i A
       cases hs;have O:=Fo.mp A;have:=fZ ht;subst this;have n:∀ (i:Ai) (u:Ac),G[i]? = Ab u->∃ b,u=.ref b/\Qn (Bj X.prog X.w) C.heap (N.getD i []) b/\∃ vv,qK vv u/\Rep X.K P1 L (tpD (N.getD i [])) vv:=λi u J=>by
        have T:i<G.length:=(Aw.mp J).1;have zi:i<N.length:=by rw[Aq] at l1;lia
        obtain⟨v,p,q,_⟩:=vH t1 za (j:=i) (by rw[AT];exact T)
        have x:(N.map tpD).getD i D.non=tpD (N.getD i []):=by simp[Lb,zi]
        rw[x] at p;have zf:G.toArray[i]'(by rw[AT];exact T)=u:=by
         rw[Ap T] at J;simpa using J
        rw[zf] at q;obtain⟨b,ws,us,rfl,sq,t,rv,⟨o,ho,ze,m,x⟩,_,_⟩:=vY Y.inv Y.rel (show Rep X.K P1 L (.tup ((N.getD i []).map D.int)) v from p)
        cases (show u=Cg b from q)
        have:=yQ t;subst this;exact⟨b,rfl,⟨o,us.toArray,m,ho,ze,x,by simpa using nE rv⟩,.ref b,rfl,p⟩
       refine bZ (d:=[]) (_S.KC X.prog X.w C.heap) (_S.T1 C.heap) hc hu Y.inv Y.rel M N (by simpa using l1) (λi u J=>?_) (Bv O.1) (λk g=>?_) tpD λk u g zc=>?_
       .obtain⟨b,rfl,q,_⟩:=n i u J
        exact⟨b,rfl,q⟩
       .have:=Cb.mp O.2 k g
        intro z;subst z;cases this
       .obtain⟨i,zd,rfl⟩:=Cz.mp zc
        obtain⟨b,eb,q,w,zj,pw⟩:=n i _ (Ap zd);have:k=N.getD i []:=_S.isT.inj g ⟨b,eb,q⟩;rw[this];exact⟨w,zj,pw⟩
      .cases hs
   refine thn y λu s2 h2=>Sa (thn h2 λu' s3 ⟨D,zk,e,hn,I',f⟩=>?_);subst e;cases mu with
   |true=>exact⟨.ref D,_,I',rfl,bG Y.rel hn f λv' H' P' B r' M e2 rp=>U v' H' P' B r' (Y.same.trans M) (Y.pre.trans e2) rp⟩
   |false=>exact⟨.ref D,_,I',rfl,wA Y.rel hn f λv' H' P' B r' M e2 rp=>U v' H' P' B r' (Y.same.trans M) (Y.pre.trans e2) rp⟩
end
section
variable {X:Cx}{cm:As}{k:Ai}{e:Bt}{fa:DE}{p1 p2 pos1 pos2:Ev}{mu:As}
theorem cR (U:X.calm=true)(J:RoomC cm k X.A)(N:Gl X "sorted")(hm:X.mg "sorted" = none)(Y:Gl X "set")(Q:X.mg "set" = none)(G:QE X e fa)(O:Bm [e] X.env=(false,eval e X.env)::Bm [] X.env:=by rfl) :
  QE X (.Call (.Name "sorted" p1) [.Call (.Name "set" p2) [e] [] pos2] [] pos1) (yP mu fa):=⟨cJ U J.units N hm Y Q G.1 O⟩
end
end _D
namespace _D
open PySem
variable {cap:Aa (Am Ai)}{kvs:Aa (_L.Key × D)}{ds xs:Aa D}{v:Ac}{n p:Ai}{lo hi:Am Ak}{F:DF}{S1 S':Sto}{env':qF}
def Ok {β:Type}(r:Res β)(Q:β->Sto->Prop):Prop:=∃ d S,r=.ok d S/\Q d S
theorem qU {β:Type}{r:Res β}{Q:β->Sto->Prop}{d:β}{S:Sto}(h:r=.ok d S)(q:Q d S):Ok r Q:=⟨d,S,h,q⟩
theorem VU {Q:DE}{env:qF}{S:Sto}{acc:Aa D}{x:D}(h:Q env S=.ok x S1)(Y:acc.length<lim):zY Q env S acc=.ok (env,acc++[x]) S1:=by
 unfold zY;rw[h];simp[Res.bind,Y]
theorem ZQ {Q:DI2}{g:DG}{t:DT}{k:DK}{env:qF}{S:Sto}{o:Am (Ai × MO)}{items:Aa D}(h:Q env S=.ok (o,items) S1)(e:goL o g t k items (wD cap env) S1 [] = .ok (env',ds) S'):zI false cap Q g t k env S=.ok (.lst ds) S':=by
 unfold zI;rw[h];simp only[Res.bind,e,mkM];rfl
theorem nB {S:Sto}{i:Ai}{m:MO}(h:S[i]? = Ab m)(e:S<+:S'):S'[i]? = Ab m:=by
 obtain⟨r,rfl⟩:=e;rw[Bi (Aw.mp h).1];exact h
theorem goT {α:Type}{enc:α->D}{o:Am (Ai × MO)}{g:DG}{t:DT}{k:DK}(Y:α->Aa D)(C:qF->Sto->Prop)(O:∀ env S,C env S->stn o S) :
  ∀ (xs:Aa α) (env:qF) (S:Sto) (acc:Aa D),C env S->acc.length+(xs.flatMap Y).length<=lim ->
  (∀ x∈xs,∀ env S acc,C env S->acc.length+(Y x).length<=lim->∃ Q S1 b U,g (enc x) env S=.ok Q S1/\t Q S1=.ok b U/\((b=false/\Y x=[]/\C Q U)\/(b=true/\∃ J N,k Q U acc=.ok (J,acc++Y x) N/\C J N))) ->
  ∃ env' S',goL o g t k (xs.map enc) env S acc=.ok (env',acc++xs.flatMap Y) S'/\C env' S'
 |[],env,S,acc,h,E,_=>⟨env,S,by simp[goL,j6.mpr (O _ _ h)],h⟩
 |x::xs,env,S,acc,h,E,step=>by
  rw[Nw,Cf] at E;obtain⟨Q,S1,b,U,L,T,r⟩:=step x (Cn ..) env S acc h om;have G:=j6.mpr (O _ _ h);rcases r with⟨rfl,A,H⟩|⟨rfl,J,N,M,I⟩
  .obtain⟨env',S',e,q⟩:=goT Y C O xs Q U acc H om λd B=>step d (Bp _ B)
   refine⟨env',S',?_,q⟩;simp only[Ek,goL,G,Eh,L,T,Res.bind,Bw,Ec,Nw,A,Ip];exact e
  .obtain⟨env',S',e,q⟩:=goT Y C O xs J N (acc++Y x) I (by rw[Cf];omega) λd B=>step d (Bp _ B)
   refine⟨env',S',?_,q⟩;simp only[Ek,goL,G,Eh,L,T,Res.bind,M,Nw];rw[e,Cs]
theorem HB {o:G2}{f g:DE}{env:qF}{S Q:Sto}{a b:D}(h1:f env S=.ok a S1)(h2:g env S1=.ok b Q):d2 o f g env S=o a b Q:=by
 unfold d2;rw[h1];simp only[Res.bind];rw[h2]
theorem jC {f1:DE}{env:qF}{S:Sto}{a:D}(h1:f1 env S=.ok a S1):qM 1 F (qA f1 (qC)) env S=F [a] S1:=by
 simp only[qM,qA,qC,h1,Res.bind,Ca,Fh,Eh]
theorem rD {f1:DE}{env:qF}{S:Sto}{a:D}(h1:f1 env S=.ok a S1):qA f1 (qC) env S=.ok [a] S1:=by
 simp only[qA,qC,h1,Res.bind]
theorem cE {env:qF}{i:Ai}{d:D}{S:Sto}(h:env[i]? = Ab (Ab d)):qB i env S=.ok d S:=by simp only[qB,h]
theorem ZC {α:Type}(p:α->As)(l:Aa α) : zZ (l.map λx=>D.bl (p x))=Ab (l.map p):=by
 induction l with
 |nil=>rfl
 |cons x l Q =>
  show (zZ (l.map λx=>D.bl (p x))).map (p x::·)=_
  rw[Q];rfl
section
variable {β γ:Type}{env:qF}{S:Sto}
theorem qW {r:Res β}{k:β->Sto->Res γ}{Q:γ->Sto->Prop}(h:Ok r λd S1=>Ok (k d S1) Q):Ok (r.bind k) Q:=by
 obtain⟨d,S1,rfl,h⟩:=h;exact h
theorem xA {r:Res β}{d:β}(h:Ok r λd' S'=>d'=d/\S'=S):r=.ok d S:=by
 obtain⟨_,_,e,rfl,rfl⟩:=h;exact e
theorem zF {r:Res β}{Q Y:β->Sto->Prop}(h:Ok r Q)(k:∀ d S,Q d S->Y d S):Ok r Y:=by
 obtain⟨d,S,e,q⟩:=h;exact⟨d,S,e,k d S q⟩
variable {Q:D->Sto->Prop}{f g:DE}{fa:DA}{o:G2}{i j:Ai}
theorem o_c {d:D}(h:Q d S):Ok (dC d env S) Q:=⟨_,_,rfl,h⟩
theorem o_v {d:D}(e:env[i]? = Ab (Ab d))(h:Q d S):Ok (qB i env S) Q:=⟨_,_,cE e,h⟩
theorem o_2 (h:Ok (f env S) λa S1=>Ok (g env S1) λb Y=>Ok (o a b Y) Q):Ok (d2 o f g env S) Q:=qW (zF h λ_ _=>qW)
theorem o_1 {u:D->Sto->Res D}(h:Ok (f env S) λa S1=>Ok (u a S1) Q):Ok (d1 u f env S) Q:=qW h
theorem sE {Q:Aa D->Sto->Prop}(h:Q [] S):Ok (qC env S) Q:=⟨_,_,rfl,h⟩
theorem kB {Q:Aa D->Sto->Prop}(h:Ok (f env S) λa S1=>Ok (fa env S1) λJ Y=>Q (a::J) Y):Ok (qA f fa env S) Q:=qW (zF h λ_ _ k=>qW (zF k λ_ _ q=>⟨_,_,rfl,q⟩))
theorem qAp (h:Ok (fa env S) λY S1=>Y.length<=lim/\Q (.tup Y) S1):Ok (zA fa env S) Q:=qW (zF h λ_ _ k=>⟨_,_,Be k.1,k.2⟩)
theorem CU (h:Ok (fa env S) λY S1=>Y.length<=lim/\Q (.lst Y) S1):Ok (xB fa env S) Q:=qW (zF h λ_ _ k=>⟨_,_,Be k.1,k.2⟩)
theorem qAZ (h:Ok (fa env S) λY S1=>Y.length<=lim/\Q (.loc S1.length) (S1++[.lst Y])):Ok (jE fa env S) Q:=qW (zF h λ_ _ k=>⟨_,_,Be k.1,k.2⟩)
theorem qAh (h:Q (.loc S.length) (S++[.dct []])) : Ok (tP env S) Q:=⟨_,_,rfl,h⟩
theorem qAV (h:Q .dct0 S):Ok (dR env S) Q:=⟨_,_,rfl,h⟩
theorem XZ (h:Ok (fa env S) λY S1=>Y.length=n/\Ok (F Y S1) Q):Ok (qM n F fa env S) Q:=qW (zF h λ_ _ k=>by rw[Be k.1];exact k.2)
theorem qAl {Y:Aa D}(h:Ok (F Y S) Q):Ok (okO F Y S) Q:=by
 obtain⟨d,S1,e,q⟩:=h;exact⟨d,S1,SG e,q⟩
theorem qAw (h:Ok (fa env S) λY S1=>Ok (F Y S1) Q):Ok (qL F fa env S) Q:=qW h
theorem qAg {a b:Ak}(h:Q (.int (a+b)) S):Ok (zG (.int a) (.int b) S) Q:=⟨_,_,rfl,h⟩
theorem mV {a b:Aa D}(l:a.length+b.length<=lim)(h:Q (.tup (a++b)) S):Ok (zG (.tup a) (.tup b) S) Q:=⟨_,_,Be l,h⟩
theorem yX {a b:Aa D}(l:a.length+b.length<=lim)(h:Q (.lst (a++b)) S):Ok (zG (.lst a) (.lst b) S) Q:=⟨_,_,Be l,h⟩
theorem qAo {a b:Ak}(h:Q (.int (a-b)) S):Ok (xC (.int a) (.int b) S) Q:=⟨_,_,rfl,h⟩
theorem qAk {a:Ak}(h:Q (.int (-a)) S):Ok (kT (.int a) S) Q:=⟨_,_,rfl,h⟩
theorem CV {a b:Ak}(l : -(2 ^ 64)<a/\a<2 ^ 64)(h:Q (.int (a*b)) S):Ok (zJ (.int a) (.int b) S) Q:=by
 refine⟨_,_,?_,h⟩;unfold zJ i2;rw[sV];unfold sU;simp only[l,and_self,Kh,Bool.true_or,Eh]
theorem qAj {a b:Ak}(l:0<b)(h:Q (.int (a % b)) S):Ok (jP (.int a) (.int b) S) Q:=by
 refine⟨_,_,?_,h⟩;unfold jP i2;simp[l]
theorem qAi {a b:Ak}(l:0<b/\b<1073741824)(h:Q (.int (a/b)) S):Ok (jO (.int a) (.int b) S) Q:=by
 refine⟨_,_,?_,h⟩;unfold jO i2 TC;simp[l]
theorem qA4 {a b:Ak}(h:Q (.bl (decide (a<b))) S):Ok (gLt (.int a) (.int b) S) Q:=⟨_,_,rfl,h⟩
theorem qA3 {a b:Ak}(h:Q (.bl (decide (a<=b))) S):Ok (gLe (.int a) (.int b) S) Q:=⟨_,_,rfl,h⟩
theorem qA2 {a b:Ak}(h:Q (.bl (decide (b<a))) S):Ok (gGt (.int a) (.int b) S) Q:=⟨_,_,rfl,h⟩
theorem qA0 {a b:Ak}(h:Q (.bl (decide (b<=a))) S):Ok (gGe (.int a) (.int b) S) Q:=⟨_,_,rfl,h⟩
theorem D9 {a b:Ak}(h:Q (.bl (decide (a=b))) S):Ok (gEq (.int a) (.int b) S) Q:=⟨_,_,by kernel_rfl!,h⟩
theorem qA5 {a b:Ak}(h:Q (.bl (!decide (a=b))) S):Ok (gNe (.int a) (.int b) S) Q:=⟨_,_,by kernel_rfl!,h⟩
theorem KJ {a:Aa D}{k:Ak}{d:D}(e:_L.atI a k=Ab d)(h:Q d S):Ok (gIx (.tup a) (.int k) S) Q:=⟨d,S,by show _D.vK (_L.atI a k) S=_;rw[e];rfl,h⟩
theorem Q8 {a:Aa D}{k:Ak}{d:D}(e:_L.atI a k=Ab d)(h:Q d S):Ok (gIx (.lst a) (.int k) S) Q:=⟨d,S,by show _D.vK (_L.atI a k) S=_;rw[e];rfl,h⟩
theorem qAY {a:Aa D}(h:Q (.int a.length) S):Ok (xM [.tup a] S) Q:=⟨_,_,rfl,h⟩
theorem qAX {a:Aa D}(h:Q (.int a.length) S):Ok (xM [.lst a] S) Q:=⟨_,_,rfl,h⟩
theorem qAc {a:Aa D}(h:Q (.tup a) S):Ok (k9 [.lst a] S) Q:=⟨_,_,rfl,h⟩
theorem qAa {a:Aa D}(h:Q (.lst a) S):Ok (dU [.tup a] S) Q:=⟨_,_,rfl,h⟩
theorem Q6 (h:Ok (f env S) λd S1=>∃ b,d=.bl b/\(b=true->Ok (g env S1) Q)/\(b=false->Q (.bl false) S1)):Ok (pC f g env S) Q:=qW (zF h λd S1 ⟨b,e,Y,J⟩=>by
 subst e;cases b with
 |true=>exact Y rfl
 |false=>exact⟨_,_,rfl,J rfl⟩)
theorem qBA {Y J:DO}(h:Ok (f env S) λd S1=>Ok (Y env S1) λlo U=>Ok (J env U) λhi G=>Ok (gSl d lo hi G) Q):Ok (dSl f Y J env S) Q:=qW (zF h λ_ _ k=>qW (zF k λ_ _=>qW))
theorem qAn {a:Aa D}(h:Q (.tup (xF a lo hi)) S):Ok (gSl (.tup a) lo hi S) Q:=⟨_,_,rfl,h⟩
theorem qAm {a:Aa D}(h:Q (.lst (xF a lo hi)) S):Ok (gSl (.lst a) lo hi S) Q:=⟨_,_,rfl,h⟩
theorem qAx {Q:Am Ak->Sto->Prop}(h:Q none S):Ok (wN env S) Q:=⟨_,_,rfl,h⟩
theorem qAy {Q:Am Ak->Sto->Prop}(h:Ok (f env S) λd S1=>∃ k,d=.int k/\Q (Ab k) S1):Ok (xJ f env S) Q:=qW (zF h λ_ _ ⟨_,e,q⟩=>by subst e;exact⟨_,_,rfl,q⟩)
theorem qAv {T:Em}{m:D->Aa D->Sto->Res D}(h:Ok (f env S) λa S1=>tyD a S1=Ab T/\Ok (fa env S1) λJ Y=>Ok (m a J Y) Q):Ok (dBm T m f fa env S) Q:=qW (zF h λ_ _ k=>by rw[k.1,Be (by simp)];exact qW k.2)
theorem D7 {a b:D}{Y:Aa D}(e1:lstM a S=Ab xs)(e2:lstM b S=Ab Y)(l:xs.length+Y.length<=lim)(h:Q (.loc S.length) (S++[.lst (xs++Y)])):Ok (b9 a b S) Q:=⟨_,_,by unfold b9;rw[e1,e2];exact Be l,h⟩
theorem D6 {a b:D}{Y:Aa D}(e1:lstM a S=Ab xs)(e2:lstM b S=Ab Y)(l:xs.length+Y.length<=lim)(h:Q (.lst (xs++Y)) S):Ok (b8 a b S) Q:=⟨_,_,by unfold b8;rw[e1,e2];exact Be l,h⟩
theorem sC {d:D}(e:S[i]? = Ab (.lst xs))(l:xs.length<lim)(h:Q .non (S.set i (.lst (xs++[d])))):Ok (xP (.loc i) [d] S) Q:=by
 refine⟨_,_,?_,h⟩;show (match S[i]? with|some (.lst xs)=>(if xs.length<lim then Res.ok D.non (S.set i (.lst (xs++[d]))) else .bad)|_=>.bad)=_
 rw[e];exact Be l
theorem OT {t:DT}(h:Ok (t env S) λb S1=>(b=true->Ok (f env S1) Q)/\(b=false->Ok (g env S1) Q)):Ok (dIf t f g env S) Q:=qW (zF h λb S1 k=>by
 cases b with
 |true=>exact k.1 rfl
 |false=>exact k.2 rfl)
variable {Q:As->Sto->Prop}{t u:DT}
theorem OW (h:Ok (f env S) λd S1=>∃ b,xO d S1=Ab b/\Q b S1):Ok (dTr f env S) Q:=qW (zF h λd S1 ⟨b,e,k⟩=>by
 rw[e];exact⟨_,_,rfl,k⟩)
theorem DR (h:Ok (t env S) λb S1=>Q (!b) S1):Ok (yH t env S) Q:=qW (zF h λ_ _ k=>⟨_,_,rfl,k⟩)
theorem qAq (h:Q true S):Ok (wM env S) Q:=⟨_,_,rfl,h⟩
theorem bH (h:Ok (t env S) λb S1=>(b=true->Q true S1)/\(b=false->Ok (u env S1) Q)):Ok (kO t u env S) Q:=qW (zF h λb S1 k=>by
 cases b with
 |true=>exact⟨_,_,rfl,k.1 rfl⟩
 |false=>exact k.2 rfl)
theorem D8 (h:Ok (t env S) λb S1=>(b=true->Ok (u env S1) Q)/\(b=false->Q false S1)):Ok (dQ t u env S) Q:=qW (zF h λb S1 k=>by
 cases b with
 |true=>exact k.1 rfl
 |false=>exact⟨_,_,rfl,k.2 rfl⟩)
theorem oE {a:Ai}(h:a<xs.length):_L.atI xs (a:Ak)=Ab xs[a]:=by
 have e:_L.ixN xs.length (a:Ak)=Ab a:=by simp[_L.ixN];lia
 simp[_L.atI,e,h]
theorem wF (S:Sto)(m:MO):(S++[m])[S.length]? = Ab m:=by simp
theorem hW (S:Sto)(m m':MO):(S++[m]).set S.length m'=S++[m']:=by simp
theorem bQ (h:S[j]? = Ab (.lst xs)):tyD (.loc j) S=Ab "list":=by
 show (match S[j]? with|some (.lst _)=>Ab "list" | some (.dct _)=>Ab "dict" | _=>none)=_
 rw[h]
theorem CB (h:S[j]? = Ab (.lst xs)):lstM (.loc j) S=Ab xs:=by
 show (match S[j]? with|some (.lst xs)=>Ab xs|_=>none)=_
 rw[h]
theorem sD {Q:D->Sto->Prop}{a:Aa D}{k:Ai}(h:k<a.length)(q:∀ d∈a,Q d S):Ok (gIx (.lst a) (.int (k:Ak)) S) Q:=Q8 (oE h) (q _ (Tu h))
theorem qAW {Q:Aa D->Sto->Prop}(h:Ok (f env S) λd S1=>∃ xs,d=.tup xs/\Q (yI xs) S1):Ok (mE (qA f qC) env S) Q:=qW (kB (zF h λ_ _ ⟨xs,e,q⟩=>sE ⟨_,_,by rw[e];rfl,q⟩))
theorem BU {Q:Aa D->Sto->Prop}(h:Ok (f env S) λd S1=>∃ ds,zW d=Ab ds/\Q ds S1):Ok (uM f env S) Q:=qW (zF h λd S1 ⟨ds,e,k⟩=>⟨ds,S1,by rw[e];rfl,k⟩)
theorem KL {Q:Aa D->Sto->Prop}(h:Ok (fa env S) λY S1=>∃ ds,pO Y=Ab ds/\Q ds S1):Ok (yL fa env S) Q:=qW (zF h λd S1 ⟨ds,e,k⟩=>⟨ds,S1,by rw[e];rfl,k⟩)
theorem KU (n:Ai)(h:n<=1000000):pO [.int (n:Ak)]=Ab ((Cu n).map λ(i:Ai)=>D.int (i:Ak)):=by
 unfold pO;have : -(2 ^ 62)<=(n:Ak)/\(n:Ak)<2 ^ 62:=⟨by lia,by lia⟩
 refine(Be this).trans ?_;unfold wU;rw[Fa]
 congr 2
 funext i
 rw[Int.zero_add]
theorem qAb {Q:Aa D->Sto->Prop}(h:Ok (f env S) λd S1=>∃ k:Ak,d=.int k/\0<=k/\k<=1000000/\Q ((Cu k.toNat).map λ(i:Ai)=>D.int (i:Ak)) S1):Ok (yL (qA f qC) env S) Q:=KL (kB (zF h λ_ _ ⟨k,e,Y,J,q⟩=>sE ⟨_,by
 have:=KU k.toNat li;rw[Xx Y] at this;rw[e,this],q⟩))
theorem gG {Q:D->Sto->Prop}{k:Ak}{d:D}(e:S[i]? = Ab (.lst xs))(Y:_L.atI xs k=Ab d)(h:Q d S):Ok (gIx (.loc i) (.int k) S) Q:=by
 refine⟨d,S,?_,h⟩;show (match S[i]? with|some (.lst xs)=>_D.vK (_L.atI xs k) S|_=>.bad)=_
 rw[e];show _D.vK (_L.atI xs k) S=_;rw[Y];rfl
theorem eD {Q:D->Sto->Prop}(e:S[i]? = Ab (.lst xs))(h:Q (.int xs.length) S):Ok (xM [.loc i] S) Q:=by
 refine⟨_,_,?_,h⟩;have Y:Q0 (.loc i) S=Ab xs.length:=by
  show (match S[i]? with|some (.lst xs)=>Ab xs.length|_=>none)=_
  rw[e]
 show (match Q0 (.loc i) S with|some n=>Res.ok (D.int n) S|none=>.bad)=_
 rw[Y]
theorem CY {Q:D->Sto->Prop}{k:Ai}(e:S[i]? = Ab (.lst xs))(Y:k<xs.length)(J:k<1000000)(h:Q xs[k] (S.set i (.lst (xs.eraseIdx k)))):Ok (pI (.loc i) [.int (k:Ak)] S) Q:=by
 refine⟨_,_,?_,h⟩;show bJ S i (λxs=>if 0<=(k:Ak)/\(k:Ak)<1000000 then (match xs[(k:Ak).toNat]? with|some d=>Res.ok d (S.set i (.lst (xs.eraseIdx (k:Ak).toNat)))|none=>.bad) else .bad)=_
 unfold bJ;rw[e];show (if 0<=(k:Ak)/\(k:Ak)<1000000 then _ else _)=_
 rw[Be ⟨by lia,by lia⟩,Fa,Ap Y]
theorem W0 {Q:Qf->Sto->Prop}{d:D}{n:Ak}(e:S[i]? = Ab (.dct kvs))(Y:kvs.length<lim)(h:Q () (S.set i (.dct (zX kvs (.inl n) d)))):Ok (wZ (.loc i) (.int n) d S) Q:=by
 refine⟨_,_,?_,h⟩;show (match S[i]? with|some (.dct kvs)=>(match wO (.int n) with|some k=>(if kvs.length<lim then Res.ok () (S.set i (.dct (zX kvs k d))) else .bad)|none=>.bad)|_=>fO (.loc i) (.int n) d S)=_
 rw[e];exact Be Y
theorem W1 {Q:Qf->Sto->Prop}{d:D}{n:Ak}(e:S[i]? = Ab (.lst xs))(Y:_L.ixN xs.length n=Ab j)(h:Q () (S.set i (.lst (xs.set j d)))):Ok (wZ (.loc i) (.int n) d S) Q:=by
 refine⟨_,_,?_,h⟩;simp[wZ,fO,e,Y]
theorem rF (h:S[i]? = Ab (.dct kvs)):jF (.loc i) S=Ab kvs:=by
 show (match S[i]? with|some (.dct kvs)=>Ab kvs|_=>none)=_
 rw[h]
theorem CO {Q:D->Sto->Prop}{n:Ak}(e:S[i]? = Ab (.dct kvs))(h:Q (.bl (zT kvs (.inl n)).isSome) S):Ok (n6 (.int n) (.loc i) S) Q:=⟨_,_,by unfold n6;rw[rF e];rfl,h⟩
theorem CS {Q:D->Sto->Prop}{n:Ak}{d:D}(e:S[i]? = Ab (.dct kvs))(Y:zT kvs (.inl n)=Ab d)(h:Q d S):Ok (fN (.loc i) (.int n) S) Q:=by
 refine⟨d,S,?_,h⟩;unfold fN;rw[rF e];show (match zT kvs (.inl n) with|some d=>Res.ok d S|none=>.bad)=_
 rw[Y]
theorem LH (h:env[i]? = Ab (Ab (.tup xs))):dIt (qB i) env S=.ok (none,xs) S:=by
 unfold dIt;rw[cE h];rfl
theorem ON (h:env[i]? = Ab (Ab (.loc j)))(e:S[j]? = Ab (.lst xs)):dIt (qB i) env S=.ok (Ab (j,.lst xs),xs) S:=by
 unfold dIt;rw[cE h];show (match S[j]? with|some (.lst xs)=>Res.ok (Ab (j,MO.lst xs),xs) S|_=>.bad)=_
 rw[e]
theorem OO (h:n<=1000000):xT (yL (qA (dC (.int (n:Ak))) qC)) env S=.ok (none,(Cu n).map λ(i:Ai)=>D.int (i:Ak)) S:=xA (qW (KL (kB (o_c (sE ⟨_,KU n h,_,_,rfl,rfl,rfl⟩)))))
theorem rR {α:Type}(f:α->β):∀ l:Aa α,l.flatMap (λx=>[f x])=l.map f
 |[]=>rfl
 |x::l=>by rw[Nw,rR f l];rfl
theorem vV {α:Type}{enc:α->D}{o:Am (Ai × MO)}{L:DI2}{B:DG}{N:DE}{Q:D->Sto->Prop}(xs:Aa α)(val:α->D)(C:qF->Sto->Prop)(hi:L env S=.ok (o,xs.map enc) S1)(h0:C (wD cap env) S1)(J:xs.length<=lim)(O:∀ env S,C env S->stn o S)
  (step:∀ x∈xs,∀ env S,C env S->Ok (B (enc x) env S) λY S1=>Ok (t Y S1) λb U=>b=true/\Ok (N Y U) λd G=>d=val x/\C Y G) (q:∀ env' S',C env' S'->Q (.lst (xs.map val)) S'):Ok (zI false cap L B t (zY N) env S) Q:=by
 have T:=rR val xs;obtain⟨env',S',e,c⟩:=goT (enc:=enc) (o:=o) (g:=B) (t:=t) (k:=zY N) (λx=>[val x]) C O xs (wD cap env) S1 [] h0 (by rw[T,Aq];simpa using J) (λx E env S H y J=>by
  obtain⟨Y,S1,I,b,U,A,rfl,d,G,M,rfl,w⟩:=step x E env S y;exact⟨Y,S1,true,U,I,A,.inr ⟨rfl,Y,G,VU M (by simp at J;lia),w⟩⟩)
 rw[T,Ip] at e;exact⟨_,_,ZQ hi e,q env' S' c⟩
theorem sA {α:Type}{Q:D->Sto->Prop}{l:Aa α}{p:α->As}(h:Q (.bl (l.all p)) S):Ok (pG false [.lst (l.map λx=>.bl (p x))] S) Q:=by
 refine⟨_,_,?_,h⟩;show (match (zW (.lst (l.map λx=>D.bl (p x)))).bind zZ with|some bs=>Res.ok (D.bl (bs.all id)) S|none=>.bad)=_
 rw[show (zW (.lst (l.map λx=>D.bl (p x)))).bind zZ=Ab (l.map p) from ZC p l]
 simp only[Ls];rfl
theorem DJ {Q:D->Sto->Prop}{Y:G2}{a b x y:D}{z:D}(e1:vJ fJ S a=Ab x)(e2:vJ fJ S b=Ab y)(e3:Y x y (u9 S)=.ok z (u9 S))(J:oF z=true)(h:Q z S):Ok (bE Y a b S) Q:=by
 refine⟨z,S,?_,h⟩;unfold bE;rw[e1,e2];show Q1 (Y x y (u9 S)) S=_;rw[e3];exact Be J
theorem BQ {f:D->Am D}(h:∀ x∈xs,f x=Ab x):mapO f xs=Ab xs:=by
 induction xs with
 |nil=>rfl
 |cons x xs Y=>simp[mapO,h x (Cn ..),Y λy J=>h y (Bp _ J)]
theorem eZ (e:S[i]? = Ab (.lst xs))(h:∀ x∈xs,vJ 19 S x=Ab x):vJ fJ S (.loc i)=Ab (.lst xs):=by
 show (match S[i]? with|some (.lst xs)=>(mapO (vJ 19 S) xs).map D.lst|_=>none)=_
 rw[e];show (mapO (vJ 19 S) xs).map D.lst=_;rw[BQ h];rfl
theorem qA9 {Q:qF->Sto->Prop}{h:G3}{d:D}(k:Ok (f env S) λa S1=>Ok (g env S1) λb Y=>Ok (h a b d Y) λ_ J=>Q env J):Ok (gSb f g h d env S) Q:=qW (zF k λ_ _ k=>qW (zF k λ_ _ k=>qW (zF k λ_ _ q=>⟨_,_,rfl,q⟩)))
variable {Q:qF->Sto->Prop}
theorem qA6 {d:D}(h:Q (env.set i (Ab d)) S):Ok (gNm i d env S) Q:=⟨_,_,rfl,h⟩
theorem DW {Y:DGs}(h:xs.length=n/\Ok (Y xs env S) Q):Ok (gTp n Y (.tup xs) env S) Q:=by
 obtain⟨d,S1,e,q⟩:=h.2;exact⟨d,S1,by show (if xs.length=n then Y xs env S else .bad)=_;rw[Be h.1];exact e,q⟩
theorem qA1 (h:Q env S):Ok (yJ [] env S) Q:=⟨_,_,rfl,h⟩
theorem qAz {t:DG}{J:DGs}{x:D}(h:Ok (t x env S) λY S1=>Ok (J xs Y S1) Q):Ok (zP t J (x::xs) env S) Q:=qW h
def Wo (P:Out->Prop)(o:Out):Prop:=P o
def JA (g:DS)(P:Out->Prop):Out->Prop
 |.nx env S=>P (g env S)
 |o=>P o
noncomputable def cD (b:As)(f g:DS):DS:=match b with
 |true=>f
 |false=>g
def NW (Q:D->Sto->Prop):Out->Prop
 |.rt d S=>Q d S
 |.nx _ S=>Q .non S
 |_=>Fn
def Q4 {α:Type}(I:Aa α -> qF->Sto->Prop)(xs:Aa α)(P:Out->Prop):Out->Prop
 |.nx env S=>I xs env S
 |.ct env S=>I xs env S
 |.bk env S=>P (.nx env S)
 |o=>P o
variable {P:Out->Prop}{sf sg:DS}{fi:DI}{tg:DG}{d:D}
theorem G9 (h:Wo (JA sg P) (sf env S)):Wo P (qN sf sg env S):=by
 unfold qN;unfold Wo at h ⊢;cases e:sf env S <;> rw[e] at h <;> exact h
theorem IA (R:qF->Sto->Prop)(h:∀ Y:Out->Prop,(∀ env S,R env S->Wo Y (.nx env S))->Wo Y (sf env S))(k:∀ env S,R env S->Wo P (sg env S)):Wo P (qN sf sg env S):=G9 (h _ k)
theorem EI (h:Wo P (sg env S)):Wo (JA sg P) (.nx env S):=h
theorem qBD (h:Wo P (.rt d S)):Wo (JA sg P) (.rt d S):=h
theorem qAe (h:Wo P (.nx env S)):Wo P (zV env S):=h
theorem gO {r:Res β}{k:β->Sto->Out}(h:Ok r λd S1=>Wo P (k d S1)):Wo P (r.toS env k):=by
 obtain⟨d,S1,rfl,h⟩:=h;exact h
theorem qAr (h:Ok (f env S) λd S1=>Ok (tg d env S1) λenv' Y=>Wo P (.nx env' Y)):Wo P (qV f tg env S):=gO (zF h λ_ _=>gO)
theorem qAd (h:Ok (f env S) λ_ S1=>Wo P (.nx env S1)):Wo P (xY f env S):=gO h
theorem G8 (h:Ok (f env S) λd S1=>Wo P (.rt d S1)):Wo P (z9 f env S):=gO h
theorem qAt (h:Ok (fa env S) λds S1=>∃ a b,ds=[a,b]/\Wo P (.nx ((env.set i (Ab a)).set j (Ab b)) S1)):Wo P (pQ i j fa env S):=gO (zF h λ_ _ ⟨_,_,e,q⟩=>by subst e;exact q)
theorem qBC (h:Ok (t env S) λb S1=>Wo P (cD b sf sg env S1)):Wo P (sIf t sf sg env S):=gO (zF h λb S1 q=>by cases b <;> exact q)
theorem w_t (h:Wo P (sf env S)):Wo P (cD true sf sg env S):=h
theorem w_f (h:Wo P (sg env S)):Wo P (cD false sf sg env S):=h
theorem qAs {b:As}(h:Wo P (cD b sg sf env S)):Wo P (cD (!b) sf sg env S):=by cases b <;> exact h
theorem y9 {p:Prop}[Jr p](h1:p->Wo P (sf env S))(h2:¬ p->Wo P (sg env S)):Wo P (cD (decide p) sf sg env S):=by
 by_cases h:p
 .rw[Dl h];exact h1 h
 .rw[Ds h];exact h2 h
theorem IC (h:Ok (fi env S) λds S1=>Wo P (uA tg sf ds env S1)):Wo P (u4 fi tg sf env S):=gO h
theorem yG {α:Type}{enc:α->D}(I:Aa α -> qF->Sto->Prop)(turn:∀ x xs env S,I (x::xs) env S->Ok (tg (enc x) env S) λJ S1=>Wo (Q4 I xs P) (sf J S1))(last:∀ env S,I [] env S->Wo P (.nx env S)) :
  ∀ {xs:Aa α} {env:qF} {S:Sto},I xs env S->Wo P (uA tg sf (xs.map enc) env S)
 |[],env,S,h=>last env S h
 |x::xs,env,S,h=>by
  obtain⟨J,S1,O,Y⟩:=turn x xs env S h;rw[Ek,uA];unfold Wo at Y ⊢;simp only[O,Res.toS];cases G:sf J S1 with
  |nx U N=>rw[G] at Y;exact yG I turn last Y
  |ct U N=>rw[G] at Y;exact yG I turn last Y
  |bk U N=>rw[G] at Y;exact Y
  |rt d2 N=>rw[G] at Y;exact Y
  |ex C B U N=>rw[G] at Y;exact Y
  |bad=>rw[G] at Y;exact Y
theorem iX (I:Aa D->qF->Sto->Prop)(turn:∀ x xs env S,I (x::xs) env S->Ok (tg x env S) λY S1=>Wo (Q4 I xs P) (sf Y S1))(last:∀ env S,I [] env S->Wo P (.nx env S)){xs:Aa D}{env:qF}{S:Sto}(h:I xs env S):Wo P (uA tg sf xs env S):=by
 have:=yG (enc:=id) I turn last h
 rwa [Pb] at this
def whQ (I:Ai->qF->Sto->Prop)(n:Ai)(P:Out->Prop):Out->Prop
 |.nx env S=>∃ m,m<n/\I m env S
 |.ct env S=>∃ m,m<n/\I m env S
 |.bk env S=>P (.nx env S)
 |o=>P o
theorem iY (I:Ai->qF->Sto->Prop)(turn:∀ n env S,I n env S->Ok (t env S) λb S1=>(b=true->Wo (whQ I n P) (sf env S1))/\(b=false->Wo P (.nx env S1))){n:Ai}(E:n<big)(h:I n env S):Wo P (pR t sf env S):=by
 have O:∀ N n env S,n<N->I n env S->Wo P (vZ t sf N env S):=by
  intro N
  induction N with
  |zero=>intro n env S h;lia
  |succ N C =>
   intro n env S h B;obtain⟨b,S1,L,A,H⟩:=turn n env S B;unfold vZ;rw[L];cases b with
   |false=>exact H rfl
   |true =>
    have k:=A rfl;unfold Wo at k ⊢;simp only[Res.toS,Eh];cases U:sf env S1 with
    |nx Y G=>rw[U] at k;obtain⟨m,T,J⟩:=k;exact C m Y G li J
    |ct Y G=>rw[U] at k;obtain⟨m,T,J⟩:=k;exact C m Y G li J
    |bk Y G=>rw[U] at k;exact k
    |rt d2 G=>rw[U] at k;exact k
    |ex M w Y G=>rw[U] at k;exact k
    |bad=>rw[U] at k;exact k
 exact O big n env S E h
theorem cF {I:Ai->qF->Sto->Prop}(m:Ai)(hm:m<n)(h:I m env S):Wo (whQ I n P) (.nx env S):=⟨m,hm,h⟩
theorem pP {x:D}(hs:v8 n ds=env)(h:sf env S=.ex v x env' S'):qP n sf ds S=.ex v x S':=by
 subst hs;unfold qP;rw[h];rfl
theorem NZ {x:D}(h:f env S=.ex v x S'):qN (xY f) sg env S=.ex v x env S':=by
 simp only[qN,xY,h,Res.toS]
theorem HX {x:D}(h:t env S=.ok true S1)(k:sf env S1=.ex v x env' S'):sIf t sf sg env S=.ex v x env' S':=by
 simp only[sIf,h,Res.toS,Eh];exact k
theorem UZ (v:Ac)(x:Ar)(env:qF)(S:Sto):uY v (qA (dC (.str x)) (qC)) env S=.ex v .non env S:=by
 unfold uY;rw[rD (show dC (.str x) env S=.ok (.str x) S from rfl)]
 show (if ([D.str x]:Aa D).length<=lim then Out.ex v D.non env S else Out.bad)=_
 exact Be (Dv rfl)
theorem vA {α:Type}{I:Aa α -> qF->Sto->Prop}{xs:Aa α}(h:I xs env S):Wo (Q4 I xs P) (.nx env S):=h
theorem IB {Q:D->Sto->Prop}(h:Q d S):Wo (NW Q) (.rt d S):=h
theorem zB {Q:D->Sto->Prop}(hs:v8 n ds=env)(h:Wo (NW Q) (sf env S)):Ok (qP n sf ds S) Q:=by
 subst hs;unfold qP;unfold Wo at h;cases e:sf (v8 n ds) S <;> rw[e] at h <;> first|exact⟨_,_,rfl,h⟩|exact An h
end
abbrev Pt:=Ak × Ak
variable {ps:Aa Pt}
noncomputable def ptD (p:Pt):D:=.tup [.int p.1,.int p.2]
noncomputable def yA (l:Aa Pt):D:=.tup (l.map ptD)
noncomputable def kP (p:Pt):Aa Ak:=[p.1,p.2]
noncomputable def pK (k:Aa Ak):Pt:=(k.getD 0 0,k.getD 1 0)
theorem uT (ps:Aa Pt):ps.map ptD=(ps.map kP).map tpD:=by
 rw[Gk];rfl
noncomputable def ltP (p q:Pt):As:=_H.lexLt [p.1,p.2] [q.1,q.2]
abbrev Up (l:Aa Pt):Prop:=l.Pairwise λp q=>ltP p q=true
noncomputable def yB (ps:Aa Pt):Aa Pt:=(_S.srt _H.lexLt (ps.map kP)).map pK
theorem pX {ks:Aa (Aa Ak)}(h:∀ k∈ks,k∈ps.map kP):ks.map tpD=(ks.map pK).map ptD/\(ks.map pK).map kP=ks:=by
 have e:∀ k∈ks,kP (pK k)=k:=λk Y=>by
  obtain⟨p,_,rfl⟩:=Ci.mp (h k Y);rfl
 have Q:(ks.map pK).map kP=ks:=by
  rw[Gk]
  conv=>rhs;rw[<- Pb ks]
  exact Ki e
 exact⟨by rw[uT,Q],Q⟩
theorem LL {p q:Pt}(h:kP p=kP q):p=q:=by
 injection h with Y Q
 injection Q with Q _
 exact Lq Y Q
theorem c7 (ps:Aa Pt):∀ k∈_S.srt _H.lexLt (ps.map kP),k∈ps.map kP:=λk Q=>(_S.vM _S.gH k _).mp Q
theorem gM (ps:Aa Pt)(p:Pt):p∈yB ps↔p∈ps:=by
 unfold yB;constructor
 .intro h
  obtain⟨k,Q,rfl⟩:=Ci.mp h;obtain⟨q,Y,rfl⟩:=Ci.mp (c7 ps k Q);exact Y
 .intro h
  exact Ci.mpr ⟨kP p,(_S.vM _S.gH _ _).mpr (Ci.mpr ⟨p,h,rfl⟩),rfl⟩
theorem M8 (ps:Aa Pt):Up (yB ps):=by
 have h:=_S.pU _S.gH (ps.map kP);rw[<- (pX (c7 ps)).2,Ep] at h;exact h
theorem rW {K:Type}(lt':K->K->As)(x:K):∀ l:Aa K,(_S.uQ lt' x l).length<=l.length+1
 |[]=>by simp[_S.uQ]
 |y::l=>by
  have:=rW lt' x l;unfold _S.uQ
  split
  .simp
  .split <;> simp <;> omega
theorem l8 {K:Type}(lt':K->K->As):∀ l:Aa K,(_S.srt lt' l).length<=l.length
 |[]=>by simp[_S.srt]
 |x::l=>by
  have Y:=rW lt' x (_S.srt lt' l);have Q:=l8 lt' l;rw[_S.srt,Ca];omega
theorem c6 (ps:Aa Pt):(yB ps).length<=ps.length:=by
 unfold yB;rw[Aq];exact Dc (l8 _ _) (by simp)
theorem f7 (ps:Aa Pt)(U:ps.length<=1000):j3 (ps.map ptD)=Ab ((yB ps).map ptD):=by
 unfold j3 yB;rw[<- (pX (c7 ps)).1];cases ps with
 |nil=>rfl
 |cons p ps =>
  have J:xS ((p::ps).map ptD)=none:=rfl;rw[J,uT,yS];have Q:(((p::ps).map kP).all λk=>!k.isEmpty)=true:=by
   rw[Ls,Cb];intro q _;rfl
  have Y:(_S.srt _H.lexLt ((p::ps).map kP)).length<=1000:=Dc (l8 _ _) (by rw[Aq];exact U)
  exact Be (by rw[Q,Dl Y];rfl)
noncomputable def pT (ps:Aa Pt):Aa Pt:=(_S.wJ _H.lexLt (ps.map kP)).map pK
theorem iU (ps:Aa Pt):∀ k∈_S.wJ _H.lexLt (ps.map kP),k∈ps.map kP:=λk Q=>(_S.vW _).mem_iff.mp Q
theorem E7 (ps:Aa Pt):(pT ps).map kP=_S.wJ _H.lexLt (ps.map kP):=(pX (iU ps)).2
theorem dD (ps:Aa Pt):(pT ps).Perm ps:=by
 have h:=(_S.vW (lt':=_H.lexLt) (ps.map kP)).map pK;rw[Gk] at h;have e:ps.map (pK∘kP)=ps:=by
  conv=>rhs;rw[<- Pb ps]
  exact Ki λq _=>rfl
 rw[e] at h;exact h
theorem M9 (nd:ps.Nodup):Up (pT ps):=by
 have h:=_S.iV _S.gH (ps.map kP);unfold _S.Nf at h;rw[<- E7,Ep] at h;have Q:(pT ps).Nodup:=(dD ps).nodup_iff.mpr nd;refine(List.pairwise_and_iff.mpr ⟨h,Q⟩).imp λ{a b} ⟨J,Y⟩=>?_;rcases _S.gH.tri J with z|z
 .exact absurd (LL z).symm Y
 .exact z
theorem JC (ps:Aa Pt)(G:ps.length<=100000):vS (ps.map ptD)=Ab ((pT ps).map ptD):=by
 unfold pT;rw[<- (pX (iU ps)).1];unfold vS;cases ps with
 |nil =>
  have U:_S.wJ _S.ltI [] = []:=Na;have Y:_S.wJ _H.lexLt [] = []:=Na;show (if ([] : Aa Ak).length<=100000 then Ab ((_S.wJ _S.ltI []).map D.int) else none)=_
  rw[U];show Ab [] = Ab ((_S.wJ _H.lexLt []).map tpD);rw[Y];rfl
 |cons p ps =>
  have J:xS ((p::ps).map ptD)=none:=rfl;rw[J,uT,yS];have Q:(((p::ps).map kP).all λk=>!k.isEmpty)=true:=by
   rw[Ls,Cb];intro q _;rfl
  exact Be (by rw[Q,Dl (by rw[Aq];exact G)];rfl)
theorem qA7 {Q:D->Sto->Prop}{p:Pt}{S:Sto}(h:Q (.int p.1) S):Ok (gIx (ptD p) (.int 0) S) Q:=⟨_,_,rfl,h⟩
theorem qA8 {Q:D->Sto->Prop}{p:Pt}{S:Sto}(h:Q (.int p.2) S):Ok (gIx (ptD p) (.int 1) S) Q:=⟨_,_,rfl,h⟩
theorem A3 {Q:D->Sto->Prop}{S:Sto}(l:ps.length<=100000)(h:Q (.lst ((pT ps).map ptD)) S):Ok (vF [.lst (ps.map ptD)] S) Q:=by
 refine⟨_,_,?_,h⟩;show (match (Ab (ps.map ptD)).bind vS with|some Y=>Res.ok (D.lst Y) S|none=>.bad)=_
 rw[Pc,JC ps l]
theorem R4 (ps:Aa Pt):pl yF (.lst (ps.map ptD))=true:=by
 show ((ps.map ptD).all (pl 29))=true;rw[Ls];exact Cb.mpr λp _=>rfl
theorem OV {Q:D->Sto->Prop}{f:DE}{env:qF}{S:Sto}(h:Ok (f env S) λd S1=>∃ ps:Aa Pt,fX d S1=Ab (ps.map ptD)/\ps.length<=1000/\Q (.lst ((yB ps).map ptD)) S1):Ok (yP false f env S) Q:=qW (zF h λd S1 ⟨ps,e,l,q⟩=>⟨_,_,by rw[e,Pc,f7 ps l];rfl,q⟩)
theorem A4 {Q:D->Sto->Prop}{f:DE}{env:qF}{S:Sto}(h:Ok (f env S) λd S1=>∃ ps:Aa Pt,fX d S1=Ab (ps.map ptD)/\ps.length<=1000/\Q (.loc S1.length) (S1++[.lst ((yB ps).map ptD)])):Ok (yP true f env S) Q:=qW (zF h λd S1 ⟨ps,e,l,q⟩=>⟨_,_,by rw[e,Pc,f7 ps l];rfl,q⟩)
theorem M3 {S:Sto}{a:Ai}(h:S[a]? = Ab (.lst xs)):fX (.loc a) S=Ab xs:=by
 show (match S[a]? with|some (.lst xs)=>Ab xs|_=>none)=_
 rw[h]
def InB (B:Ak)(q:Pt):Prop:=-B<=q.1/\q.1<=B /\ -B<=q.2/\q.2<=B
instance (B:Ak)(q:Pt):Jr (InB B q):=by unfold InB;exact inferInstance
structure Lot (M:Ai)(l:Aa Pt):Prop where
 ne:l≠[]
 len:l.length<=M
 up:Up l
 box:∀ q∈l,InB 1000 q
theorem QZ {l:Aa Pt}(h:Up l):l.Nodup:=h.imp λ{a b} h e=>by
 subst e;rw[show ltP a a=false from _S.gH.irr _] at h
 cases h
theorem CG {M:Ai}(Y:ps≠[])(U:ps.length<=M)(nd:ps.Nodup)(Q:∀ q∈ps,InB 1000 q):Lot M (pT ps):=by
 have p:=dD ps;refine⟨λz=>?_,by rw[p.length_eq];exact U,M9 nd,λq J=>Q q (p.mem_iff.mp J)⟩
 rw[z] at p;exact Y p.symm.eq_nil
def wV (S:Sto)(p:Ai):Prop:=∃ v f:Ak,S[p]? = Ab (.lst [.int v,.int f])
theorem bK {S:Sto}(h:wV S p)(e:S<+:S'):wV S' p:=by
 obtain⟨Y,J,Q⟩:=h;obtain⟨r,rfl⟩:=e;exact⟨Y,J,by rw[Bi (Aw.mp Q).1];exact Q⟩
structure Kp (p:Ai)(S S':Sto):Prop where
 pen:wV S' p
 len:S.length<=S'.length
 same:∀ m,m<S.length->m≠p->S'[m]? = S[m]?
theorem Kp.trans {S Q:Sto}(a:Kp p S S1)(b:Kp p S1 Q):Kp p S Q:=⟨b.pen,Dc a.len b.len,λm J Y=>(b.same m (Bd J a.len) Y).trans (a.same m J Y)⟩
theorem eK {S:Sto}(h:wV S p):p<S.length:=by
 obtain⟨v,f,e⟩:=h;exact(Aw.mp e).1
theorem Kp.pre {S:Sto}(h:wV S p)(e:S<+:S'):Kp p S S':=⟨bK h e,e.length_le,λm Q _=>(Tn.mp e m Q).trans (Ap Q).symm⟩
theorem Kp.set {j:Ai}{S:Sto}(h:Kp p S S')(Y:S.length<=j)(m:MO)(hp:p≠j):Kp p S (S'.set j m):=by
 obtain⟨v,f,e⟩:=h.pen;exact⟨⟨v,f,by rw[Ce (Gb hp)];exact e⟩,by rw[Ux];exact h.len,λi hi Q=>by rw[Ce om];exact h.same i hi Q⟩
end _D
local macro_rules|`(tactic|array_get_dec)=>`(tactic| first | (with_reducible first | apply _D.G9 | apply _D.EI | apply _D.qAr | apply _D.o_2 | apply _D.o_c | apply _D.kB | apply _D.sE | apply _D.qAg | apply _D.qAo | apply _D.qAp | apply _D.CU | apply _D.XZ | apply _D.qAw | apply _D.qAl | apply _D.OW | apply _D.DR | apply _D.qBC | apply _D.w_t | apply _D.w_f | apply _D.qAs | apply _D.qAe | apply _D.qAd | apply _D.G8 | apply _D.qBD | apply _D.qAt | apply _D.IC | apply _D.qA4 | apply _D.qA3 | apply _D.qA2 | apply _D.qA0 | apply _D.D9 | apply _D.qA5 | apply _D.o_1 | apply _D.qAk | apply _D.qAY | apply _D.qAX | apply _D.qAc | apply _D.qAa | apply _D.qAZ | apply _D.qBA | apply _D.qAn | apply _D.qAm | apply _D.qAx | apply _D.qAy | apply _D.qAv | apply _D.qAh | apply _D.DW | apply _D.qAz | apply _D.qA1 | apply _D.qAq | apply _D.qAV | apply _D.qA7 | apply _D.qA8 | apply _D.qA9 | apply _D.qAW | apply _D.BU | apply _D.qAb) | ((with_reducible apply _D.o_v); exact rfl) | ((with_reducible apply _D.qA6); dsimp only [List.set_cons_succ, List.set_cons_zero]) | ((with_reducible (first | apply _D.CV | apply _D.qAj | apply _D.qAi)); omega) | ((with_reducible apply And.intro); (first | exact rfl | exact Nat.le_of_ble_eq_true rfl)) | ((with_reducible apply Exists.intro); (with_reducible apply And.intro); exact rfl) | ((with_reducible apply Exists.intro); (with_reducible apply Exists.intro); (with_reducible apply And.intro); exact rfl; dsimp only [List.set_cons_succ, List.set_cons_zero]) | ((with_reducible apply Exists.intro); (with_reducible apply Exists.intro); (with_reducible apply Exists.intro); (with_reducible apply And.intro); exact rfl; dsimp only [List.set_cons_succ, List.set_cons_zero]))
local macro_rules|`(tactic|rfl')=>`(tactic| repeat array_get_dec)
namespace _D
open PySem
variable {kvs:Aa (_L.Key × D)}{ks:Aa Ak}{xs:Aa D}{n:Ai}{i:D}{Q:D->Sto->Prop}{S:Sto}
def Pn (d:D):Prop:=∃ p,pyD d=Ab p
theorem pns:∀ {ps:Aa PyData},fV xs=Ab ps->∀ x∈xs,Pn x:=by
 induction xs with
 |nil=>intro ps _ x hx;cases hx
 |cons d O J =>
  intro ps h x hx;simp only[fV] at h;obtain⟨p,U,Y⟩:=Ex.mp h;obtain⟨G,N,_⟩:=De.mp Y;rcases Az.mp hx with rfl|hx
  .exact⟨p,U⟩
  .exact J N x hx
theorem W6 (h:Pn (.tup xs)):∀ x∈xs,Pn x:=by
 obtain⟨p,h⟩:=h;simp only[pyD] at h;obtain⟨J,Y,_⟩:=De.mp h;exact pns Y
theorem eM:∀ {xs:Aa D},(∀ x∈xs,Pn x)->∃ l,fV xs=Ab l
 |[],_=>⟨[],rfl⟩
 |x::xs,h=>by
  obtain⟨l,e⟩:=eM (xs:=xs) λy J=>h y (Bp _ J);obtain⟨q,Y⟩:=h x (Cn ..);refine⟨q::l,?_⟩;show (pyD x).bind (λx=>(fV xs).map (x::·))=_
  rw[e,Y];rfl
theorem fU (h:∀ x∈xs,Pn x):Pn (.tup xs):=by
 obtain⟨l,e⟩:=eM h;exact⟨.tuple l,by simp only[pyD,e,Pu]⟩
theorem qAB (h:∀ x∈xs,Pn x):Pn (.lst xs):=by
 obtain⟨l,e⟩:=eM h;exact⟨.list l,by simp only[pyD,e,Pu]⟩
theorem mY (q:Pt):Pn (ptD q):=⟨.tuple [.int q.1,.int q.2],rfl⟩
theorem R5 (l:Aa Pt):Pn (yA l):=fU λx Y=>by
 obtain⟨q,_,rfl⟩:=Ci.mp Y;exact mY q
noncomputable def inR (a b:Ak):D->As
 |.int i=>decide (a<=i/\i<=b)
 |_=>false
noncomputable def isW:D->As
 |.int _=>true
 |_=>false
noncomputable def isT:D->As
 |.tup _=>true
 |_=>false
theorem K8 {d:D}(h:Pn d)(S:Sto):x5 [d,.ty "tuple"] S=.ok (.bl (isT d)) S:=by
 obtain⟨p,h⟩:=h;cases d <;> first|kernel_rfl!|simp[pyD] at h
theorem iC {J U Y:DE}{env:qF}{a b c:Ak}(h1:J env S=.ok (.int a) S)(h2:U env S=.ok (.int b) S)(h3:Y env S=.ok (.int c) S)(q:Q (.bl (decide (a<=b/\b<=c))) S):Ok (wL gLe gLe J U Y env S) Q:=by
 refine⟨_,_,?_,q⟩;unfold wL;rw[h1,Res.bind_ok,h2,Res.bind_ok];show (match xO (.bl (decide (a<=b))) S with|some true=>(Y env S).bind λw G=>gLe (.int b) w G|some false=>Res.ok (.bl (decide (a<=b))) S|none=>.bad)=_
 by_cases h:a<=b
 .rw[Dl h]
  show (Y env S).bind _=_;rw[h3];simp only[h,true_and];rfl
 .rw[Ds h,Ds λz=>h z.1]
  rfl
noncomputable abbrev isI:D->As:=inR (-1000) 1000
noncomputable def xK:D->As
 |.tup [a,b]=>isI a&&isI b
 |_=>false
theorem BA (q:Pt):xK (ptD q)=decide (InB 1000 q):=by
 show (decide (-1000<=q.1/\q.1<=1000)&&decide (-1000<=q.2/\q.2<=1000))=_;rw[<- Bool.decide_and];exact decide_eq_decide.mpr ⟨λh=>⟨h.1.1,h.1.2,h.2.1,h.2.2⟩,λh=>⟨⟨h.1,h.2.1⟩,h.2.2.1,h.2.2.2⟩⟩
theorem LA (h:xs.length=2):xK (.tup xs)=xs.all isI:=by
 match xs,h with
 |[a,b],_=>simp[xK]
theorem LB (h:xs.length≠2):xK (.tup xs)=false:=by
 match xs,h with
 |[],_=>rfl
 |[_],_=>rfl
 |[_,_],h=>exact absurd rfl h
 |_::_::_::_,_=>rfl
theorem LC {d:D}(h:isT d=false):xK d=false:=by
 cases d <;> first|rfl|cases h
noncomputable def upB (ks:Aa (Aa Ak)):As:=(ks.zip (ks.drop 1)).all λp=>_H.lexLt p.1 p.2
noncomputable def vQ:D->As
 |.tup xs=>decide (1<=xs.length/\xs.length<=40)&&xs.all xK&&(match xV xs with|some ks=>upB ks|none=>false)
 |_=>false
theorem aR {a b:Ak}{d:D}(h:inR a b d=true):∃ i,d=.int i/\a<=i/\i<=b:=by
 cases d <;> first|exact⟨_,rfl,Bv h⟩|cases h
theorem VP {d:D}(h:xK d=true):∃ q,d=ptD q/\InB 1000 q:=by
 unfold xK at h
 split at h
 .rw[Ax] at h
  obtain⟨x,rfl,Y⟩:=aR h.1;obtain⟨y,rfl,J⟩:=aR h.2;exact⟨(x,y),rfl,Y.1,Y.2,J.1,J.2⟩
 .cases h
theorem eO:∀ {xs:Aa D},xs.all xK=true->∃ Y:Aa Pt,xs=Y.map ptD/\∀ q∈Y,InB 1000 q
 |[],_=>⟨[],rfl,λ_ h=>by cases h⟩
 |d::G,h=>by
  rw[Sk,Ax] at h;obtain⟨Y,rfl,U⟩:=eO h.2;obtain⟨q,rfl,J⟩:=VP h.1;refine⟨q::Y,rfl,λz hz=>?_⟩;rcases Az.mp hz with rfl|hz
  .exact J
  .exact U z hz
theorem CH (a b:Aa Ak)(S:Sto):n8 (tpD a) (tpD b) S=.ok (.bl (_H.lexLt a b)) S:=by
 unfold n8 tpD;simp only[lP]
theorem tH:∀ (ks:Aa (Aa Ak)),upB ks=true↔ks.Pairwise (λa b=>_H.lexLt a b=true)
 |[]=>by simp[upB]
 |[a]=>by simp[upB]
 |a::b::r=>by
  have U:=tH (b::r);have e:upB (a::b::r)=(_H.lexLt a b&&upB (b::r)):=by simp[upB]
  rw[e,Ax,U,Eu (a:=a)];constructor
  .rintro⟨J,Y⟩
   refine⟨λx hx=>?_,Y⟩;rcases Az.mp hx with rfl|hx
   .exact J
   .exact _S.gH.tr J ((Eu.mp Y).1 x hx)
  .rintro⟨J,Y⟩
   exact⟨J b (by simp),Y⟩
theorem EW (ks Y:Aa (Aa Ak)):vB (ks.map tpD) (Y.map tpD)=(ks.zip Y).map λp=>D.tup [tpD p.1,tpD p.2]:=by
 unfold vB
 induction ks generalizing Y with
 |nil=>rfl
 |cons k ks J =>
  cases Y with
  |nil=>rfl
  |cons m Y=>exact congrArg (_::·) (J Y)
theorem B9 {d:D}(h:isT d=false):vQ d=false:=by
 cases d <;> first|rfl|cases h
theorem VO {M:Ai}(N:M<=40){l:Aa Pt}(h:Lot M l):vQ (yA l)=true:=by
 show (decide (1<=(l.map ptD).length/\(l.map ptD).length<=40)&&(l.map ptD).all xK&&(match xV (l.map ptD) with|some ks=>upB ks|none=>false))=true
 have J:1<=(l.map ptD).length/\(l.map ptD).length<=40:=by
  rw[Aq];exact⟨IN.mpr h.ne,by have:=h.len;lia⟩
 have Y:(l.map ptD).all xK=true:=by
  rw[Ls];exact Cb.mpr λq U=>(BA q).trans (Dl (h.box q U))
 have G:upB (l.map kP)=true:=by
  rw[tH,Ep];exact h.up
 rw[Dl J,Y,uT,yS];exact G
theorem nP (h:¬ xs.Nodup):vQ (.tup xs)=false:=by
 cases e:vQ (.tup xs) with
 |false=>rfl
 |true =>
  have U:(decide (1<=xs.length/\xs.length<=40)&&xs.all xK&&(match xV xs with|some ks=>upB ks|none=>false))=true:=e
  rw[Ax,Ax] at U;obtain⟨O,rfl,_⟩:=eO U.1.2;have N:=U.2;rw[uT,yS] at N;refine absurd ?_ h;have u:=(tH _).mp N;rw[Ep] at u;rw[Qm,Ep];refine u.imp λ{a b} Y z=>?_;have:kP a=kP b:=by
   injection z with z
   injection z with G J
   injection G with G
   injection J with J _
   injection J with J
   show [a.1,a.2]=[b.1,b.2];rw[G,J]
  rw[this,_S.gH.irr] at Y;cases Y
theorem nO {x:D}(Y:x∈xs)(h:xK x=false):vQ (.tup xs)=false:=by
 show (decide (1<=xs.length/\xs.length<=40)&&xs.all xK&&(match xV xs with|some ks=>upB ks|none=>false))=false
 have:xs.all xK=false:=by
  rw[List.all_eq_false];exact⟨x,Y,by rw[h];simp⟩
 rw[this,Ln,Hj]
theorem BP (h:40<xs.length):vQ (.tup xs)=false:=by
 show (decide (1<=xs.length/\xs.length<=40)&&xs.all xK&&(match xV xs with|some ks=>upB ks|none=>false))=false
 rw[Ds li,Hj,Hj]
def NoL (d:D):Prop:=Pn d/\vQ d=false
theorem HA (xs:Aa D):xF xs (Ab 1) none=xs.drop 1:=by
 unfold xF;have J:_H.sIx xs.length 0 (Ab 1)=min 1 xs.length:=rfl;have Y:_H.sIx xs.length xs.length none=xs.length:=rfl;rw[J,Y];cases xs with
 |nil=>rfl
 |cons x r=>simp
theorem GP (xs:Aa D)(x:D):xF (xs++[x]) (Ab (-1)) none=[x]:=by
 unfold xF;have J:_H.sIx (xs++[x]).length (xs++[x]).length none=(xs++[x]).length:=rfl;have Y:_H.sIx (xs++[x]).length 0 (Ab (-1))=xs.length:=by
  show (if (-1:Ak)<0 then ((-1:Ak)+((xs++[x]).length:Ak)).toNat else min (-1:Ak).toNat (xs++[x]).length)=_
  rw[Be li,Cf];simp only[Ca,Fh]
  lia
 rw[J,Y];simp
theorem TR (xs:Aa D)(n:Ai)(h:n<=xs.length):xF xs (Ab (n:Ak)) none=xs.drop n:=by
 unfold xF;have J:_H.sIx xs.length xs.length none=xs.length:=rfl;have Y:_H.sIx xs.length 0 (Ab (n:Ak))=min n xs.length:=by
  show (if (n:Ak)<0 then ((n:Ak)+(xs.length:Ak)).toNat else min (n:Ak).toNat xs.length)=_
  rw[Bg li,Fa]
 rw[J,Y,Kx h];exact Jg (by rw[Hx];exact Av _)
theorem ZN (xs:Aa D)(n:Ai)(h:n<=xs.length):xF xs none (Ab (n:Ak))=xs.take n:=by
 unfold xF;have J:_H.sIx xs.length 0 none=0:=rfl;have Y:_H.sIx xs.length xs.length (Ab (n:Ak))=min n xs.length:=by
  show (if (n:Ak)<0 then ((n:Ak)+(xs.length:Ak)).toNat else min (n:Ak).toNat xs.length)=_
  rw[Bg li,Fa]
 rw[J,Y,Kx h];rfl
theorem gN (n:Ai):_H.stepN n (-1)=n:=by
 unfold _H.stepN _H.stepLo _H.stepHi Fw Gq;simp
 split <;> lia
theorem WZ (xs:Aa D)(x:D):x∈_H.stepL (xs++[x]) (-1):=by
 unfold _H.stepL;refine Gz.mpr ⟨0,Du.mpr (by rw[gN];simp),?_⟩
 have h:_H.stepLo (xs++[x]).length (-1)=(xs.length:Ak):=by
  unfold _H.stepLo Fw;simp
 rw[h];simp
theorem WY {k:Ak}{x:D}(h:x∈_H.stepL xs k):x∈xs:=by
 unfold _H.stepL at h;obtain⟨m,_,e⟩:=Gz.mp h;exact Bq e
theorem DQ {a:Aa D}{k:Ai}(l:a.length*k<=lim/\k<1000)(h:Q (.lst (Dg k a).flatten) S):Ok (bA (.lst a) (.int (k:Ak)) S) Q:=by
 refine⟨_,_,?_,h⟩;unfold bA;have c:0<=(k:Ak)/\(k:Ak)<2 ^ 62/\a.length*(k:Ak).toNat<=lim:=⟨by lia,by lia,by rw[Fa];exact l.1⟩
 refine(Be c).trans ?_;rw[Fa]
theorem DV {a:Aa D}(l:a.length<=1000)(h:Q (.tup (_H.stepL a (-1))) S):Ok (dY (.tup a) (.int (-1)) S) Q:=⟨_,_,Be ⟨by lia,by lia,by rw[gN];unfold lim;lia⟩,h⟩
theorem YO (xs:Aa D)(i:Ai):xF xs (Ab ((i:Ak)+1)) none=xs.drop (i+1):=by
 unfold xF;have Y:_H.sIx xs.length 0 (Ab ((i:Ak)+1))=min (i+1) xs.length:=by
  have:((i:Ak)+1)=((i+1:Ai):Ak):=by lia
  rw[this,_H.sIx_nat]
 rw[Y,_H.sIx_none];by_cases h:i+1<=xs.length
 .rw[Kx h,Jg (by simp)]
 .have:xs.drop (i+1)=[]:=Nz li
  rw[this,Ua li];simp
noncomputable def eL:Ai->Aa D->Aa D
 |_,[]=>[]
 |k,x::xs=>D.tup [.int (k:Ak),x]::eL (k+1) xs
theorem rJ (xs:Aa D):yI xs=eL 0 xs:=by
 have Y:∀ (xs:Aa D) (k:Ai),(xs.mapIdx λi x=>D.tup [.int ((i+k:Ai):Ak),x])=eL k xs:=by
  intro xs
  induction xs with
  |nil=>intro k;rfl
  |cons x xs J =>
   intro k;rw[List.mapIdx_cons];show _::_=D.tup [.int (k:Ak),x]::eL (k+1) xs
   congr 1
   .simp
   .rw[<- J (k+1)]
    congr 1
    funext i y
    congr 4
    lia
 have:=Y xs 0;simpa [yI] using this
noncomputable def far (p q:Pt):Ak:=(p.1-q.1)*(p.1-q.1)+(p.2-q.2)*(p.2-q.2)
noncomputable def w6:Aa Pt->Aa (Pt × Pt)
 |[]=>[]
 |p::Y=>Y.map (λq=>(p,q))++w6 Y
noncomputable def pH (x:Pt × Pt):Ak:=far x.1 x.2
noncomputable def fars (l:Aa Pt):Aa Ak:=(w6 l).map pH
noncomputable def prD (x:Pt × Pt):D:=.tup [ptD x.1,ptD x.2]
structure GI {β : Type}(key:β->Ak)(enc:β->D)(n:Ai)(prs:Aa β)(kvs:Aa (_L.Key × D))(S:Sto):Prop where
 dict:S[n]? = Ab (.dct kvs)
 lists:∀ kv∈kvs,∃ (f:Ak) (j:Ai),kv=(.inl f,.loc j)/\n<j/\S[j]? = Ab (.lst ((prs.filter λx=>key x == f).map enc))
 nd:(kvs.map (·.2)).Nodup
 keys:kvs.map (·.1)=((prs.map key).foldl Bz []).map Iu
set_option tactic.hygienic true in
theorem JG {l:Aa Ak}{k x:Ak}:x∈Bz l k↔x∈l\/x=k:=by
 unfold Bz
 split
 .rename_i h
  simp at h;constructor
  .exact λz=>.inl z
  .rintro (z|rfl)
   .exact z
   .exact h
 .simp
theorem MA {l:Aa Ak}{k:Ak}(h:k∈l):Bz l k=l:=by
 unfold Bz;rw[Be (by simpa using h)]
theorem JH {l:Aa Ak}{k:Ak}(h:k ∉ l):Bz l k=l++[k]:=by
 unfold Bz;rw[Bg (by simpa using h)]
theorem fM:∀ {l:Aa Ak} {x:Ak},x∈ks.foldl Bz l↔x∈l\/x∈ks:=by
 induction ks with
 |nil=>intro l x;simp
 |cons k ks Y =>
  intro l x;rw[Ks,Y,JG,Az];constructor
  .rintro ((h|h)|h)
   .exact .inl h
   .exact .inr (.inl h)
   .exact .inr (.inr h)
  .rintro (h|h|h)
   .exact .inl (.inl h)
   .exact .inl (.inr h)
   .exact .inr h
theorem fL:∀ {l:Aa Ak},(ks.foldl Bz l).length<=l.length+ks.length:=by
 induction ks with
 |nil=>intro l;simp
 |cons k ks Y =>
  intro l;rw[Ks];have U:=Y (l:=Bz l k);have J:(Bz l k).length<=l.length+1:=by
   unfold Bz
   split <;> simp
  rw[Ca]
  lia
theorem JM {k:_L.Key}{d:D}(h:zT kvs k=Ab d):(k,d)∈kvs:=by
 unfold zT at h;obtain⟨J,Y,rfl⟩:=De.mp h;have U:=AaE Y;have N:=Td Y;have G:J.1=k:=by simpa using U
 subst G;exact N
theorem JL {k:_L.Key}(h:zT kvs k=none):∀ Y∈kvs,Y.1≠k:=by
 unfold zT at h;have J:=Option.map_eq_none_iff.mp h;intro Y U e;have:=Ym.mp J Y U;simp[e] at this
theorem KW {x:D}{k:_L.Key}(Y:S[n]? = Ab (.dct kvs))(J:wO i=Ab k):wG (.loc n) [i,x] S=(match zT kvs k with|some d=>.ok d S|none=>if kvs.length<lim then .ok x (S.set n (.dct (zX kvs k x))) else .bad):=by
 show (match S[n]? with|some (.dct kvs)=>(match wO i with|some k=>(match zT kvs k with|some d=>Res.ok d S|none=>if kvs.length<lim then .ok x (S.set n (.dct (zX kvs k x))) else .bad)|none=>.bad)|_=>.bad)=_
 rw[Y,J]
theorem M1 {x d:D}{k:_L.Key}(Y:S[n]? = Ab (.dct kvs))(J:wO i=Ab k)(hv:zT kvs k=Ab d):wG (.loc n) [i,x] S=.ok d S:=by
 rw[KW Y J,hv]
theorem M0 {x:D}{k:_L.Key}(Y:S[n]? = Ab (.dct kvs))(J:wO i=Ab k)(hv:zT kvs k=none)(U:kvs.length<lim):wG (.loc n) [i,x] S=.ok x (S.set n (.dct (zX kvs k x))):=by
 rw[KW Y J,hv];exact Be U
theorem XU {β γ:Type}{l:Aa β}{f:β->γ}(nd:(l.map f).Nodup){x y:β}(U:x∈l)(G:y∈l)(e:f x=f y):x=y:=by
 obtain⟨a,J,rfl⟩:=Cz.mp U;obtain⟨b,Y,rfl⟩:=Cz.mp G;have:a=b:=(Og nd (h₀:=by simpa using J) (h₁:=by simpa using Y)).mp (by simpa using e)
 subst this;rfl
set_option tactic.hygienic true in
theorem aL:∀ (ks l:Aa Ak),l.Nodup->(ks.foldl Bz l).Nodup:=by
 intro ks
 induction ks with
 |nil=>exact λl h=>h
 |cons k ks G =>
  intro l h;rw[Ks];apply G;unfold Bz
  split
  .exact h
  .rename_i U
   rw[Ho];refine⟨h,by simp,?_⟩
   intro a N b J Y;simp at J U;subst J;subst Y;exact U N
theorem BF (h:kvs.map (·.1)=(ks.foldl Bz []).map Iu):(kvs.map (·.1)).Nodup:=by
 rw[h,Qm,Ep];exact(aL ks [] Nl).imp λY e=>Y (Od e)
theorem T7 {j:Ai}(h:S[j]? = Ab (.lst xs))(Y:xs.length<lim)(d:D):xP (.loc j) [d] S=.ok .non (S.set j (.lst (xs++[d]))):=xA (sC h Y ⟨rfl,rfl⟩)
theorem B0 {β:Type}{Y:β->Ak}{enc:β->D}{J:Aa β}(I:GI Y enc n J kvs S)(x:β)(hl:J.length<lim) :
  ∃ (j:Ai) (s S2:Sto) (g:Aa (_L.Key × D)),wG (.loc n) [.int (Y x),.loc S.length] (S++[.lst []]) = .ok (.loc j) s/\tyD (.loc j) s=Ab "list" /\ xP (.loc j) [enc x] s=.ok .non S2/\GI Y enc n (J++[x]) g S2/\∀ m,m<n->S2[m]? = S[m]?:=by
 have q:n<S.length:=(Aw.mp I.dict).1;have hd:(S++[MO.lst []])[n]? = Ab (.dct kvs):=by rw[Bi q];exact I.dict
 have zf:kvs.length<=J.length:=by
  have c:kvs.length=(kvs.map (·.1)).length:=by simp
  rw[c,I.keys,Aq];have:=fL (ks:=J.map Y) (l:=[]);simpa using this
 have w:kvs.length<lim:=by lia
 have ze:∀ {f:Ak} {j:Ai},((Iu f:_L.Key),D.loc j)∈kvs->n<j/\j<S.length/\S[j]? = Ab (.lst ((J.filter λx=>Y x == f).map enc)):=by
  intro f j O;obtain⟨C,L,e,c,M⟩:=I.lists _ O;cases e;exact⟨c,(Aw.mp M).1,M⟩
 cases hv:zT kvs (.inl (Y x)) with
 |some d =>
  have O:=JM hv;obtain⟨f,j,e,c,M⟩:=I.lists _ O;have e1:f=Y x:=by
   have:=congrArg Ab7 e;exact(Od this).symm
  have e2:d=.loc j:=congrArg Ab8 e;subst e1;subst e2;have zb:=(Aw.mp M).1;have A:(S++[MO.lst []])[j]? = Ab (.lst ((J.filter λy=>Y y == Y x).map enc)):=by rw[Bi zb];exact M
  have zd:((J.filter λy=>Y y == Y x).map enc).length<lim:=by
   rw[Aq];have:=List.length_filter_le (λy=>Y y == Y x) J
   lia
  refine⟨j,S++[MO.lst []],(S++[MO.lst []]).set j (.lst ((J.filter λy=>Y y == Y x).map enc++[enc x])),kvs,?_,?_,?_,⟨?_,?_,I.nd,?_⟩,?_⟩
  .exact M1 hd rfl hv
  .exact bQ A
  .exact T7 A zd _
  .rw[Ce li];exact hd
  .intro G hk
   obtain⟨C,L,rfl,v,E⟩:=I.lists G hk;refine⟨C,L,rfl,v,?_⟩;have N:=(Aw.mp E).1;by_cases H:j=L
   .subst H
    have za:C=Y x:=Od (congrArg Ab7 (XU (f:=(·.2)) I.nd hk O rfl))
    subst za;rw[Dd (by simp;lia)]
    rw[Nb];simp
   .rw[Ce H,Bi N,E]
    have B:(Y x == C)=false:=by
     rw[Iw];rintro rfl;exact H (D.loc.inj (congrArg Ab8 (XU (f:=(·.1)) (BF I.keys) O hk rfl)))
    rw[Nb];simp[B]
  .rw[Ey,Zz]
   show _=(Bz ((J.map Y).foldl Bz []) (Y x)).map Iu;have U:Y x∈(J.map Y).foldl Bz []:=by
    have:(Iu (Y x):_L.Key)∈kvs.map (·.1):=Ci.mpr ⟨_,O,rfl⟩
    rw[I.keys] at this;obtain⟨y,r,e⟩:=Ci.mp this;cases e;exact r
   rw[MA U];exact I.keys
  .intro m O
   rw[Ce li,Bi li]
 |none =>
  have T:=JL hv;have u:zX kvs (.inl (Y x)) (.loc S.length)=kvs++[(.inl (Y x),.loc S.length)]:=by
   unfold zX;rw[Bg];rw[Ic];rintro⟨G,hk,e⟩;exact T G hk (by simpa using e)
  have o:Y x ∉ J.map Y:=by
   intro U;have:(Iu (Y x):_L.Key)∈kvs.map (·.1):=by
    rw[I.keys];exact Ci.mpr ⟨_,fM.mpr (.inr U),rfl⟩
   obtain⟨G,hk,e⟩:=Ci.mp this;exact T G hk e
  have p:((S++[MO.lst []]).set n (.dct (kvs++[(Iu (Y x),.loc S.length)])))[S.length]? = Ab (.lst []):=by
   rw[Ce li];simp
  refine⟨S.length,(S++[MO.lst []]).set n (.dct (kvs++[(.inl (Y x),.loc S.length)])),((S++[MO.lst []]).set n (.dct (kvs++[(.inl (Y x),.loc S.length)]))).set S.length (.lst [enc x]),kvs++[(.inl (Y x),.loc S.length)],?_,?_,?_,⟨?_,?_,?_,?_⟩,?_⟩
  .rw[<- u]
   exact M0 hd rfl hv w
  .exact bQ p
  .have:(0:Ai)<lim:=by decide
   exact T7 p this _
  .rw[Ce li,Dd (by simp;lia)]
  .intro G hk
   rcases By.mp hk with hk|hk
   .obtain⟨C,L,rfl,v,E⟩:=I.lists G hk
    have N:=(Aw.mp E).1;refine⟨C,L,rfl,v,?_⟩;rw[Ce li,Ce li,Bi N,E];have B:(Y x == C)=false:=by
     rw[Iw];intro e;exact T _ hk (by rw[e])
    rw[Nb];simp[B]
   .have:G=(.inl (Y x),.loc S.length):=by simpa using hk
    subst this;refine⟨Y x,S.length,rfl,q,?_⟩;rw[Dd (by simp)]
    have:(J.filter λy=>Y y == Y x)=[]:=by
     rw[Vn];intro y r e;exact o (by rw[<- (by simpa using e:Y y=Y x)];exact Ci.mpr ⟨y,r,rfl⟩)
    rw[Nb,this];simp
  .rw[Ey,Ho]
   refine⟨I.nd,by simp,?_⟩
   intro a ha b hb zc;simp at hb;subst hb;subst zc;obtain⟨G,hk,e⟩:=Ci.mp ha;obtain⟨C,L,rfl,v,E⟩:=I.lists G hk;have N:=(Aw.mp E).1;have:L=S.length:=D.loc.inj e
   lia
  .rw[Ey,I.keys,Ey,Zz]
   show _=(Bz ((J.map Y).foldl Bz []) (Y x)).map Iu;have U:Y x ∉ (J.map Y).foldl Bz []:=by
    intro h;rcases fM.mp h with h|h
    .simp at h
    .exact o h
   rw[JH U,Ey];rfl
  .intro m O
   rw[Ce li,Ce li,Bi li]
theorem fB (l:Aa Pt):(w6 l).length<=l.length*l.length:=by
 induction l with
 |nil=>simp[w6]
 |cons p l Y =>
  have e:(p::l).length*(p::l).length=l.length*l.length+l.length+l.length+1:=by
   simp only[Ca,Nat.add_mul,Wc]
   lia
  rw[e];simp only[w6,Cf,Aq]
  lia
theorem R6 {Y:Sto}(h:∀ m,m<S.length->Y[m]? = S[m]?):S<+:Y:=by
 rw[Tn];intro i J;rw[h i J,Ap J]
theorem CI {l:Aa Pt}(h:l.length<=41):(w6 l).length<4000:=by
 have J:=fB l;have Y:l.length*l.length<=41*41:=Nm h h
 lia
noncomputable def kys (fs:Aa Ak):Aa Ak:=fs.foldl Bz []
noncomputable def tbK (fs:Aa Ak):Aa (Aa Ak):=(kys fs).map λf=>[f,(fs.count f:Ak)]
noncomputable def tbl (fs:Aa Ak):Aa (Aa Ak):=_S.wJ _H.lexLt (tbK fs)
theorem uE {fs:Aa Ak}{x:Ak}:x∈kys fs↔x∈fs:=by
 unfold kys;rw[fM];simp
theorem LW (fs:Aa Ak):(kys fs).Nodup:=aL fs [] Nl
theorem cQ {α:Type}[dL α]{a b:Aa α}(Y:a.Nodup)(J:b.Nodup)(h:∀ x,x∈a↔x∈b):a.Perm b:=by
 rw[List.perm_iff_count];intro x;rw[Y.count,J.count];simp only[h]
theorem VF (Y:Aa (Pt × Pt))(f:Ak):(Y.filter λx=>pH x == f).length=(Y.map pH).count f:=by
 rw[List.count,AaA,Qp];rfl
noncomputable def ctD (fs:Aa Ak)(k:_L.Key):D:=match k with
 |.inl f=>.tup [.int f,.int (fs.count f:Ak)]
 |.inr _=>.non
theorem M5 (ks:Aa (Aa Ak))(C:ks.length<=100000)(B:∀ k∈ks,k≠[]):vS (ks.map tpD)=Ab ((_S.wJ _H.lexLt ks).map tpD):=by
 unfold vS;cases ks with
 |nil =>
  have N:_S.wJ _S.ltI [] = []:=Na;have J:_S.wJ _H.lexLt [] = []:=Na;show (if ([] : Aa Ak).length<=100000 then Ab ((_S.wJ _S.ltI []).map D.int) else none)=_
  rw[N,J,Be (by simp)]
  rfl
 |cons k r =>
  have U:xS ((k::r).map tpD)=none:=rfl;rw[U,yS];have Y:((k::r).all λk=>!k.isEmpty)=true:=Cb.mpr λq G=>by
   have:=B q G;cases q with
   |nil=>exact absurd rfl this
   |cons _ _=>rfl
  have O:(decide ((k::r).length<=100000)&&(k::r).all λk=>!k.isEmpty)=true:=by rw[Y,Dl C];rfl
  show (if (decide ((k::r).length<=100000)&&(k::r).all λk=>!k.isEmpty)=true then _ else _)=_
  rw[Be O]
theorem aH {p q:Pt}(h:p≠q):0<far p q:=by
 unfold far;have s:∀ x:Ak,0<=x*x:=λx=>by rw[<- WF x];exact Lp li li
 have z:∀ x:Ak,x≠0->0<x*x:=λx Y=>by
  rcases Int.lt_trichotomy x 0 with y|y|y
  .exact Int.mul_pos_of_neg_of_neg y y
  .exact absurd y Y
  .exact Int.mul_pos y y
 have N:=s (p.1-q.1);have G:=s (p.2-q.2);by_cases J:p.1=q.1
 .have U:p.2≠q.2:=λe=>h (Lq J e)
  have:=z (p.2-q.2) li
  lia
 .have:=z (p.1-q.1) li
  lia
theorem tX (p q:Pt):far p q=far q p:=by
 have e:∀ a b:Ak,(a-b)*(a-b)=(b-a)*(b-a):=λa b=>by
  rw[<- Int.neg_sub b a,Vo]
 unfold far;rw[e p.1 q.1,e p.2 q.2]
theorem x8 (p:Pt)(l:Aa Pt):fars (p::l)=l.map (far p)++fars l:=by
 unfold fars;rw[w6,Ey,Gk];rfl
theorem X2 {l m:Aa Pt}(h:l.Perm m):(fars l).Perm (fars m):=by
 induction h with
 |nil=>exact Kb _
 |cons x h J=>rw[x8,x8];exact(h.map _).append J
 |swap x y l =>
  rw[x8,x8,x8,x8,Ek,Ek,tX y x,Jh,Jh];refine List.Perm.cons _ ?_;rw[<- Cs,<- Cs];exact Jf _ Ia
 |trans _ _ U Y=>exact U.trans Y
end _D
namespace _K
open PySem PySem.Spec PyProof.Rows _L _D
noncomputable def top (i:Ai):EQ:=Py.main.body.getD i (.Pass ⟨0,0,0,0⟩)
structure Cl where
 (FarError NoPoint NoLot NoNumber NoCircle NoMarks NoFars NoText NoLine NoDeed Alike TooMany:Af)
noncomputable def xW (c:Cl):Aa Af:=[c.NoPoint,c.NoLot,c.NoNumber,c.NoCircle,c.NoMarks,c.NoFars,c.NoText,c.NoLine,c.NoDeed,c.Alike,c.TooMany]
noncomputable def p9 (c:Cl):Aa Ac:=[.ref c.NoPoint,.ref c.NoLot,.ref c.NoNumber,.ref c.NoCircle,.ref c.NoMarks,.ref c.NoFars,.ref c.NoText,.ref c.NoLine,.ref c.NoDeed]
noncomputable abbrev clt (c:Cl):Aa (Ar × Af):=[("FarError",c.FarError),("NoPoint",c.NoPoint),("NoLot",c.NoLot),("NoNumber",c.NoNumber),("NoCircle",c.NoCircle),("NoMarks",c.NoMarks),("NoFars",c.NoFars),("NoText",c.NoText),("NoLine",c.NoLine),("NoDeed",c.NoDeed),("Alike",c.Alike),("TooMany",c.TooMany)]
noncomputable abbrev plt (c:Cl):Aa (Ar × Af):=[("NoPoint",c.NoPoint),("NoLot",c.NoLot),("NoNumber",c.NoNumber),("NoCircle",c.NoCircle),("NoMarks",c.NoMarks),("NoFars",c.NoFars),("NoText",c.NoText),("NoLine",c.NoLine),("NoDeed",c.NoDeed)]
noncomputable abbrev cst:Aa (Ar × Ak):=[("LEAST_NUMBER",-1000),("MOST_NUMBER",1000),("MOST_POINTS",40)]
noncomputable abbrev bl:Aa Ar:=["ValueError","all","bool","divmod","enumerate","int","isinstance","len","list","max","range","set","sorted","str","tuple","zip"]
noncomputable abbrev tab:Aa (Ar × Ai × Aa Ar):=[(("is_whole" : Ar),(14:Ai),[("thing" : Ar)]),(("is_within" : Ar),(15:Ai),[("thing" : Ar),("least" : Ar),("most" : Ar)]),(("is_rising" : Ar),(16:Ai),[("some" : Ar)]),(("need_within" : Ar),(17:Ai),[("thing" : Ar),("least" : Ar),("most" : Ar)]),(("is_point" : Ar),(22:Ai),[("thing" : Ar)]),(("is_lot" : Ar),(23:Ai),[("thing" : Ar)]),(("need_lot" : Ar),(24:Ai),[("thing" : Ar)]),(("far_between" : Ar),(25:Ai),[("one" : Ar),("other" : Ar)]),(("pairs_by_far" : Ar),(26:Ai),[("points" : Ar)]),(("far_table" : Ar),(27:Ai),[("lot" : Ar)]),(("fars" : Ar),(28:Ai),[("lot" : Ar)]),(("many_fars" : Ar),(30:Ai),[("lot" : Ar)]),(("least_where" : Ar),(32:Ai),[("holds" : Ar),("most" : Ar)]),(("many_pairs" : Ar),(33:Ai),[("n" : Ar)]),(("by_hull" : Ar),(34:Ai),[("n" : Ar)]),(("pairs_of_shares" : Ar),(35:Ai),[("whole" : Ar),("n" : Ar)]),(("pair_bound" : Ar),(36:Ai),[("n" : Ar)]),(("by_pairs" : Ar),(37:Ai),[("n" : Ar)]),(("bar" : Ar),(38:Ai),[("n" : Ar)]),(("spare" : Ar),(39:Ai),[("lot" : Ar)]),(("_law_kinds" : Ar),(41:Ai),[("_law_e" : Ar)]),(("_law_refused" : Ar),(42:Ai),[("_law_call" : Ar)]),(("_law_same" : Ar),(43:Ai),[("_law_found" : Ar),("_law_due" : Ar)]),(("_law_cell" : Ar),(44:Ai),[("_law_script" : Ar),("_law_k" : Ar)]),(("_law_pen" : Ar),(45:Ai),[("_law_cell_here" : Ar)]),(("_law_draw" : Ar),(46:Ai),[("_law_pen_here" : Ar),("_law_many" : Ar)]),(("_law_far" : Ar),(47:Ai),[("_law_one" : Ar),("_law_other" : Ar)]),(("_law_circle" : Ar),(48:Ai),[("_law_number" : Ar)]),(("_law_rich" : Ar),(49:Ai),[("_law_pen_here" : Ar),("_law_most" : Ar)]),(("_law_lot" : Ar),(50:Ai),[("_law_pen_here" : Ar),("_law_most" : Ar)]),(("_law_no_lot" : Ar),(51:Ai),[("_law_pen_here" : Ar),("_law_lot_here" : Ar)]),(("law" : Ar),(52:Ai),[("_law_script" : Ar)])]
abbrev Txt (K:Aj)(mg:Ar->Am Ac)(c:Cl):Prop:=TxS K mg top tab bl (clt c) (plt c) (p9 c) (xW c) cst
noncomputable abbrev LY:Aa Ar:=["by_hull","pair_bound","law"]
@[reducible] def b_is_whole:DS:=z9 (pC (qL x5 (qA (qB 0) (qA (dC (.ty "int")) (qC)))) (YS (qL x5 (qA (qB 0) (qA (dC (.ty "bool")) (qC))))))
@[irreducible] def S_is_whole:DF:=sh (qP 1 b_is_whole)
theorem gU:S_is_whole=qP 1 b_is_whole:=by delta S_is_whole;exact zK _
@[reducible] def b_is_within:DS:=z9 (pC (qM 1 S_is_whole (qA (qB 0) (qC))) (wL gLe gLe (qB 1) (qB 0) (qB 2)))
@[irreducible] def S_is_within:DF:=sh (qP 3 b_is_within)
theorem k8:S_is_within=qP 3 b_is_within:=by delta S_is_within;exact zK _
@[reducible] def b_is_rising:DS:=z9 (qL (pG false) (qA (zI false [none,none] (xT (tQ (qA (qB 0) (qA (dSl (qB 0) (xJ (dC (.int 1))) (wN)) (qC))))) (gTp 2 (zP (gNm 0) (zP (gNm 1) (yJ)))) (wM) (zY (d2 n8 (qB 0) (qB 1)))) (qC)))
@[irreducible] def S_is_rising:DF:=sh (qP 1 b_is_rising)
theorem jZ:S_is_rising=qP 1 b_is_rising:=by delta S_is_rising;exact zK _
@[reducible] def b_need_within (c:Cl):DS:=sIf (yH (dTr (qM 3 S_is_within (qA (qB 0) (qA (qB 1) (qA (qB 2) (qC))))))) (uY (.ref c.NoNumber) (qA (oN [dC (.str "a whole number from "),d1 tZ (qB 1),dC (.str " to "),d1 tZ (qB 2),dC (.str " is needed")]) (qC))) (zV)
@[irreducible] def S_need_within (c:Cl):DF:=sh (qP 3 (b_need_within c))
theorem uK (c:Cl):S_need_within c=qP 3 (b_need_within c):=by delta S_need_within;exact zK _
@[reducible] def b_is_point:DS:=qN (sIf (kO (yH (dTr (qL x5 (qA (qB 0) (qA (dC (.ty "tuple")) (qC)))))) (dTr (d2 gNe (qL xM (qA (qB 0) (qC))) (dC (.int 2))))) (z9 (dC (.bl false))) (zV)) (z9 (qL (pG false) (qA (zI false [none] (dIt (qB 0)) (gNm 0) (wM) (zY (qM 3 (okO S_is_within) (qA (qB 0) (qA (dC (.int (-1000))) (qA (dC (.int (1000))) (qC))))))) (qC))))
@[irreducible] def S_is_point:DF:=sh (qP 1 b_is_point)
theorem gT:S_is_point=qP 1 b_is_point:=by delta S_is_point;exact zK _
@[reducible] def b_is_lot:DS:=qN (sIf (kO (yH (dTr (qL x5 (qA (qB 0) (qA (dC (.ty "tuple")) (qC)))))) (yH (dTr (wL gLe gLe (dC (.int 1)) (qL xM (qA (qB 0) (qC))) (dC (.int (40))))))) (z9 (dC (.bl false))) (zV)) (z9 (pC (qL (pG false) (qA (zI false [none] (dIt (qB 0)) (gNm 0) (wM) (zY (qM 1 (okO S_is_point) (qA (qB 0) (qC))))) (qC))) (qM 1 S_is_rising (qA (qB 0) (qC)))))
@[irreducible] def S_is_lot:DF:=sh (qP 1 b_is_lot)
theorem bU:S_is_lot=qP 1 b_is_lot:=by delta S_is_lot;exact zK _
@[reducible] def b_need_lot (c:Cl):DS:=sIf (yH (dTr (qM 1 S_is_lot (qA (qB 0) (qC))))) (uY (.ref c.NoLot) (qA (dC (.str "a lot is needed")) (qC))) (zV)
@[irreducible] def S_need_lot (c:Cl):DF:=sh (qP 1 (b_need_lot c))
theorem u3 (c:Cl):S_need_lot c=qP 1 (b_need_lot c):=by delta S_need_lot;exact zK _
@[reducible] def b_far_between:DS:=qN (qV (d2 xC (d2 gIx (qB 0) (dC (.int 0))) (d2 gIx (qB 1) (dC (.int 0)))) (gNm 2)) (qN (qV (d2 xC (d2 gIx (qB 0) (dC (.int 1))) (d2 gIx (qB 1) (dC (.int 1)))) (gNm 3)) (z9 (d2 zG (d2 zJ (qB 2) (qB 2)) (d2 zJ (qB 3) (qB 3)))))
@[irreducible] def S_far_between:DF:=sh (qP 4 b_far_between)
theorem uJ:S_far_between=qP 4 b_far_between:=by delta S_far_between;exact zK _
@[reducible] def b_pairs_by_far:DS:=qN (qV (tP) (gNm 1)) (qN (u4 (mE (qA (qB 0) (qC))) (gTp 2 (zP (gNm 2) (zP (gNm 3) (yJ)))) (u4 (uM (dSl (qB 0) (xJ (d2 zG (qB 2) (dC (.int 1)))) (wN))) (gNm 4) (xY (dBm "list" xP (dBm "dict" wG (qB 1) (qA (qM 2 S_far_between (qA (qB 3) (qA (qB 4) (qC)))) (qA (jE (qC)) (qC)))) (qA (zA (qA (qB 3) (qA (qB 4) (qC)))) (qC)))))) (z9 (qB 1)))
@[irreducible] def S_pairs_by_far:DF:=sh (qP 5 b_pairs_by_far)
theorem u7:S_pairs_by_far=qP 5 b_pairs_by_far:=by delta S_pairs_by_far;exact zK _
@[reducible] def b_far_table (c:Cl):DS:=qN (xY (qM 1 (S_need_lot c) (qA (qB 0) (qC)))) (z9 (qL vF (qA (zI false [none,none] (xT (mF (qM 1 S_pairs_by_far (qA (qB 0) (qC))))) (gTp 2 (zP (gNm 0) (zP (gNm 1) (yJ)))) (wM) (zY (zA (qA (qB 0) (qA (qL xM (qA (qB 1) (qC))) (qC)))))) (qC))))
@[irreducible] def S_far_table (c:Cl):DF:=sh (qP 1 (b_far_table c))
theorem vD (c:Cl):S_far_table c=qP 1 (b_far_table c):=by delta S_far_table;exact zK _
@[reducible] def b_fars (c:Cl):DS:=z9 (zI false [none,none] (dIt (qM 1 (S_far_table c) (qA (qB 0) (qC)))) (gTp 2 (zP (gNm 0) (zP (gNm 1) (yJ)))) (wM) (zY (qB 0)))
@[irreducible] def S_fars (c:Cl):DF:=sh (qP 1 (b_fars c))
theorem p6 (c:Cl):S_fars c=qP 1 (b_fars c):=by delta S_fars;exact zK _
@[reducible] def b_many_fars (c:Cl):DS:=z9 (qL xM (qA (qM 1 (S_fars c) (qA (qB 0) (qC))) (qC)))
@[irreducible] def S_many_fars (c:Cl):DF:=sh (qP 1 (b_many_fars c))
theorem vE (c:Cl):S_many_fars c=qP 1 (b_many_fars c):=by delta S_many_fars;exact zK _
@[reducible] def b_least_where (G:Aa D->DF)(a:Af)(Q:Aa V):DS:=qN (qV (dC (.int 0)) (gNm 2)) (qN (qV (qB 1) (gNm 3)) (qN (pR (dTr (d2 gLt (qB 2) (qB 3))) (qN (qV (d2 jO (d2 zG (qB 2) (qB 3)) (dC (.int 2))) (gNm 4)) (sIf (dTr (yV 0 (qA (qB 4) (qC)) a Q 1 G)) (qV (qB 4) (gNm 3)) (qV (d2 zG (qB 4) (dC (.int 1))) (gNm 2))))) (z9 (qB 2))))
@[reducible] def b_many_pairs:DS:=z9 (d2 jO (d2 zJ (qB 0) (d2 xC (qB 0) (dC (.int 1)))) (dC (.int 2)))
@[irreducible] def S_many_pairs:DF:=sh (qP 1 b_many_pairs)
theorem jA:S_many_pairs=qP 1 b_many_pairs:=by delta S_many_pairs;exact zK _
@[reducible] def b_by_hull (c:Cl):DS:=qN (xY (qM 3 (S_need_within c) (qA (qB 0) (qA (dC (.int 1)) (qA (d2 pJ (dC (.int 10)) (dC (.int 18))) (qC)))))) (z9 (yE false [0] 2 5 (qA (d2 pJ (dC (.int 10)) (dC (.int 9))) (qC)) (b_least_where (vI (d2 gGe (d2 zG (d2 zJ (qB 0) (qB 0)) (qB 0)) (d2 xC (qB 1) (dC (.int 1))))))))
@[irreducible] def S_by_hull (c:Cl):DF:=sh (qP 1 (b_by_hull c))
theorem p5 (c:Cl):S_by_hull c=qP 1 (b_by_hull c):=by delta S_by_hull;exact zK _
@[reducible] def b_pairs_of_shares:DS:=qN (qV (qL b7 (qA (qB 0) (qA (qB 1) (qC)))) (gTp 2 (zP (gNm 2) (zP (gNm 3) (yJ))))) (z9 (d2 zG (d2 zJ (qB 1) (qM 1 S_many_pairs (qA (qB 2) (qC)))) (d2 zJ (qB 3) (qB 2))))
@[irreducible] def S_pairs_of_shares:DF:=sh (qP 4 b_pairs_of_shares)
theorem yT:S_pairs_of_shares=qP 4 b_pairs_of_shares:=by delta S_pairs_of_shares;exact zK _
@[reducible] def b_pair_bound (c:Cl):DS:=qN (xY (qM 3 (S_need_within c) (qA (qB 0) (qA (dC (.int 1)) (qA (d2 pJ (dC (.int 10)) (dC (.int 6))) (qC)))))) (z9 (d2 xC (yE false [0] 2 5 (qA (d2 zJ (qB 0) (qB 0)) (qC)) (b_least_where (vI (d2 gGt (qM 2 S_pairs_of_shares (qA (d2 zJ (dC (.int 2)) (qB 0)) (qA (qB 1) (qC)))) (d2 zJ (qB 1) (d2 xC (qB 1) (dC (.int 1)))))))) (dC (.int 1))))
@[irreducible] def S_pair_bound (c:Cl):DF:=sh (qP 1 (b_pair_bound c))
theorem jB (c:Cl):S_pair_bound c=qP 1 (b_pair_bound c):=by delta S_pair_bound;exact zK _
@[reducible] def b_by_pairs (c:Cl):DS:=qN (qV (qM 1 (S_pair_bound c) (qA (qB 0) (qC))) (gNm 1)) (z9 (dIf (dTr (d2 gEq (qB 0) (dC (.int 1)))) (dC (.int 0)) (d2 jO (d2 xC (d2 zG (qM 1 S_many_pairs (qA (qB 0) (qC))) (qB 1)) (dC (.int 1))) (qB 1))))
@[irreducible] def S_by_pairs (c:Cl):DF:=sh (qP 2 (b_by_pairs c))
theorem gS (c:Cl):S_by_pairs c=qP 2 (b_by_pairs c):=by delta S_by_pairs;exact zK _
@[reducible] def b_bar (c:Cl):DS:=qN (xY (qM 3 (S_need_within c) (qA (qB 0) (qA (dC (.int 1)) (qA (d2 pJ (dC (.int 10)) (dC (.int 6))) (qC)))))) (z9 (qL dW (qA (qM 1 (S_by_hull c) (qA (qB 0) (qC))) (qA (qM 1 (S_by_pairs c) (qA (qB 0) (qC))) (qC)))))
@[irreducible] def S_bar (c:Cl):DF:=sh (qP 1 (b_bar c))
theorem sO (c:Cl):S_bar c=qP 1 (b_bar c):=by delta S_bar;exact zK _
@[reducible] def b_spare (c:Cl):DS:=z9 (d2 xC (qM 1 (S_many_fars c) (qA (qB 0) (qC))) (qM 1 (S_bar c) (qA (qL xM (qA (qB 0) (qC))) (qC))))
@[irreducible] def S_spare (c:Cl):DF:=sh (qP 1 (b_spare c))
theorem kL (c:Cl):S_spare c=qP 1 (b_spare c):=by delta S_spare;exact zK _
@[reducible] def b__law_kinds (c:Cl):DS:=qN (qV (xB (qA (qL (zQ (xW c)) (qA (qB 0) (qA (dC (.obj c.NoPoint)) (qC)))) (qA (qL (zQ (xW c)) (qA (qB 0) (qA (dC (.obj c.NoLot)) (qC)))) (qA (qL (zQ (xW c)) (qA (qB 0) (qA (dC (.obj c.NoNumber)) (qC)))) (qC))))) (gNm 1)) (qN (qV (d2 zG (qB 1) (xB (qA (qL (zQ (xW c)) (qA (qB 0) (qA (dC (.obj c.NoCircle)) (qC)))) (qA (qL (zQ (xW c)) (qA (qB 0) (qA (dC (.obj c.NoMarks)) (qC)))) (qA (qL (zQ (xW c)) (qA (qB 0) (qA (dC (.obj c.NoFars)) (qC)))) (qC)))))) (gNm 1)) (qN (qV (d2 zG (qB 1) (xB (qA (qL (zQ (xW c)) (qA (qB 0) (qA (dC (.obj c.NoText)) (qC)))) (qA (qL (zQ (xW c)) (qA (qB 0) (qA (dC (.obj c.NoLine)) (qC)))) (qA (qL (zQ (xW c)) (qA (qB 0) (qA (dC (.obj c.NoDeed)) (qC)))) (qC)))))) (gNm 1)) (qN (qV (d2 zG (qB 1) (xB (qA (qL (zQ (xW c)) (qA (qB 0) (qA (dC (.obj c.Alike)) (qC)))) (qA (qL (zQ (xW c)) (qA (qB 0) (qA (dC (.obj c.TooMany)) (qC)))) (qC))))) (gNm 1)) (qN (sIf (kO (yH (dTr (qL (zQ (xW c)) (qA (qB 0) (qA (dC (.ty "ValueError")) (qC)))))) (dTr (d2 gNe (dBm "list" mK (qB 1) (qA (dC (.bl true)) (qC))) (dC (.int 1))))) (z9 (dC (.str "other"))) (zV)) (qN (sIf (dTr (qL (zQ (xW c)) (qA (qB 0) (qA (dC (.obj c.Alike)) (qC))))) (z9 (zA (qA (dC (.str "alike")) (qA (pD) (qA (pD) (qA (pD) (qA (pD) (qC)))))))) (zV)) (qN (sIf (dTr (qL (zQ (xW c)) (qA (qB 0) (qA (dC (.obj c.TooMany)) (qC))))) (z9 (zA (qA (dC (.str "many")) (qA (pD) (qA (pD) (qC)))))) (zV)) (qN (qV (xB (qA (dC (.str "point")) (qA (dC (.str "lot")) (qA (dC (.str "number")) (qA (dC (.str "circle")) (qA (dC (.str "marks")) (qA (dC (.str "fars")) (qA (dC (.str "text")) (qA (dC (.str "line")) (qA (dC (.str "deed")) (qC))))))))))) (gNm 2)) (z9 (d2 gIx (qB 2) (dBm "list" mL (qB 1) (qA (dC (.bl true)) (qC))))))))))))
@[irreducible] def S__law_kinds (c:Cl):DF:=sh (qP 3 (b__law_kinds c))
theorem j9 (c:Cl):S__law_kinds c=qP 3 (b__law_kinds c):=by delta S__law_kinds;exact zK _
@[reducible] def b__law_refused (c:Cl)(G:Aa D->DF)(a:Af)(Q:Aa V):DS:=qN (fW 2 1 (p9 c) (xY (yV 0 (qC) a Q 0 G)) (z9 (qM 1 (S__law_kinds c) (qA (qB 1) (qC))))) (z9 (dC (.str "told")))
@[reducible] def b__law_same (S__law_same:DF):DS:=qN (sIf (dTr (d2 gIs (qB 1) (dC .non))) (z9 (d2 gIs (qB 0) (dC .non))) (zV)) (qN (sIf (dTr (qL kS (qA (qB 1) (qA (zA (qA (dC (.ty "list")) (qA (dC (.ty "tuple")) (qC)))) (qC))))) (qN (sIf (dTr (d2 gNe (qL x5 (qA (qB 1) (qA (dC (.ty "list")) (qC)))) (qL x5 (qA (qB 0) (qA (dC (.ty "list")) (qC)))))) (z9 (dC (.bl false))) (zV)) (qN (sIf (kO (dTr (d2 gNe (qL x5 (qA (qB 1) (qA (dC (.ty "tuple")) (qC)))) (qL x5 (qA (qB 0) (qA (dC (.ty "tuple")) (qC)))))) (dTr (d2 gNe (qL xM (qA (qB 0) (qC))) (qL xM (qA (qB 1) (qC)))))) (z9 (dC (.bl false))) (zV)) (z9 (qL (pG false) (qA (zI false [none,none] (xT (tQ (qA (qB 0) (qA (qB 1) (qC))))) (gTp 2 (zP (gNm 0) (zP (gNm 1) (yJ)))) (wM) (zY (qM 2 (okO S__law_same) (qA (qB 0) (qA (qB 1) (qC)))))) (qC)))))) (zV)) (qN (sIf (dTr (qL x5 (qA (qB 1) (qA (dC (.ty "str")) (qC))))) (z9 (pC (qL x5 (qA (qB 0) (qA (dC (.ty "str")) (qC)))) (d2 gEq (qB 0) (qB 1)))) (zV)) (qN (sIf (dTr (d2 gNe (qL x5 (qA (qB 0) (qA (dC (.ty "bool")) (qC)))) (qL x5 (qA (qB 1) (qA (dC (.ty "bool")) (qC)))))) (z9 (dC (.bl false))) (zV)) (z9 (pC (qL x5 (qA (qB 0) (qA (dC (.ty "int")) (qC)))) (d2 gEq (qB 0) (qB 1)))))))
def tB:Ai->DF
 |0=>λ_ _=>.bad
 |n+1=>qP 2 (b__law_same (tB n))
@[irreducible] def S__law_same:DF:=sh (tB 4)
theorem jY:S__law_same=tB 4:=by delta S__law_same;exact zK _
@[reducible] def b__law_cell:DS:=qN (sIf (dTr (d2 gLt (qB 1) (qL xM (qA (qB 0) (qC))))) (z9 (d2 gIx (qB 0) (qB 1))) (zV)) (z9 (dC (.int 0)))
@[irreducible] def S__law_cell:DF:=sh (qP 2 b__law_cell)
theorem jV:S__law_cell=qP 2 b__law_cell:=by delta S__law_cell;exact zK _
@[reducible] def b__law_pen:DS:=z9 (jE (qA (qB 0) (qA (qL oS (qA (d2 gGe (qB 0) (d2 pJ (dC (.int 10)) (dC (.int 18)))) (qC))) (qC))))
@[irreducible] def S__law_pen:DF:=sh (qP 1 b__law_pen)
theorem gR:S__law_pen=qP 1 b__law_pen:=by delta S__law_pen;exact zK _
@[reducible] def b__law_draw:DS:=qN (sIf (dTr (d2 gEq (d2 gIx (qB 0) (dC (.int 1))) (dC (.int 1)))) (qN (qV (d2 jP (d2 gIx (qB 0) (dC (.int 0))) (qB 1)) (gNm 2)) (qN (qV (d2 jO (d2 gIx (qB 0) (dC (.int 0))) (qB 1)) (gSb (qB 0) (dC (.int 0)) wZ)) (z9 (qB 2)))) (zV)) (qN (qV (d2 jP (d2 zG (d2 zJ (d2 jP (d2 gIx (qB 0) (dC (.int 0))) (dC (.int 2147483629))) (dC (.int 48271))) (dC (.int 11))) (dC (.int 2147483629))) (gSb (qB 0) (dC (.int 0)) wZ)) (z9 (d2 jP (d2 jO (d2 jP (d2 zG (d2 zJ (d2 gIx (qB 0) (dC (.int 0))) (d2 gIx (qB 0) (dC (.int 0)))) (d2 zJ (dC (.int 40692)) (d2 gIx (qB 0) (dC (.int 0))))) (dC (.int 2147483647))) (dC (.int 8))) (qB 1))))
@[irreducible] def S__law_draw:DF:=sh (qP 3 b__law_draw)
theorem jW:S__law_draw=qP 3 b__law_draw:=by delta S__law_draw;exact zK _
@[reducible] def b__law_far:DS:=qN (pQ 2 3 (qA (d2 xC (d2 gIx (qB 0) (dC (.int 0))) (d2 gIx (qB 1) (dC (.int 0)))) (qA (d2 xC (d2 gIx (qB 0) (dC (.int 1))) (d2 gIx (qB 1) (dC (.int 1)))) (qC)))) (z9 (d2 zG (d2 zJ (qB 2) (qB 2)) (d2 zJ (qB 3) (qB 3))))
@[irreducible] def S__law_far:DF:=sh (qP 4 b__law_far)
theorem gP:S__law_far=qP 4 b__law_far:=by delta S__law_far;exact zK _
@[reducible] def b__law_circle:DS:=qN (pQ 1 2 (qA (tP) (qA (xB (qC)) (qC)))) (qN (u4 (yL (qA (dC (.int 1001)) (qC))) (gNm 3) (qV (qB 3) (gSb (qB 1) (d2 zJ (qB 3) (qB 3)) wZ))) (qN (u4 (yL (qA (dC (.int 1001)) (qC))) (gNm 4) (sIf (dTr (d2 n6 (d2 xC (qB 0) (d2 zJ (qB 4) (qB 4))) (qB 1))) (qN (qV (d2 fN (qB 1) (d2 xC (qB 0) (d2 zJ (qB 4) (qB 4)))) (gNm 5)) (qN (qV (d2 zG (qB 2) (xB (qA (zA (qA (qB 4) (qA (qB 5) (qC)))) (qA (zA (qA (d2 xC (dC (.int 0)) (qB 4)) (qA (qB 5) (qC)))) (qA (zA (qA (qB 4) (qA (d2 xC (dC (.int 0)) (qB 5)) (qC)))) (qC)))))) (gNm 2)) (qV (d2 zG (qB 2) (xB (qA (zA (qA (d2 xC (dC (.int 0)) (qB 4)) (qA (d2 xC (dC (.int 0)) (qB 5)) (qC)))) (qC)))) (gNm 2)))) (zV))) (z9 (yP false (qB 2)))))
@[irreducible] def S__law_circle:DF:=sh (qP 6 b__law_circle)
theorem uH:S__law_circle=qP 6 b__law_circle:=by delta S__law_circle;exact zK _
@[reducible] def b__law_rich:DS:=qN (qV (dC (.int 1)) (gNm 2)) (qN (u4 (yL (qA (d2 zG (dC (.int 1)) (qM 2 S__law_draw (qA (qB 0) (qA (dC (.int 6)) (qC))))) (qC))) (gNm 3) (qN (qV (d2 gIx (xB (qA (dC (.int 2)) (qA (dC (.int 5)) (qA (dC (.int 13)) (qA (dC (.int 17)) (qA (dC (.int 4)) (qA (dC (.int 9)) (qA (dC (.int 5)) (qA (dC (.int 29)) (qC)))))))))) (qM 2 S__law_draw (qA (qB 0) (qA (dC (.int 8)) (qC))))) (gNm 4)) (sIf (dTr (d2 gLe (d2 zJ (qB 2) (qB 4)) (qB 1))) (qV (d2 zJ (qB 2) (qB 4)) (gNm 2)) (zV)))) (z9 (qB 2)))
@[irreducible] def S__law_rich:DF:=sh (qP 5 b__law_rich)
theorem jX:S__law_rich=qP 5 b__law_rich:=by delta S__law_rich;exact zK _
@[reducible] def b__law_lot:DS:=qN (pQ 2 3 (qA (qM 2 S__law_draw (qA (qB 0) (qA (dC (.int 6)) (qC)))) (qA (d2 zG (dC (.int 1)) (qM 2 S__law_draw (qA (qB 0) (qA (qB 1) (qC))))) (qC)))) (qN (qV (zA (qA (d2 xC (qM 2 S__law_draw (qA (qB 0) (qA (dC (.int 21)) (qC)))) (dC (.int 10))) (qA (d2 xC (qM 2 S__law_draw (qA (qB 0) (qA (dC (.int 21)) (qC)))) (dC (.int 10))) (qC)))) (gTp 2 (zP (gNm 4) (zP (gNm 5) (yJ))))) (qN (qV (d2 gIx (xB (qA (dC (.int 3)) (qA (dC (.int 6)) (qA (dC (.int 900)) (qC))))) (qM 2 S__law_draw (qA (qB 0) (qA (dC (.int 3)) (qC))))) (gNm 6)) (qN (sIf (dTr (d2 gLt (qB 2) (dC (.int 2)))) (qV (qM 1 S__law_circle (qA (qM 2 S__law_rich (qA (qB 0) (qA (dC (.int 5000)) (qC)))) (qC))) (gNm 7)) (sIf (dTr (d2 gEq (qB 2) (dC (.int 2)))) (qV (zI false [none] (xT (yL (qA (dC (.int 25)) (qC)))) (gNm 0) (wM) (zY (zA (qA (d2 jO (qB 0) (dC (.int 5))) (qA (d2 jP (qB 0) (dC (.int 5))) (qC)))))) (gNm 7)) (sIf (dTr (d2 gEq (qB 2) (dC (.int 3)))) (qN (qV (zI false [none] (xT (yL (qA (dC (.int 20)) (qC)))) (gNm 0) (wM) (zY (zA (qA (d2 zJ (dC (.int 2)) (qB 0)) (qA (d2 zJ (dC (.int 3)) (qB 0)) (qC)))))) (gNm 7)) (qV (d2 zG (qB 7) (zI false [none] (xT (yL (qA (dC (.int 5)) (qC)))) (gNm 0) (wM) (zY (zA (qA (qB 0) (qA (dC (.int 0)) (qC))))))) (gNm 7))) (sIf (dTr (d2 gEq (qB 2) (dC (.int 4)))) (qV (xB (qA (zA (qA (dC (.int 0)) (qA (dC (.int 0)) (qC)))) (qA (zA (qA (dC (.int 0)) (qA (dC (.int 4)) (qC)))) (qA (zA (qA (dC (.int 4)) (qA (dC (.int 0)) (qC)))) (qA (zA (qA (dC (.int 4)) (qA (dC (.int 4)) (qC)))) (qA (zA (qA (dC (.int 2)) (qA (dC (.int 2)) (qC)))) (qA (zA (qA (d1 kT (dC (.int 1))) (qA (dC (.int 2)) (qC)))) (qA (zA (qA (dC (.int 2)) (qA (d1 kT (dC (.int 1))) (qC)))) (qA (zA (qA (dC (.int 5)) (qA (dC (.int 2)) (qC)))) (qA (zA (qA (dC (.int 2)) (qA (dC (.int 5)) (qC)))) (qA (zA (qA (dC (.int 1)) (qA (dC (.int 1)) (qC)))) (qA (zA (qA (dC (.int 6)) (qA (dC (.int 6)) (qC)))) (qC))))))))))))) (gNm 7)) (qN (qV (jE (qC)) (gNm 7)) (u4 (yL (qA (qB 1) (qC))) (gNm 8) (qN (qV (d2 xC (qM 2 S__law_draw (qA (qB 0) (qA (d2 zG (d2 zJ (dC (.int 2)) (qB 6)) (dC (.int 1))) (qC)))) (qB 6)) (gNm 9)) (xY (dBm "list" xP (qB 7) (qA (zA (qA (qB 9) (qA (d2 xC (qM 2 S__law_draw (qA (qB 0) (qA (qB 6) (qC)))) (dC (.int 2))) (qC)))) (qC))))))))))) (qN (qV (yP true (qB 7)) (gNm 7)) (qN (qV (jE (qC)) (gNm 10)) (qN (pR (dQ (dTr (d2 (bE gNe) (qB 7) (jE (qC)))) (dTr (d2 gLt (qL xM (qA (qB 10) (qC))) (qB 3)))) (xY (dBm "list" xP (qB 10) (qA (dBm "list" pI (qB 7) (qA (qM 2 S__law_draw (qA (qB 0) (qA (qL xM (qA (qB 7) (qC))) (qC)))) (qC))) (qC))))) (z9 (qL k9 (qA (qL vF (qA (zI false [none,Ab 4,Ab 5] (dIt (qB 10)) (gNm 0) (wM) (zY (zA (qA (d2 zG (d2 gIx (qB 0) (dC (.int 0))) (qB 1)) (qA (d2 zG (d2 gIx (qB 0) (dC (.int 1))) (qB 2)) (qC)))))) (qC))) (qC))))))))))
@[irreducible] def S__law_lot:DF:=sh (qP 11 b__law_lot)
theorem gQ:S__law_lot=qP 11 b__law_lot:=by delta S__law_lot;exact zK _
@[reducible] def b__law_no_lot:DS:=qN (pQ 2 3 (qA (qM 2 S__law_draw (qA (qB 0) (qA (dC (.int 16)) (qC)))) (qA (qM 2 S__law_draw (qA (qB 0) (qA (qL xM (qA (qB 1) (qC))) (qC)))) (qC)))) (qN (qV (d2 gIx (qB 1) (qB 3)) (gTp 2 (zP (gNm 4) (zP (gNm 5) (yJ))))) (qN (qV (xB (qA (zA (qA (qB 4) (qA (qB 5) (qA (dC (.int 0)) (qC))))) (qA (zA (qA (qB 4) (qC))) (qA (xB (qA (qB 4) (qA (qB 5) (qC)))) (qA (dC .non) (qA (zA (qA (dC (.bl true)) (qA (qB 5) (qC)))) (qA (zA (qA (qB 4) (qA (dC .non) (qC)))) (qA (zA (qA (dC (.int 1001)) (qA (qB 5) (qC)))) (qC))))))))) (gNm 6)) (qN (qV (d2 zG (qB 6) (xB (qA (zA (qA (qB 4) (qA (d1 kT (dC (.int 1001))) (qC)))) (qC)))) (gNm 6)) (qN (qV (d2 gIx (qB 6) (qM 2 S__law_draw (qA (qB 0) (qA (dC (.int 8)) (qC))))) (gNm 6)) (qN (qV (d2 zG (d2 zG (dSl (qB 1) (wN) (xJ (qB 3))) (zA (qA (qB 6) (qC)))) (dSl (qB 1) (xJ (d2 zG (qB 3) (dC (.int 1)))) (wN))) (gNm 7)) (qN (qV (d2 b9 (d2 bA (xB (qA (qB 7) (qC))) (dC (.int 4))) (xB (qA (dC .non) (qA (zA (qC)) (qA (qL dU (qA (qB 1) (qC))) (qA (d2 gIx (qB 1) (dC (.int 0))) (qA (dC (.str "0,0")) (qA (dC (.int 7)) (qA (dR) (qA (d2 zG (qB 1) (dSl (qB 1) (xJ (d1 kT (dC (.int 1)))) (wN))) (qC))))))))))) (gNm 8)) (qN (xY (dBm "list" xP (qB 8) (qA (zA (qA (qB 1) (qC))) (qC)))) (qN (qV (d2 b8 (qB 8) (xB (qA (d2 zG (oO (qB 1) (d1 kT (dC (.int 1)))) (dSl (qB 1) (xJ (d1 kT (dC (.int 1)))) (wN))) (qA (qL k9 (qA (zI false [none] (xT (yL (qA (dC (.int 41)) (qC)))) (gNm 0) (wM) (zY (zA (qA (qB 0) (qA (dC (.int 0)) (qC)))))) (qC))) (qC))))) (gNm 8)) (qN (qV (d2 zG (qB 8) (xB (qA (zA (qA (zA (qA (dC (.int 0)) (qA (dC (.int 0)) (qC)))) (qA (zA (qA (dC (.int 0)) (qA (dC (.int 0)) (qC)))) (qC)))) (qC)))) (gNm 8)) (z9 (d2 gIx (qB 8) (qB 2))))))))))))
@[irreducible] def S__law_no_lot:DF:=sh (qP 9 b__law_no_lot)
theorem uI:S__law_no_lot=qP 9 b__law_no_lot:=by delta S__law_no_lot;exact zK _
@[reducible] def b_law (c:Cl):DS:=qN (sIf (yH (dTr (qM 2 S__law_same (qA (xB (qA (qM 1 (S_spare c) (qA (zA (qA (zA (qA (dC (.int 5)) (qA (dC (.int 5)) (qC)))) (qC))) (qC))) (qA (qM 1 (S_spare c) (qA (zA (qA (zA (qA (dC (.int 0)) (qA (dC (.int 0)) (qC)))) (qA (zA (qA (dC (.int 0)) (qA (dC (.int 1)) (qC)))) (qA (zA (qA (dC (.int 1)) (qA (dC (.int 0)) (qC)))) (qA (zA (qA (dC (.int 1)) (qA (dC (.int 1)) (qC)))) (qC)))))) (qC))) (qC)))) (qA (xB (qA (dC (.int 0)) (qA (d2 xC (dC (.int 2)) (qM 1 (S_bar c) (qA (dC (.int 4)) (qC)))) (qC)))) (qC)))))) (z9 (dC (.bl false))) (zV)) (qN (u4 (uM (d2 zG (xB (qA (qM 2 S__law_cell (qA (qB 0) (qA (dC (.int 0)) (qC)))) (qC))) (dSl (qB 0) (xJ (dC (.int 1))) (xJ (dC (.int 8)))))) (gNm 1) (qN (qV (qM 1 S__law_pen (qA (qB 1) (qC))) (gNm 2)) (qN (qV (qM 2 S__law_lot (qA (qB 2) (qA (dC (.int 40)) (qC)))) (gNm 3)) (qN (qV (tP) (gNm 4)) (qN (u4 (mE (qA (qB 3) (qC))) (gTp 2 (zP (gNm 5) (zP (gNm 6) (yJ)))) (u4 (uM (dSl (qB 3) (wN) (xJ (qB 5)))) (gNm 7) (qV (dC (.bl true)) (gSb (qB 4) (qM 2 S__law_far (qA (qB 6) (qA (qB 7) (qC)))) wZ)))) (qN (qV (d2 xC (qL mJ (qA (qB 4) (qC))) (qM 1 (S_bar c) (qA (qL xM (qA (qB 3) (qC))) (qC)))) (gNm 8)) (qN (sIf (kO (dTr (d2 gLt (qB 8) (dC (.int 0)))) (kO (yH (dTr (qM 2 S__law_same (qA (qM 1 (S_spare c) (qA (qB 3) (qC))) (qA (qB 8) (qC)))))) (yH (dTr (qM 2 S__law_same (qA (qM 1 (S_spare c) (qA (qB 3) (qC))) (qA (qB 8) (qC)))))))) (z9 (dC (.bl false))) (zV)) (qN (qV (qM 2 S__law_no_lot (qA (qB 2) (qA (qB 3) (qC)))) (gNm 9)) (sIf (dTr (d2 gNe (yE false [9] 1 2 (qC) (b__law_refused c (vI (qM 1 (S_spare c) (qA (qB 0) (qC)))))) (dC (.str "lot")))) (z9 (dC (.bl false))) (zV)))))))))) (z9 (dC (.bl true))))
end _K
namespace _K
open PySem _D
variable {kvs:Aa (_L.Key × D)}{cl:Aa Af}{cap:Aa Ai}{caps:Aa D}{G:Aa D->DF}{cv:Aa _L.V}{C:Af}{i:Ai}{fe:DE}{Q:D->Sto->Prop}{S:Sto}{env:qF}
theorem FV {d:D}(h:Pn d)(S:Sto):S_is_whole [d] S=.ok (.bl (isW d)) S:=by
 rw[gU];obtain⟨p,h⟩:=h;cases d <;> first|kernel_rfl!|simp[pyD] at h
theorem eU {d:D}(h:Pn d)(a b:Ak)(S:Sto):S_is_within [d,.int a,.int b] S=.ok (.bl (inR a b d)) S:=by
 rw[k8];refine xA (zB (env:=[Ab d,Ab (.int a),Ab (.int b)]) rfl ?_);rfl';refine Q6 ?_;rfl';refine qU (FV h S) ⟨_,rfl,λe=>?_,λe=>?_⟩
 .cases d with
  |int i=>exact iC rfl rfl rfl ⟨rfl,rfl⟩
  |_=>cases e
 .cases d <;> first|exact⟨rfl,rfl⟩|cases e
theorem QF {d:D}(h:Pn d)(S:Sto):S_is_point [d] S=.ok (.bl (xK d)) S:=by
 rw[gT];refine xA (zB (env:=[Ab d]) rfl ?_);rfl';refine bH ?_;rfl';refine qU (K8 h S) ?_;rfl';refine⟨λe=>?_,λe=>?_⟩
 .rfl'
  exact⟨by rw[LC (by simpa using e)],rfl⟩
 .cases d with
  |tup U =>
   rfl';refine y9 (λe=>?_) λe=>?_
   .rfl'
    refine vV (enc:=id) (o:=none) U (λx=>.bl (isI x)) (λenv Y=>Y=S/\∃ a,env=[a]) ((LH rfl).trans (by rw[Pb])) ⟨rfl,none,rfl⟩ (by unfold lim;lia) (λ_ _ _=>trivial) (λx N env Y ⟨J,a,O⟩=>?_) λenv Y ⟨J,_⟩=>?_
    .subst J O
     rfl';exact qU (eU (W6 h x N) _ _ _) ⟨rfl,rfl,_,rfl⟩
    .subst J
     rfl';exact sA ⟨by rw[LA li],rfl⟩
   .rfl'
    exact⟨by rw[LB li],rfl⟩
  |_=>cases e
theorem UY (Y:Aa Pt)(L:Y.length<=1000)(S:Sto):S_is_rising [yA Y] S=.ok (.bl (upB (Y.map kP))) S:=by
 rw[jZ];refine xA (zB (env:=[Ab (.tup (Y.map ptD))]) rfl ?_);rfl';have O:xT (tQ (qA (qB 0) (qA (dSl (qB 0) (xJ (dC (.int 1))) (wN)) (qC)))) [Ab (.tup (Y.map ptD))] S=.ok (none,(((Y.map kP).zip ((Y.map kP).drop 1)).map λp=>D.tup [tpD p.1,tpD p.2])) S:=by
  show Res.ok (none,vB (Y.map ptD) (xF (Y.map ptD) (Ab 1) none)) S=_;rw[HA,uT,<- Xy,EW]
 refine vV _ (λp=>.bl (_H.lexLt p.1 p.2)) (λenv J=>J=S/\∃ a b,env=[a,b]) O ⟨rfl,none,none,rfl⟩ ?_ (λ_ _ _=>trivial) (λx B env J ⟨U,a,b,N⟩=>?_) λenv J ⟨U,_⟩=>?_
 .rw[Vm,Aq]
  unfold lim
  lia
 .subst U N
  rfl';exact qU (CH _ _ _) ⟨rfl,rfl,_,_,rfl⟩
 .subst U
  rfl';exact sA ⟨rfl,rfl⟩
theorem eR {d:D}(h:Pn d)(S:Sto):S_is_lot [d] S=.ok (.bl (vQ d)) S:=by
 rw[bU];refine xA (zB (env:=[Ab d]) rfl ?_);rfl';refine bH ?_;rfl';refine qU (K8 h S) ?_;rfl';refine⟨λe=>?_,λe=>?_⟩
 .rfl'
  exact⟨by rw[B9 (by simpa using e)],rfl⟩
 .cases d with
  |tup Y =>
   rfl';refine iC (b:=(Y.length:Ak)) rfl rfl rfl ?_;rfl';refine y9 (λz=>?_) λz=>?_
   .have L:1<=Y.length/\Y.length<=40:=by lia
    rfl';refine Q6 ?_;rfl';refine vV (enc:=id) (o:=none) Y (λx=>.bl (xK x)) (λenv B=>B=S/\∃ a,env=[a]) ((LH rfl).trans (by rw[Pb])) ⟨rfl,none,rfl⟩ (by unfold lim;lia) (λ_ _ _=>trivial) (λx T env B ⟨O,a,E⟩=>?_) λenv B ⟨O,_⟩=>?_
    .subst O E
     rfl';exact qU (QF (W6 h x T) _) ⟨rfl,rfl,_,rfl⟩
    .subst O
     rfl';refine sA ⟨_,rfl,λN=>?_,λN=>?_⟩
     .obtain⟨J,rfl,_⟩:=eO N
      rw[Aq] at L;rfl';refine qU (UY J li _) ⟨?_,rfl⟩;show _=D.bl (decide (1<=(J.map ptD).length/\(J.map ptD).length<=40)&&(J.map ptD).all xK&&(match xV (J.map ptD) with|some U=>upB U|none=>false))
      rw[N,Aq,Dl L,uT,yS];rfl
     .refine⟨?_,rfl⟩
      show _=D.bl (decide (1<=Y.length/\Y.length<=40)&&Y.all xK&&(match xV Y with|some U=>upB U|none=>false))
      rw[N,Ln,Hj]
   .rfl'
    refine⟨?_,rfl⟩;show _=D.bl (decide (1<=Y.length/\Y.length<=40)&&Y.all xK&&(match xV Y with|some U=>upB U|none=>false))
    rw[Ds li,Hj,Hj]
  |_=>cases e
theorem cP (c:Cl){d:D}(S:Sto)(h:Pn d)(k:vQ d=true):S_need_lot c [d] S=.ok .non S:=by
 rw[u3];refine xA (zB (env:=[Ab d]) rfl ?_);rfl';refine qU (eR h S) ?_;rw[k];rfl';exact⟨rfl,rfl⟩
theorem cO (c:Cl){d:D}(S:Sto)(h:Pn d)(k:vQ d=false):S_need_lot c [d] S=.ex (.ref c.NoLot) .non S:=by
 rw[u3];refine pP (env:=[Ab d]) (env':=[Ab d]) rfl ?_;exact HX (xA (DR (OW (XZ (kB (o_v rfl (sE ⟨rfl,qU ((eR h S).trans (by rw[k])) ⟨_,rfl,rfl,rfl⟩⟩))))))) (UZ _ _ _ _)
theorem xZ {p:Ai}{m:Ak}(h:wV S p)(hm:0<m/\m<1073741824)(q:∀ (r:Ai) N,Kp p S N->(r:Ak)<m->Q (.int r) N):Ok (S__law_draw [.loc p,.int m] S) Q:=by
 have fin:∀ r v f:Ak,0<=r->r<m->Q (.int r) (S.set p (.lst [.int v,.int f])):=λr v f T L=>by
  obtain⟨r,rfl⟩:=Um T;obtain⟨A,I,e⟩:=h;have Y:=(Aw.mp e).1;exact q r _ ⟨⟨v,f,by simp[Y]⟩,by simp,λi H O=>Ce (Gb O)⟩ L
 obtain⟨v,f,e⟩:=h;have Y:=(Aw.mp e).1;rw[jW];refine zB (env:=[Ab (.loc p),Ab (.int m),none]) rfl ?_;rfl';refine gG e (d:=.int f) rfl ?_;rfl';refine y9 (λz=>?_) λz=>?_
 .rfl'
  refine gG e (d:=.int v) rfl ?_;rfl';refine gG e (d:=.int v) rfl ?_;rfl';refine W1 e rfl ?_;rfl';exact fin _ _ _ (Kv _ om) (Ji _ hm.1)
 .rfl'
  refine gG e (d:=.int v) rfl ?_;have hv:=Kv v (show (2147483629:Ak)≠0 by omega)
  have E:=Ji v (show (0:Ak)<2147483629 by omega)
  rfl';have B:=Kv (v % 2147483629*48271+11) (show (2147483629:Ak)≠0 by omega)
  have U:=Ji (v % 2147483629*48271+11) (show (0:Ak)<2147483629 by omega)
  generalize (v % 2147483629*48271+11) % 2147483629=w at B U;refine W1 e rfl ?_;have J:(S.set p (MO.lst [.int w,.int f]))[p]? = Ab (.lst [.int w,.int f]):=by simp[Y]
  rfl';refine gG J (d:=.int w) rfl ?_;rfl';refine gG J (d:=.int w) rfl ?_;rfl';refine gG J (d:=.int w) rfl ?_;rfl';exact fin _ _ _ (Kv _ om) (Ji _ hm.1)
theorem CW {x:Ak}(q:∀ p Y,wV Y p->Q (.loc p) Y):Ok (S__law_pen [.int x] S) Q:=by
 rw[gR];refine zB (env:=[Ab (.int x)]) rfl ?_;rfl';refine qU (d:=.int 1000000000000000000) rfl ?_;rfl';refine qU (d:=.int (b01 (decide (1000000000000000000<=x)))) rfl ?_;rfl';exact q _ _ ⟨_,_,wF _ _⟩
theorem CK (nd:cl.Nodup){i j:Ai}{a b:Af}(J:cl[i]? = Ab a)(Y:cl[j]? = Ab b)(h:i≠j):(a == b)=false:=by
 rw[Iw];rintro rfl;obtain⟨O,U⟩:=Aw.mp J;obtain⟨B,N⟩:=Aw.mp Y;exact h ((Og nd).mp (U.trans N.symm))
theorem CP {B:Af}(Y:C∈cl)(J:B∈cl)(q:Q (.bl (C == B)) S):Ok (zQ cl [.exn (.ref C),.obj B] S) Q:=by
 refine⟨_,_,?_,q⟩;show (if (cl.contains C&&cl.contains B)=true then Res.ok (D.bl (C == B)) S else .bad)=_
 rw[Ge.mpr Y,Ge.mpr J];rfl
theorem CQ (Y:C∈cl)(q:Q (.bl true) S):Ok (zQ cl [.exn (.ref C),.ty "ValueError"] S) Q:=by
 refine⟨_,_,?_,q⟩;show (if (cl.contains C&&(("ValueError" : Em) == "ValueError"))=true then Res.ok (D.bl true) S else .bad)=_
 rw[Ge.mpr Y];rfl
theorem CJ (nd:cl.Nodup){i j:Ai}{a b:Af}(J:cl[i]? = Ab a)(Y:cl[j]? = Ab b):decide (i=j)=(a == b):=by
 by_cases h:i=j
 .subst h
  cases J.symm.trans Y;rw[Dl rfl,Fz]
 .rw[Ds h,CK nd J Y h]
theorem cL (c:Cl)(nd:(xW c).Nodup)(S:Sto):S__law_kinds c [.exn (.ref c.NoLot)] S=.ok (.str "lot") S:=by
 have s:∀ {Q:D->Sto->Prop} (j:Ai) {B:Af},(xW c)[j]? = Ab B->Q (.bl (decide (1=j))) S->Ok (zQ (xW c) [.exn (.ref c.NoLot),.obj B] S) Q:=λj B h q=>CP (Bq (i:=1) rfl) (Bq h) (CJ nd (i:=1) rfl h▸q);rw[j9];refine xA (zB (env:=[Ab (.exn (.ref c.NoLot)),none,none]) rfl ?_);rfl';refine s 0 rfl ?_;rfl';refine s 1 rfl ?_;rfl';refine s 2 rfl ?_;rfl';refine s 3 rfl ?_;rfl';refine s 4 rfl ?_;rfl';refine s 5 rfl ?_;rfl';refine yX (Dv rfl) ?_;rfl';refine s 6 rfl ?_;rfl';refine s 7 rfl ?_;rfl';refine s 8 rfl ?_;rfl';refine yX (Dv rfl) ?_;rfl';refine s 9 rfl ?_;rfl';refine s 10 rfl ?_;rfl';refine yX (Dv rfl) ?_;rfl';refine bH ?_;rfl';refine CQ (Bq (i:=1) rfl) ?_;rfl';refine⟨(λe=>by cases e),λ_=>?_⟩
 rfl';refine qU (d:=.int 1) (S:=S) (by kernel_rfl!) ?_
 rfl';refine y9 (λ_=>?_) λe=>absurd rfl e;rfl';refine s 9 rfl ?_;rfl';refine y9 (λe=>absurd e (by decide)) λ_=>?_
 rfl';refine s 10 rfl ?_;rfl';refine y9 (λe=>absurd e (by decide)) λ_=>?_
 rfl';refine qU (d:=.int 1) (S:=S) (by kernel_rfl!) ?_
 exact Q8 (d:=.str "lot") rfl ⟨rfl,rfl⟩
noncomputable def sq (b:As)(Y:Aa D):D:=match b with
 |true=>.tup Y
 |false=>.lst Y
theorem JT (Y:Aa D):vB Y Y=Y.map λx=>D.tup [x,x]:=by
 induction Y with
 |nil=>rfl
 |cons w Y J=>exact congrArg (D.tup [w,w]::·) J
theorem h9 (F:DF)(b:As)(Y:Aa D)(S:Sto)(hw:Y.length<=lim)(B:∀ x∈Y,F [x,x] S=.ok (.bl true) S):qP 2 (b__law_same F) [sq b Y,sq b Y] S=.ok (.bl true) S:=by
 have N:x5 [sq b Y,.ty "list"] S=.ok (.bl (!b)) S:=by cases b <;> kernel_rfl!
 have O:x5 [sq b Y,.ty "tuple"] S=.ok (.bl b) S:=by cases b <;> kernel_rfl!
 have L:kS [sq b Y,.tup [.ty "list",.ty "tuple"]] S=.ok (.bl true) S:=by cases b <;> kernel_rfl!
 have l:xM [sq b Y] S=.ok (.int Y.length) S:=by cases b <;> rfl
 have n:∀ x:As,gNe (.bl x) (.bl x) S=.ok (.bl false) S:=λx=>by cases x <;> rfl
 have I:xT (tQ (qA (qB 0) (qA (qB 1) (qC)))) [Ab (sq b Y),Ab (sq b Y)] S=.ok (none,Y.map λx=>D.tup [x,x]) S:=by
  rw[<- JT];cases b <;> rfl
 refine xA (zB (env:=[Ab (sq b Y),Ab (sq b Y)]) rfl ?_);rfl';refine qU (d:=.bl false) (S:=S) (by cases b <;> rfl) ?_
 rfl';refine qU L ?_;rfl';refine qU N ?_;rfl';refine qU N ?_;rfl';refine qU (n _) ?_;rfl';refine bH ?_;rfl';refine qU O ?_;rfl';refine qU O ?_;rfl';refine qU (n _) ?_;rfl';refine⟨(λe=>by cases e),λ_=>?_⟩
 rfl';refine qU l ?_;rfl';refine qU l ?_;rfl';refine y9 (λ_=>?_) λe=>absurd rfl e;rfl';refine vV Y (λ_=>.bl true) (λenv U=>U=S/\∃ a b,env=[a,b]) I ⟨rfl,none,none,rfl⟩ hw (λ_ _ _=>trivial) (λx T env U ⟨J,a,b,E⟩=>?_) λenv U ⟨J,_⟩=>?_
 .subst J E
  rfl';exact qU (B x T) ⟨rfl,rfl,_,_,rfl⟩
 .subst J
  rfl';exact sA (p:=λ_=>true) ⟨by simp,rfl⟩
theorem bP (F:DF){d:D}(S:Sto)(h1:gIs d .non S=.ok (.bl false) S)(h2:kS [d,.tup [.ty "list",.ty "tuple"]] S=.ok (.bl false) S)(h3:x5 [d,.ty "str"] S=.ok (.bl false) S){b:As}(Y:x5 [d,.ty "bool"] S=.ok (.bl b) S)(U:x5 [d,.ty "int"] S=.ok (.bl true) S)(J:gEq d d S=.ok (.bl true) S):qP 2 (b__law_same F) [d,d] S=.ok (.bl true) S:=by
 refine xA (zB (env:=[Ab d,Ab d]) rfl ?_);rfl';refine qU h1 ?_;rfl';refine qU h2 ?_;rfl';refine qU h3 ?_;rfl';refine qU Y ?_;rfl';refine qU Y ?_;rfl';refine qU (d:=.bl false) (S:=S) (by cases b <;> rfl) ?_
 rfl';refine Q6 ?_;rfl';refine qU U ⟨_,rfl,λ_=>?_,λe=>by cases e⟩
 rfl';exact qU J ⟨rfl,rfl⟩
def okD:Ai->D->Prop
 |n+1,.tup Y=>Y.length<=lim/\∀ x∈Y,okD n x
 |n+1,.lst Y=>Y.length<=lim/\∀ x∈Y,okD n x
 |_,.int _=>Oe
 |_,.bl _=>Oe
 |_,_=>Fn
theorem WW:∀ (n:Ai) (d:D) (S:Sto),okD n d->tB (n+1) [d,d] S=.ok (.bl true) S:=by
 intro n
 induction n with
 |zero =>
  intro d S h;cases d with
  |int i=>exact bP _ S rfl (by kernel_rfl!) (by kernel_rfl!) (b:=false) (by kernel_rfl!) (by kernel_rfl!) (xA (D9 ⟨by rw[Dl rfl],rfl⟩))
  |bl b=>exact bP _ S rfl (by kernel_rfl!) (by kernel_rfl!) (b:=true) (by kernel_rfl!) (by kernel_rfl!) (by cases b <;> rfl)
  |_=>exact An h
 |succ n U =>
  intro d S h;cases d with
  |tup J=>exact h9 _ true J S h.1 λx Y=>U x S (h.2 x Y)
  |lst J=>exact h9 _ false J S h.1 λx Y=>U x S (h.2 x Y)
  |int i=>exact bP _ S rfl (by kernel_rfl!) (by kernel_rfl!) (b:=false) (by kernel_rfl!) (by kernel_rfl!) (xA (D9 ⟨by rw[Dl rfl],rfl⟩))
  |bl b=>exact bP _ S rfl (by kernel_rfl!) (by kernel_rfl!) (b:=true) (by kernel_rfl!) (by kernel_rfl!) (by cases b <;> rfl)
  |_=>exact An h
theorem eS {d:D}(S:Sto)(h:okD 3 d):S__law_same [d,d] S=.ok (.bl true) S:=by
 rw[jY];exact WW 3 d S h
theorem OD {a:Af}(h:env[i]? = Ab (Ab (.clo a cv caps))):yV i (qC) a cv 0 G env S=G caps [] S:=by
 unfold yV;rw[h];show (if a=a/\cv=cv then _ else _)=_
 rw[Be ⟨rfl,rfl⟩];rfl
theorem CZ {c:Cl}{Y:Ar}(N:(p9 c).contains (.ref C)=true)(U:∀ S,S__law_kinds c [.exn (.ref C)] S=.ok (.str Y) S){caps:Aa D}(h:p8 cap env=Ab caps){x:D}(e:fe (caps.map Ab) S=.ex (.ref C) x S)(q:Q (.str Y) S):Ok (yE false cap 1 2 (qC) (b__law_refused c (vI fe)) env S) Q:=by
 refine⟨_,_,?_,q⟩;unfold yE;rw[h];show (if 0+1=1 then exO false (uni λa cv=>qP 2 (b__law_refused c (vI fe) a cv) [.clo a cv caps] S) else .bad)=_
 rw[Be rfl,Y4 (R:=.ok (.str Y) S) λa cv=>?_]
 .rfl
 .have J:yV 0 (qC) a cv 0 (vI fe) [Ab (.clo a cv caps),none] S=.ex (.ref C) x S:=(OD rfl).trans (by unfold vI;exact e)
  refine xA (zB (env:=[Ab (.clo a cv caps),none]) rfl ?_);refine G9 ?_;have k:fW 2 1 (p9 c) (xY (yV 0 (qC) a cv 0 (vI fe))) (z9 (qM 1 (S__law_kinds c) (qA (qB 1) (qC)))) [Ab (.clo a cv caps),none] S=.rt (.str Y) S:=by
   unfold fW xY;rw[J];simp only[Res.toS,N,Eh];have z:qM 1 (S__law_kinds c) (qA (qB 1) (qC)) ((Dg 2 none).set 1 (Ab (.exn (.ref C)))) S=.ok (.str Y) S:=(jC rfl).trans (U S);simp only[z9,z,Res.toS]
  rw[k];exact⟨rfl,rfl⟩
theorem FU (Y:Aa Ak)(B:Y.length<=63)(k:Ak){Q:Aa D->Sto->Prop}{env:qF}{S:Sto}(h0:env[0]? = Ab (Ab (.lst (Y.map D.int))))(q:∀ O:Aa Ak,Q (O.map D.int) S):Ok (uM (d2 zG (xB (qA (qM 2 S__law_cell (qA (qB 0) (qA (dC (.int 0)) (qC)))) (qC))) (dSl (qB 0) (xJ (dC (.int 1))) (xJ (dC (.int k))))) env S) Q:=by
 have N:∃ x:Ak,S__law_cell [.lst (Y.map D.int),.int 0] S=.ok (.int x) S:=by
  rw[jV];cases Y with
  |nil=>exact⟨0,xA (zB (env:=[Ab (.lst []),Ab (.int 0)]) rfl (by rfl';exact⟨rfl,rfl⟩))⟩
  |cons n Y =>
   refine⟨n,xA (zB (env:=[Ab (.lst ((n::Y).map D.int)),Ab (.int 0)]) rfl ?_)⟩;rfl';refine y9 (λ_=>?_) λe=>absurd (by rw[Aq,Ca];omega) e
   rfl';exact Q8 (oE (a:=0) (by simp)) ⟨rfl,rfl⟩
 obtain⟨x,J⟩:=N;refine BU (o_2 (CU (kB (XZ (kB (o_v h0 ?_))))));rfl';refine qU J ?_;rfl';refine o_v h0 ?_;rfl';have U:xF (Y.map D.int) (Ab 1) (Ab k)=((Y.drop (_H.sIx (Y.map D.int).length 0 (Ab 1))).take (_H.sIx (Y.map D.int).length (Y.map D.int).length (Ab k)-_H.sIx (Y.map D.int).length 0 (Ab 1))).map D.int:=by
  unfold xF;rw[Ab1,Xy]
 rw[U];refine yX ?_ ⟨_,rfl,q (x::_)⟩;rw[Aq,Ez,Hx];show 1+_<=lim;unfold lim;omega
noncomputable def v3:Aa Ai:=[1,2,4,5,8,9,10,13,16,17,18,20,25,26,29,32,34,36,40,45,50,52,58,64,65,68,72,80,81,85,90,100,104,116,117,125,128,130,136,144,145,153,160,162,169,170,180,200,208,221,225,232,234,250,256,260,261,272,288,289,290,306,320,324,325,338,340,360,377,400,405,416,425,442,450,464,468,493,500,512,520,522,544,576,578,580,585,612,625,640,648,650,676,680,720,725,729,754,765,800,810,832,841,845,850,884,900,928,936,986,1000,1024,1040,1044,1053,1088,1105,1125,1152,1156,1160,1170,1224,1250,1280,1296,1300,1305,1352,1360,1377,1440,1445,1450,1458,1508,1521,1530,1600,1620,1625,1664,1682,1690,1700,1768,1800,1856,1872,1885,1972,1989,2000,2025,2048,2080,2088,2106,2125,2176,2197,2210,2250,2304,2312,2320,2340,2349,2448,2465,2500,2560,2592,2600,2601,2610,2704,2720,2754,2873,2880,2890,2900,2916,2925,3016,3042,3060,3125,3200,3240,3250,3328,3364,3380,3393,3400,3536,3600,3625,3645,3712,3744,3757,3770,3825,3944,3978,4000,4050,4096,4160,4176,4205,4212,4225,4250,4352,4394,4420,4437,4500,4608,4624,4640,4680,4698,4896,4901,4913,4930,5000]
noncomputable def fcs:Aa Ai:=[2,5,13,17,4,9,5,29]
theorem J7 {n f:Ai}(Y:n∈v3)(J:f∈fcs)(h:n*f<=5000):n*f∈v3:=by
 have k:v3.all (λn=>fcs.all λf=>!Nat.ble (n*f) 5000||v3.contains (n*f))=true:=kd
 have:=Cb.mp (Cb.mp k n Y) f J;rw[Wd h] at this;simpa using this
noncomputable def hs (n j:Ai):As:=(Cu 71).any λy=>Nat.beq (j*j+y*y) n
noncomputable def cnt (n i:Ai):Ai:=(Cu i).countP (hs n)
noncomputable def msk:Ai:=(Cu 71).foldl (λm y=>m ||| 1 <<< (y*y)) 0
noncomputable def ch (n j:Ai):As:=Nat.ble (j*j) n&&msk.testBit (n-j*j)
theorem EY {n j:Ai}(h:hs n j=true):ch n j=true:=by
 have k:(Cu 71).all (λy=>msk.testBit (y*y))=true:=kd;obtain⟨y,Y,e⟩:=Ic.mp h;have e:=We e;unfold ch;rw[show n-j*j=y*y by lia,Cb.mp k y Y,Wd li]
 rfl
theorem J3 {n:Ai}(J:n∈v3):1<=cnt n 71/\cnt n 71<=15:=by
 have k:v3.all (λn=>Nat.ble ((Cu 71).countP (ch n)) 15&&(Cu 71).any λj=>ch n j&&hs n j)=true:=kd;have:=Cb.mp k n J;rw[Ax] at this;refine⟨?_,Dc (Ox λ_ _=>EY) (Dv this.1)⟩;obtain⟨j,Y,e⟩:=Ic.mp this.2;rw[Ax] at e;exact List.countP_pos_iff.mpr ⟨j,Y,e.2⟩
theorem iM {n:Ai}(Y:n∈v3):n<=5000:=by
 have k:v3.all (λn=>Nat.ble n 5000)=true:=kd;exact Dv (Cb.mp k n Y)
theorem DU {p:Ai}(h:wV S p)(q:∀ (n:Ai) U,Kp p S U->n∈v3->Q (.int n) U):Ok (S__law_rich [.loc p,.int 5000] S) Q:=by
 rw[jX];refine zB (env:=[Ab (.loc p),Ab (.int 5000),none,none,none]) rfl ?_;rfl';refine xZ h li λr U E M=>?_;rfl';refine⟨by lia,by lia,?_⟩
 refine yG (λ_ env J=>∃ (n:Ai) (N O:Am D),env=[Ab (.loc p),Ab (.int 5000),Ab (.int n),N,O]/\Kp p S J/\n∈v3) ?_ ?_ ⟨1,_,_,rfl,E,by decide⟩
 .rintro x I _ J ⟨n,N,O,rfl,K,Y⟩
  rfl';refine xZ K.pen li λr A B H=>?_;rfl';refine sD (show r<8 by lia) λd L=>?_
  obtain⟨f,T,rfl⟩:=Ci.mp (show d∈fcs.map λ(f:Ai)=>D.int f from L)
  have:=iM Y;have e:(n:Ak)*(f:Ak)=((n*f:Ai):Ak):=by push_cast;rfl
  rfl';refine y9 (λz=>?_) λz=>?_
  .rfl'
   exact vA ⟨n*f,_,_,by rw[e],K.trans B,J7 Y T li⟩
  .rfl'
   exact vA ⟨n,_,_,rfl,K.trans B,Y⟩
 .rintro _ J ⟨n,N,O,rfl,K,Y⟩
  rfl';exact q n J K Y
noncomputable def sqs (n:Ai):Aa (_L.Key × D):=(Cu n).map λ(i:Ai)=>(.inl ((i:Ak)*(i:Ak)),.int (i:Ak))
theorem E4 {a b:Ai}(h:(a:Ak)*(a:Ak)=(b:Ak)*(b:Ak)):a=b:=by
 have Y:a*a=b*b:=by exact_mod_cast h
 rcases Su a b with z|z|z
 .exact absurd Y (Cp (Rw z (Eo z) li))
 .exact z
 .exact absurd Y.symm (Cp (Rw z (Eo z) li))
theorem M7 (n:Ai):zX (sqs n) (.inl ((n:Ak)*(n:Ak))) (.int (n:Ak))=sqs (n+1):=by
 unfold zX;rw[Bg]
 .unfold sqs
  rw[AaF,Ey];rfl
 .intro h
  obtain⟨U,Y,e⟩:=Ic.mp h;obtain⟨i,J,rfl⟩:=Ci.mp Y;have e:=Bv e;injection e with e
  have:=E4 e;have:=Du.mp J
  lia
theorem JD {n:Ai}{f:Ak}{d:D}(h:zT (sqs n) (.inl f)=Ab d):∃ i:Ai,i<n/\d=.int (i:Ak)/\f=(i:Ak)*(i:Ak):=by
 unfold zT at h;obtain⟨N,J,rfl⟩:=De.mp h;have Y:=AaE J;obtain⟨i,U,rfl⟩:=Ci.mp (Td J);have Y:=Bv Y;injection Y with Y
 exact⟨i,Du.mp U,rfl,Y.symm⟩
theorem M6 {n:Ai}(hi:i<n):(zT (sqs n) (.inl ((i:Ak)*(i:Ak)))).isSome=true:=by
 unfold zT;rw[Se,List.find?_isSome];exact⟨_,Ci.mpr ⟨i,Du.mpr hi,rfl⟩,by simp⟩
theorem U0 {c n:Ai}(h:c*c<=n)(Y:n<=5000):c<=70:=by
 rcases Uj 70 c with z|z
 .have:=Nm (show 71<=c by lia) (show 71<=c by lia)
  lia
 .exact z
theorem HW {n j y:Ai}(h:j*j+y*y=n)(Y:n<=5000):hs n j=true:=Ic.mpr ⟨y,Du.mpr (by have:=U0 (show y*y<=n by lia) Y;lia),by subst h;exact Nat.beq_refl _⟩
theorem K0 (n i:Ai):cnt n (i+1)=cnt n i+if hs n i=true then 1 else 0:=by
 unfold cnt;rw[AaF,List.countP_append,List.countP_singleton]
noncomputable def L6 (x y:Ak):Aa Pt:=[(x,y),(0-x,y),(x,0-y)]++[(0-x,0-y)]
theorem UD {n:Ai}(v:n∈v3)(q:∀ (ps:Aa Pt) O,S<+:O->ps≠[]->(∀ z∈ps,InB 990 z)->ps.length<=60->Q (.lst (ps.map ptD)) O):Ok (S__law_circle [.int n] S) Q:=by
 have u:=iM v;rw[uH];refine zB (env:=[Ab (.int n),none,none,none,none,none]) rfl ?_;rfl';refine⟨by lia,by lia,?_⟩
 refine yG (xs:=Cu 1001) (λxs env O=>∃ (i:Ai) (H:Am D),i+xs.length=1001/\xs=List.range' i (1001-i)/\env=[Ab (.int n),Ab (.loc S.length),Ab (.lst []),H,none,none]/\O=S++[.dct (sqs i)]) ?_ ?_ ⟨0,_,by simp,by rw[WP],rfl,rfl⟩
 .rintro x xs _ _ ⟨i,H,J,U,rfl,rfl⟩
  have B:i<1001:=by simp at J;lia
  rw[show 1001-i=(1001-(i+1))+1 by lia,Aa5] at U
  injection U with j I
  subst j;rfl';refine W0 (wF _ _) (by unfold sqs;rw[Aq,Ju];unfold lim;lia) ?_
  rw[hW,M7];rfl';exact vA ⟨x+1,_,by simp at J;lia,I,rfl,rfl⟩
 .rintro _ _ ⟨i,H,J,U,rfl,rfl⟩
  have B:i=1001:=by simpa using J
  subst B;have M:=wF S (.dct (sqs 1001));have p:S<+:S++[.dct (sqs 1001)]:=Fq _ _;generalize S++[.dct (sqs 1001)]=T at M p;rfl';refine⟨by lia,by lia,?_⟩
  refine yG (xs:=Cu 1001) (λxs env O=>∃ (i:Ai) (Y:Aa Pt) (o A:Am D),i+xs.length=1001/\xs=List.range' i (1001-i)/\env=[Ab (.int n),Ab (.loc S.length),Ab (.lst (Y.map ptD)),H,o,A]/\O=T/\Y.length=4*cnt n (min i 71)/\∀ z∈Y,InB 990 z) ?_ ?_ ⟨0,[],_,_,by simp,by rw[WP],rfl,rfl,rfl,λ_ h=>by cases h⟩
  .rintro x xs _ _ ⟨i,Y,o,A,J,U,rfl,rfl,N,E⟩
   have B:i<1001:=by simp at J;lia
   rw[show 1001-i=(1001-(i+1))+1 by lia,Aa5] at U
   injection U with j I
   subst j;have cl:cnt n (min x 71)<=71:=Dc (List.countP_le_length) (by rw[Ju];lia)
   rfl';refine CO M ?_;rfl';cases hv:zT (sqs 1001) (.inl ((n:Ak)-(x:Ak)*(x:Ak))) with
   |none =>
    rfl';refine vA ⟨x+1,Y,_,_,by simp at J;lia,I,rfl,rfl,?_,E⟩
    rcases Uj x 71 with z|z
    .rw[Kx li] at N ⊢
     rw[K0,Bg,N]
     .rfl
     .intro w
      obtain⟨y,c,e⟩:=Ic.mp w;have e:=We e;have g:=M6 (n:=1001) (i:=y) (by have:=Du.mp c;lia)
      rw[show (n:Ak)-(x:Ak)*(x:Ak)=(y:Ak)*(y:Ak) by rw[<- e];push_cast;lia] at hv
      rw[hv] at g;cases g
    .rw[N,Ua z,Ua li]
   |some d =>
    obtain⟨y,c,rfl,e⟩:=JD hv;have m:x*x+y*y=n:=by
     have:((x*x+y*y:Ai):Ak)=(n:Ak):=by push_cast;lia
     exact_mod_cast this
    have f:=U0 (show x*x<=n by lia) u
    have s:=U0 (show y*y<=n by lia) u
    refine w_t ?_;rfl';refine CS M hv ?_;rfl';refine yX (by rw[Aq];show _+3<=lim;unfold lim;lia) ?_
    rfl';refine yX (by rw[Cf,Aq];show _+3+1<=lim;unfold lim;lia) ?_
    rfl';refine vA ⟨x+1,Y++L6 (x:Ak) (y:Ak),_,_,by simp at J;lia,I,by rw[Ey,Cs];rfl,rfl,?_,λz hz=>?_⟩
    .rw[Cf,N,Kx li,Kx li,K0,Be (HW m u)]
     show _+4=_
     lia
    .rcases By.mp hz with hz|hz
     .exact E z hz
     .simp only[L6,Jh,Ip,Az,Dq,Hr] at hz
      unfold InB;rcases hz with rfl|rfl|rfl|rfl <;> dsimp only <;> lia
  .rintro _ _ ⟨i,Y,o,A,J,U,rfl,rfl,N,E⟩
   have B:i=1001:=by simpa using J
   subst B;have za:=J3 v;have L:Y.length=4*cnt n 71:=N;rfl';refine OV ?_;rfl';refine⟨by lia,q (yB Y) _ p (λz=>?_) (λz hz=>E z ((gM Y z).mp hz)) (Dc (c6 Y) li)⟩
   cases Y with
   |nil=>simp at L;lia
   |cons w r =>
    have:w∈yB (w::r):=(gM _ w).mpr (by simp)
    rw[z] at this;cases this
noncomputable def JW:Aa Pt:=(Cu 25).map λ(i:Ai)=>((i:Ak)/5,(i:Ak) % 5)
noncomputable def CD:Aa Pt:=(Cu 20).map λ(i:Ai)=>(2*(i:Ak),3*(i:Ak))
noncomputable def CF:Aa Pt:=(Cu 5).map λ(i:Ai)=>((i:Ak),0)
noncomputable def H8:Aa Pt:=[(0,0),(0,4),(4,0),(4,4),(2,2),(-1,2),(2,-1),(5,2),(2,5),(1,1),(6,6)]
theorem sF (n:Ai)(T:n<=1000)(g:Ai->Pt)(step:∀ i:Ai,Ok (fe [Ab (.int i)] S) λd U=>d=ptD (g i)/\U=S)(q:Q (.lst (((Cu n).map g).map ptD)) S):Ok (zI false [none] (xT (yL (qA (dC (.int (n:Ak))) (qC)))) (gNm 0) (wM) (zY fe) env S) Q:=by
 refine vV (Cu n) (λi=>ptD (g i)) (λenv Y=>Y=S/\∃ a,env=[a]) (OO li) ⟨rfl,none,rfl⟩ (by rw[Ju];unfold lim;lia) (λ_ _ _=>trivial) (λx L env Y ⟨J,a,O⟩=>?_) λenv Y ⟨J,_⟩=>?_
 .subst J O
  rfl';exact zF (step x) λd U ⟨B,N⟩=>⟨B,N,_,rfl⟩
 .subst J
  rw[Gk] at q;exact q
structure SmOk (p:Ai)(S:Sto)(d:D)(S':Sto)(ps:Aa Pt):Prop where
 seq:fX d S'=Ab (ps.map ptD)
 ne:ps≠[]
 len:ps.length<=60
 box:∀ q∈ps,InB 990 q
 kp:Kp p S S'
theorem yW {α:Type}:∀ (l:Aa α) (i:Ai) (h:i<l.length),(l[i]::l.eraseIdx i).Perm l
 |[],i,h=>by simp at h
 |x::l,0,_=>Kb _
 |x::l,i+1,h=>(AaM x _ _).trans ((yW l i (by simpa using h)).cons x)
theorem lV {α β:Type}(f:α->β):∀ (l:Aa α) (i:Ai),(l.map f).eraseIdx i=(l.eraseIdx i).map f
 |[],_=>rfl
 |_::_,0=>rfl
 |x::l,i+1=>congrArg (f x::·) (lV f l i)
structure WI (p a many:Ai)(all:Aa Pt)(S S':Sto)(done rest:Aa Pt):Prop where
 ra:S'[a]? = Ab (.lst (rest.map ptD))
 rb:S'[a+1]? = Ab (.lst (done.map ptD))
 perm:(done++rest).Perm all
 le:done.length<=many
 kp:Kp p S S'
theorem CT (p M:Ai)(hM:1<=M/\M<=40){S:Sto}(h:wV S p)(q:∀ (l:Aa Pt) N,Kp p S N->Lot M l->Q (yA l) N):Ok (S__law_lot [.loc p,.int (M:Ak)] S) Q:=by
 rw[gQ];refine zB (env:=[Ab (.loc p),Ab (.int (M:Ak)),none,none,none,none,none,none,none,none,none]) rfl ?_;rfl';refine xZ h li λI S1 k1 h1=>?_;rfl';refine xZ k1.pen li λm S2 k2 h2=>?_;obtain⟨J,em,hm⟩:∃ J:Ai,1+(m:Ak)=(J:Ak)/\1<=J/\J<=M:=⟨1+m,by lia,by lia,by lia⟩
 rfl';rw[em];refine xZ k2.pen li λx S3 k3 h3=>?_;rfl';refine xZ k3.pen li λy S4 k4 h4=>?_;rfl';refine xZ k4.pen li λr S5 k5 h5=>?_;have hx : -10<=(x:Ak)-10/\(x:Ak)-10<=10:=by lia
 have hy : -10<=(y:Ak)-10/\(y:Ak)-10<=10:=by lia
 generalize (x:Ak)-10=x at hx;generalize (y:Ak)-10=y at hy;refine sD (show r<3 by lia) λd f=>?_
 obtain⟨wide,rfl,hw⟩:∃ w:Ak,d=.int w/\3<=w/\w<=900:=by
  simp only[Az,Dq,Hr] at f;rcases f with rfl|rfl|rfl <;> exact⟨_,rfl,by lia⟩
 have H:Kp p S S5:=(((k1.trans k2).trans k3).trans k4).trans k5;clear k1 k2 k3 k4 k5 h1 h2 h3 h4 h5 f em;array_get_dec;array_get_dec;refine IA (λenv N=>∃ d j A U,env=[Ab (.loc p),Ab (.int (M:Ak)),Ab (.int I),Ab (.int (J:Ak)),Ab (.int x),Ab (.int y),Ab (.int wide),Ab d,j,A,none]/\SmOk p S d N U) (λP' hP=>?_) ?_
 .rfl'
  refine y9 (λz=>?_) λz=>?_
  .rfl'
   refine DU H.pen λn L v hn=>?_;rfl';refine UD hn λU S7 E ne s o=>?_;rfl';exact hP _ _ ⟨_,_,_,U,rfl,rfl,ne,o,s,(H.trans v).trans (Kp.pre v.pen E)⟩
  rfl';refine y9 (λz=>?_) λz=>?_
  .rfl'
   refine sF 25 li (λ(i:Ai)=>((i:Ak)/5,(i:Ak) % 5)) (λi=>?_) ?_
   .rfl'
    exact rfl
   .rfl'
    exact hP _ _ ⟨_,_,_,JW,rfl,rfl,by decide,by decide,kd,H⟩
  rfl';refine y9 (λz=>?_) λz=>?_
  .rfl'
   refine sF 20 li (λ(i:Ai)=>(2*(i:Ak),3*(i:Ak))) (λi=>?_) ?_
   .rfl'
    exact rfl
   .rfl'
    refine sF 5 li (λ(i:Ai)=>((i:Ak),0)) (λi=>?_) ?_
    .rfl'
     exact rfl
    .refine yX (by rw[Aq,Aq];decide) ?_
     rw[<- Ey];rfl';exact hP _ _ ⟨_,_,_,CD++CF,rfl,rfl,by decide,by decide,kd,H⟩
  rfl';refine y9 (λz=>?_) λz=>?_
  .rfl'
   exact hP _ _ ⟨_,_,_,H8,rfl,rfl,by decide,by decide,kd,H⟩
  rfl';refine⟨by lia,by lia,?_⟩
  have zi:p<S5.length:=eK H.pen;refine yG (λxs env N=>∃ (U:Aa Pt) (j A:Am D),U.length+xs.length=M/\(∀ q∈U,InB 990 q)/\env=[Ab (.loc p),Ab (.int (M:Ak)),Ab (.int I),Ab (.int (J:Ak)),Ab (.int x),Ab (.int y),Ab (.int wide),Ab (.loc S5.length),j,A,none]/\Kp p S5 N/\N[S5.length]? = Ab (.lst (U.map ptD))) ?_ ?_ ⟨[],_,_,by simp,λ_ h=>(by cases h),rfl,Kp.pre H.pen (Fq _ _),wF _ _⟩
  .rintro t xs _ N ⟨U,j,A,o,s,rfl,K,hS⟩
   have la:=(Aw.mp hS).1;rfl';refine xZ K.pen li λr1 L v h6=>?_;have g:=(v.same _ la li).trans hS;rfl';refine⟨bQ g,?_⟩;rfl';refine xZ v.pen li λr2 S7 E h7=>?_;have za:=(E.same _ (Aw.mp g).1 li).trans g;rfl';refine sC za (by rw[Aq];unfold lim;simp at o;lia) ?_
   rfl';refine vA ⟨U++[((r1:Ak)-wide,(r2:Ak)-2)],_,_,by simp at o ⊢;lia,λz hz=>?_,rfl,((K.trans v).trans E).set (Av _) _ li,by rw[Dd (Aw.mp za).1,Ey];rfl⟩
   rcases By.mp hz with hz|hz
   .exact s z hz
   .rw[Co.mp hz]
    unfold InB;dsimp only
    lia
  .rintro _ N ⟨U,j,A,o,s,rfl,K,hS⟩
   refine hP _ _ ⟨_,_,_,U,rfl,M3 hS,λz=>?_,by simp at o;lia,s,H.trans K⟩
   subst z;simp at o
   lia
 .rintro _ L ⟨d,j,A,U,rfl,sm⟩
  have zg:p<L.length:=eK sm.kp.pen;rfl';refine A4 ?_;rfl';refine⟨U,sm.seq,by have:=sm.len;lia,?_⟩
  rfl';have zj:=Dc (c6 U) sm.len;have zc:yB U≠[]:=λz=>by
   obtain⟨w,hw⟩:=List.exists_mem_of_ne_nil _ sm.ne;have:=(gM U w).mpr hw;rw[z] at this;cases this
  rw[Cf,Vs];refine iY (λn env N=>env=[Ab (.loc p),Ab (.int (M:Ak)),Ab (.int I),Ab (.int (J:Ak)),Ab (.int x),Ab (.int y),Ab (.int wide),Ab (.loc L.length),j,A,Ab (.loc (L.length+1))]/\∃ done Y,Y.length=n/\WI p L.length J (yB U) S N done Y) ?_ (n:=(yB U).length) (by rw[Z8];lia) ⟨rfl,[],yB U,rfl,by simp,by simp,by simp,by simp,sm.kp.trans (Kp.pre sm.kp.pen ((Fq _ _).trans (Fq _ _)))⟩
  rintro n _ N ⟨rfl,done,Y,rfl,W⟩;have T:=W.perm.length_eq;rw[Cf] at T;have la:=(Aw.mp W.rb).1;refine D8 ?_;rfl';have O:N<+:N++[MO.lst []]:=Fq _ _;refine DJ (z:=.bl (!Y.isEmpty)) (eZ (nB W.ra O) λx hx=>?_) (eZ (xs:=[]) (wF _ _) λ_ h=>by cases h) ?_ rfl ?_
  .obtain⟨z,_,rfl⟩:=Ci.mp hx
   rfl
  .unfold gNe
   rw[R4,show pl yF (.lst []) = true from rfl]
   cases Y <;> rfl
  have B:WI p L.length J (yB U) S (N++[MO.lst []]) done Y:=⟨nB W.ra O,nB W.rb O,W.perm,W.le,W.kp.trans (Kp.pre W.kp.pen O)⟩;have zb:L.length+1<(N++[MO.lst []]).length:=by rw[Cf];lia
  generalize N++[MO.lst []] = N at B zb;clear W O la;have fin:¬ (Y≠[]/\done.length<J)->Ok (qL k9 (qA (qL vF (qA (zI false [none,Ab 4,Ab 5] (dIt (qB 10)) (gNm 0) (wM) (zY (zA (qA (d2 zG (d2 gIx (qB 0) (dC (.int 0))) (qB 1)) (qA (d2 zG (d2 gIx (qB 0) (dC (.int 1))) (qB 2)) (qC)))))) (qC))) (qC)) [Ab (.loc p),Ab (.int (M:Ak)),Ab (.int I),Ab (.int (J:Ak)),Ab (.int x),Ab (.int y),Ab (.int wide),Ab (.loc L.length),j,A,Ab (.loc (L.length+1))] N) Q:=λhc=>by
   rfl';refine vV done (λz=>ptD (z.1+x,z.2+y)) (λenv S1=>S1=N/\∃ a,env=[a,Ab (.int x),Ab (.int y)]) (ON rfl B.rb) ⟨rfl,none,rfl⟩ (by unfold lim;lia) (λ_ _ ⟨e,_⟩=>by subst e;exact B.rb) (λz hz env S1 ⟨e1,a,e2⟩=>?_) λenv S1 ⟨e1,_⟩=>?_
   .subst e1 e2
    rfl';exact⟨_,rfl⟩
   .subst e1
    rfl';have zd:done.Nodup:=(Ho.mp (B.perm.nodup_iff.mpr (QZ (M8 U)))).1;have zf:=B.le;rw[show (done.map λz=>ptD (z.1+x,z.2+y))=(done.map λz=>(z.1+x,z.2+y)).map ptD by rw[Gk];rfl]
    refine A3 (by rw[Aq];lia) ?_
    rfl';refine q _ S1 B.kp (CG (λz=>?_) (by rw[Aq];lia) ?_ λz hz=>?_)
    .have z:=List.map_eq_nil_iff.mp z
     subst z;by_cases c:Y=[]
     .subst c
      simp at T;exact zc (Kk.mp T.symm)
     .exact hc ⟨c,by simp;lia⟩
    .rw[Qm,Ep]
     exact zd.imp λ{a b} ze z=>ze (Lq (by have:=congrArg Ab7 z;dsimp only at this;lia) (by have:=congrArg Ab8 z;dsimp only at this;lia))
    .obtain⟨w,hw,rfl⟩:=Ci.mp hz
     have:=sm.box w ((gM U w).mp (B.perm.mem_iff.mp (Dh _ hw)));unfold InB at this ⊢;dsimp only
     lia
  rfl';refine⟨λe=>?_,λe=>?_⟩
  .have c:Y≠[]:=λz=>by subst z;cases e
   have zh:=IN.mpr c;rfl';refine eD B.rb ?_;rw[Aq];rfl';refine⟨λe=>?_,λe=>?_⟩
   .have f:done.length<J:=by have:=Bv e;lia
    rfl';refine⟨bQ B.rb,?_⟩;rfl';refine⟨bQ B.ra,?_⟩;rfl';refine eD B.ra ?_;rw[Aq];rfl';refine xZ B.kp.pen li λr S7 E h7=>?_;have ra:=(E.same _ li li).trans B.ra;have rb:=(E.same _ zb li).trans B.rb;have u:r<Y.length:=by lia
    rfl';refine CY ra (by rw[Aq];exact u) li ?_
    rw[Aa6,lV];rfl';have l7:=E.len;refine sC (i:=L.length+1) (by rw[Ce li];exact rb) (by rw[Aq];unfold lim;lia) ?_
    rfl';refine cF (Y.eraseIdx r).length (by rw[Wx,Be u];lia) ⟨rfl,done++[Y[r]],Y.eraseIdx r,rfl,?_,?_,?_,by simp;lia,((B.kp.trans E).set sm.kp.len _ li).set (by have:=sm.kp.len;lia) _ li⟩
    .rw[Ce li,Dd li]
    .rw[Dd (by rw[Ux];lia),Ey]
     rfl
    .rw[Cs]
     exact(HT done (yW Y r u)).trans B.perm
   .have f:¬ done.length<J:=λz=>by have:=My e;lia
    exact EI (G8 (fin λz=>f z.2))
  .have c:Y=[]:=by cases Y with|nil=>rfl|cons _ _=>cases e
   exact⟨(λz=>by cases z),λ_=>EI (G8 (fin λz=>z.1 c))⟩
theorem CN {p q:Pt}(hp:InB 1000 p)(Y:InB 1000 q)(h:Q (.int (far p q)) S):Ok (S_far_between [ptD p,ptD q] S) Q:=by
 unfold InB at hp Y;rw[uJ];refine zB (env:=[Ab (ptD p),Ab (ptD q),none,none]) rfl ?_;rfl';exact h
theorem BV {l:Aa Pt}(c:∀ p∈l,InB 1000 p)(hl:l.length<=41)(q:∀ kvs B,GI pH prD S.length (w6 l) kvs B->(∀ m,m<S.length->B[m]? = S[m]?)->Q (.loc S.length) B):Ok (S_pairs_by_far [yA l] S) Q:=by
 rw[u7];refine zB (env:=[Ab (.tup (l.map ptD)),none,none,none,none]) rfl ?_;rfl';refine iX (λv env B=>∃ i o g E done kvs,env=[Ab (.tup (l.map ptD)),Ab (.loc S.length),o,g,E]/\v=eL i ((l.drop i).map ptD)/\GI pH prD S.length done kvs B/\done++w6 (l.drop i)=w6 l/\∀ m,m<S.length->B[m]? = S[m]?) ?_ ?_ ⟨0,_,_,_,[],[],rfl,rJ _,⟨wF _ _,λ_ h=>(by cases h),Nl,rfl⟩,rfl,λm H=>Bi H⟩
 .rintro d v _ B ⟨i,o,g,E,done,kvs,rfl,N,G,Y,J⟩
  cases O:l.drop i with
  |nil=>rw[O] at N;cases N
  |cons p L =>
   rw[O] at N Y;injection N with x f
   subst x f;have U:l.drop (i+1)=L:=by
    have:=congrArg List.tail O;simpa [AaO] using this
   have T:∀ z∈p::L,z∈l:=λz M=>Lv (O▸M);rfl';rw[YO,<- Xy,U];refine yG (λr env B=>∃ E done kvs,env=[Ab (.tup (l.map ptD)),Ab (.loc S.length),Ab (.int (i:Ak)),Ab (ptD p),E]/\(∀ z∈r,z∈l)/\GI pH prD S.length done kvs B/\done++(r.map (λz=>(p,z))++w6 L)=w6 l/\∀ m,m<S.length->B[m]? = S[m]?) ?_ ?_ ⟨_,done,kvs,rfl,λz M=>T z (Bp _ M),G,Y,J⟩
   .rintro z r _ B ⟨E,done,kvs,rfl,w,G,Y,J⟩
    have u:done.length<lim:=by
     have:=congrArg Kz Y;have h3:=CI hl;simp only[Cf] at this;unfold lim
     lia
    obtain⟨j,S1,S2,I,e,f2,f3,n,A⟩:=B0 G (p,z) u;rfl';refine⟨Y3 G.dict,?_⟩;rfl';refine CN (c p (T p (Cn ..))) (c z (w z (Cn ..))) ?_;rfl';refine qU e ⟨f2,?_⟩;rfl';refine qU f3 ?_;exact vA ⟨_,done++[(p,z)],I,rfl,λy s=>w y (Bp _ s),n,by rw[<- Y];simp,λm H=>(A m H).trans (J m H)⟩
   .rintro _ B ⟨E,done,kvs,rfl,w,G,Y,J⟩
    exact vA ⟨i+1,_,_,_,done,kvs,rfl,by rw[U],G,by rw[U];simpa using Y,J⟩
 .rintro _ B ⟨i,o,g,E,done,kvs,rfl,N,G,Y,J⟩
  rfl';refine q kvs B ?_ J;cases O:l.drop i with
  |cons _ _=>rw[O] at N;cases N
  |nil =>
   rw[O] at Y;have:done=w6 l:=by simpa [w6] using Y
   rw[<- this];exact G
theorem BW (c:Cl){l:Aa Pt}{M:Ai}(r:M<=40)(h:Lot M l){S:Sto}(q:∀ Y,S<+:Y->Q (.lst ((tbl (fars l)).map tpD)) Y):Ok (S_far_table c [yA l] S) Q:=by
 have o:=h.len;have g:(w6 l).length<=1600:=Dc (fB l) (Nm (show l.length<=40 by lia) (show l.length<=40 by lia))
 obtain⟨_,J,L,rfl,kvs,G,B⟩:=BV (S:=S) (Q:=λd Y=>d=.loc S.length/\∃ kvs,GI pH prD S.length (w6 l) kvs Y/\∀ m,m<S.length->Y[m]? = S[m]?) h.box li λkvs Y G B=>⟨rfl,kvs,G,B⟩;have E:xT (mF (qM 1 S_pairs_by_far (qA (qB 0) (qC)))) [Ab (yA l)] S=.ok (none,kvs.map λp=>D.tup [kD p.1,p.2]) (J.set S.length .dead):=by
  unfold xT mF;rw[(jC (f1:=qB 0) (env:=[Ab (yA l)]) (S:=S) rfl).trans L];simp only[Res.bind,G.dict];rfl
 have U:kvs.map (·.1)=(kys (fars l)).map Iu:=G.keys
 have I:(kys (fars l)).length<=1600:=by
  have:=fL (ks:=fars l) (l:=[]);have n:(fars l).length=(w6 l).length:=Aq _;unfold kys;simp only[Fh] at this
  lia
 have u:kvs.length<=1600:=by
  have:=congrArg Kz U;rw[Aq,Aq] at this
  lia
 have H:(kvs.map λp=>ctD (fars l) p.1)=(tbK (fars l)).map tpD:=by
  rw[show (kvs.map λp=>ctD (fars l) p.1)=(kvs.map (·.1)).map (ctD (fars l)) by rw[Gk];rfl,U]
  unfold tbK;rw[Gk,Gk];rfl
 have hs:vF [.lst ((tbK (fars l)).map tpD)] (J.set S.length .dead)=.ok (.lst ((tbl (fars l)).map tpD)) (J.set S.length .dead):=by
  show (match (Ab ((tbK (fars l)).map tpD)).bind vS with|some A=>Res.ok (D.lst A) (J.set S.length .dead)|none=>.bad)=_
  rw[Pc,M5 (tbK (fars l)) (by unfold tbK;rw[Aq];lia) λk N=>by
   obtain⟨f,_,rfl⟩:=Ci.mp N;intro z;cases z]
  rfl
 rw[vD];refine zB (env:=[Ab (yA l)]) rfl ?_;rfl';refine qU (cP c S (R5 l) (VO li h)) ?_;rfl';refine vV kvs (λp=>ctD (fars l) p.1) (λenv Y=>Y=J.set S.length .dead/\∃ a b,env=[a,b]) E ⟨rfl,none,none,rfl⟩ (by unfold lim;lia) (λ_ _ _=>trivial) (λp N env Y ⟨O,a,b,y⟩=>?_) λenv Y ⟨O,_⟩=>?_
 .subst O y
  obtain⟨f,j,rfl,v,T⟩:=G.lists p N;rfl';refine eD (xs:=((w6 l).filter λx=>pH x == f).map prD) (by rw[Ce li];exact T) ?_
  rw[Aq,VF];rfl';exact⟨_,_,rfl⟩
 .subst O
  rw[H];rfl';exact qU hs (q _ (R6 λm w=>by rw[Ce li];exact B m w))
theorem JI (fs:Aa Ak):((tbl fs).map λk=>k.headD 0).Perm (kys fs):=by
 have p:=(_S.vW (lt':=_H.lexLt) (tbK fs)).map λk=>k.headD 0;unfold tbl;refine p.trans ?_;unfold tbK;rw[Gk];have e:((λk:Aa Ak=>k.headD 0)∘λf=>[f,(fs.count f:Ak)])=id:=rfl;rw[e,Pb]
theorem DN (c:Cl){l:Aa Pt}{M:Ai}(L:M<=40)(h:Lot M l){S:Sto}(q:∀ Y,S<+:Y->Q (.int ((kys (fars l)).length:Ai)) Y):Ok (S_many_fars c [yA l] S) Q:=by
 obtain⟨_,B,I,rfl,T⟩:=BW (S:=S) (Q:=λd Y=>d=.lst ((tbl (fars l)).map tpD)/\S<+:Y) c L h λY p=>⟨rfl,p⟩;have J:(tbl (fars l)).length=(kys (fars l)).length:=by
  have:=(JI (fars l)).length_eq
  rwa [Aq] at this
 have O:∀ k∈tbl (fars l),∃ a b,k=[a,b]:=λk U=>by
  obtain⟨f,_,rfl⟩:=Ci.mp ((_S.vW _).mem_iff.mp U);exact⟨_,_,rfl⟩
 have w:(tbl (fars l)).length<=1600:=by
  have E:=fL (ks:=fars l) (l:=[]);have u:(fars l).length=(w6 l).length:=Aq _;have y:=fB l;have j:=Nm (show l.length<=40 by have:=h.len;lia) (show l.length<=40 by have:=h.len;lia)
  rw[J];unfold kys;simp only[Fh] at E
  lia
 have A:dIt (qM 1 (S_far_table c) (qA (qB 0) (qC))) [Ab (yA l)] S=.ok (none,(tbl (fars l)).map tpD) B:=by
  unfold dIt;rw[(jC (f1:=qB 0) (env:=[Ab (yA l)]) (S:=S) rfl).trans I];rfl
 rw[vE];refine zB (env:=[Ab (yA l)]) rfl ?_;rfl';rw[p6];refine zB (env:=[Ab (yA l)]) rfl ?_;rfl';refine vV (tbl (fars l)) (λk=>.int (k.headD 0)) (λenv Y=>Y=B/\∃ a b,env=[a,b]) A ⟨rfl,none,none,rfl⟩ (by unfold lim;lia) (λ_ _ _=>trivial) (λk U env Y ⟨N,a,b,H⟩=>?_) λenv Y ⟨N,_⟩=>?_
 .subst N H
  obtain⟨f,m,rfl⟩:=O k U;refine DW (xs:=[.int f,.int m]) ?_;rfl';exact⟨_,_,rfl⟩
 .subst N
  refine IB ?_;rfl';rw[Aq,J];exact q _ T
noncomputable def bs (p:Ak->As):Ai->Ak->Ak->Ak
 |0,lo,_=>lo
 |n+1,lo,Y=>if lo<Y then (if p ((lo+Y)/2) then bs p n lo ((lo+Y)/2) else bs p n ((lo+Y)/2+1) Y) else lo
theorem O7 (p:Ak->As)(n:Ai)(lo hi:Ak):bs p (n+1) lo hi=if lo<hi then (if p ((lo+hi)/2) then bs p n lo ((lo+hi)/2) else bs p n ((lo+hi)/2+1) hi) else lo:=rfl
theorem TB (p:Ak->As)(k:Ai)(lo hi:Ak)(h:hi<=lo):bs p k lo hi=lo:=by
 cases k with
 |zero=>rfl
 |succ k=>unfold bs;rw[Bg li]
theorem OE {f:DE}{a:Af}{Y:Sto}{d:D}(h:env[i]? = Ab (Ab (.clo a cv caps)))(k:f env S=.ok d Y):yV i (qA f (qC)) a cv 1 G env S=G caps [d] Y:=by
 unfold yV;rw[h];show (if a=a/\cv=cv then _ else _)=_
 rw[Be ⟨rfl,rfl⟩,rD k];rfl
theorem DM {f:DE}(p:Ak->As)(M:Ak){S:Sto}(E:0<=M/\M<1000000000000000000)(T:p8 cap env=Ab caps)(B:f env S=.ok (.int M) S)(L:∀ t,0<=t->t<M->Ok (fe (Ab (.int t)::caps.map Ab) S) λd U=>d=.bl (p t)/\U=S)(q:Q (.int (bs p M.toNat 0 M)) S):Ok (yE false cap 2 5 (qA f (qC)) (b_least_where (vI fe)) env S) Q:=by
 refine⟨_,_,?_,q⟩;unfold yE;rw[T];show (qA f (qC) env S).bind _=_;rw[rD B];show (if 1+1=2 then exO false (uni λa cv=>qP 5 (b_least_where (vI fe) a cv) [.clo a cv caps,.int M] S) else .bad)=_
 rw[Be rfl,Y4 (R:=.ok (.int (bs p M.toNat 0 M)) S) λa cv=>?_]
 .rfl
 .refine xA (zB (env:=[Ab (.clo a cv caps),Ab (.int M),none,none,none]) rfl ?_)
  rfl';refine iY (λn env U=>∃ (lo Y:Ak) (e:Am D) (k:Ai),env=[Ab (.clo a cv caps),Ab (.int M),Ab (.int lo),Ab (.int Y),e]/\U=S/\n=(Y-lo).toNat/\0<=lo/\lo<=Y/\Y<=M/\(Y-lo).toNat<=k/\bs p k lo Y=bs p M.toNat 0 M) ?_ (n:=M.toNat) (by rw[Z8];lia) ⟨0,M,none,M.toNat,rfl,rfl,by lia,by lia,by lia,by lia,by lia,rfl⟩
  rintro n _ _ ⟨lo,Y,e,k,rfl,rfl,rfl,H,I,w,A,J⟩;rfl';refine⟨λz=>?_,λz=>?_⟩
  .have O:=Bv z
   cases k with
   |zero=>lia
   |succ k =>
    rw[O7,Be O] at J;rfl';refine qU ((OE rfl rfl).trans (show vI fe caps [.int ((lo+Y)/2)] _=_ from xA (L ((lo+Y)/2) li li))) ?_
    rfl';cases N:p ((lo+Y)/2) with
    |true =>
     rw[N,Be rfl] at J;rfl';exact cF _ li ⟨lo,(lo+Y)/2,_,k,rfl,rfl,rfl,by lia,by lia,by lia,by lia,J⟩
    |false =>
     rw[N,Bg Fp] at J;rfl';exact cF _ li ⟨(lo+Y)/2+1,Y,_,k,rfl,rfl,rfl,by lia,by lia,by lia,by lia,J⟩
  .have O:=My z
   rw[TB p k lo Y li] at J;rfl';exact⟨by rw[J],rfl⟩
theorem nU (c:Cl){i a b:Ak}(S:Sto)(h:a<=i/\i<=b):S_need_within c [.int i,.int a,.int b] S=.ok .non S:=by
 rw[uK];refine xA (zB (env:=[Ab (.int i),Ab (.int a),Ab (.int b)]) rfl ?_);rfl';refine qU (eU (d:=.int i) ⟨_,rfl⟩ a b S) ?_;rw[show inR a b (.int i)=true from Dl h]
 rfl';exact⟨rfl,rfl⟩
noncomputable def K6 (n:Ak):Ak->As:=λt=>decide (n-1<=t*t+t)
noncomputable def rV (n:Ak):Ak:=bs (K6 n) (1000000000:Ak).toNat 0 1000000000
theorem DC (c:Cl){n:Ak}{S:Sto}(h:1<=n/\n<=40)(q:Q (.int (rV n)) S):Ok (S_by_hull c [.int n] S) Q:=by
 rw[p5];refine zB (env:=[Ab (.int n)]) rfl ?_;rfl';refine qU (d:=.int 1000000000000000000) rfl ?_;rfl';refine qU (nU c S ⟨h.1,by lia⟩) ?_
 rfl';refine DM (K6 n) 1000000000 li (caps:=[.int n]) rfl ((HB rfl rfl).trans (show pJ (.int 10) (.int 9) S=.ok (.int 1000000000) S from rfl)) (λt Y J=>?_) ?_
 .rfl'
  exact rfl
 .rfl'
  exact q
noncomputable def mp (s:Ak):Ak:=s*(s-1)/2
theorem DP {s:Ak}(h:0<=s/\s<1000000000000000)(q:Q (.int (mp s)) S):Ok (S_many_pairs [.int s] S) Q:=by
 rw[jA];refine zB (env:=[Ab (.int s)]) rfl ?_;rfl';exact q
noncomputable def shs (w n:Ak):Ak:=n*mp (w/n)+w % n*(w/n)
theorem A0 {w n:Ak}(hw:0<=w/\w<=4000000000000)(O:1<=n/\n<=1000000)(q:Q (.int (shs w n)) S):Ok (S_pairs_of_shares [.int w,.int n] S) Q:=by
 have Y:0<=w/n:=AaG hw.1 li;have N:w/n<=w:=Int.ediv_le_self _ hw.1;have J:0<=w % n:=Kv _ li;have U:w % n<n:=Ji _ li;rw[yT];refine zB (env:=[Ab (.int w),Ab (.int n),none,none]) rfl ?_;rfl';refine qU (d:=.tup [.int (w/n),.int (w % n)]) (S:=S) (Be ⟨by lia,by lia,by lia,by lia⟩) ?_
 rfl';refine DP ⟨Y,by lia⟩ ?_
 rfl';exact q
noncomputable def KO (n:Ak):Ak->As:=λe=>decide (n*(n-1)<shs (2*e) n)
noncomputable def pb (n:Ak):Ak:=bs (KO n) (n*n).toNat 0 (n*n)-1
theorem OU (c:Cl){n:Ak}{S:Sto}(h:1<=n/\n<=40)(q:Q (.int (pb n)) S):Ok (S_pair_bound c [.int n] S) Q:=by
 have Y:0<=n*n/\n*n<=1600:=⟨Lp li li,Ff (Int.mul_le_mul_of_nonneg_left h.2 li) li⟩;rw[jB];refine zB (env:=[Ab (.int n)]) rfl ?_;rfl';refine qU (d:=.int 1000000) rfl ?_;rfl';refine qU (nU c S ⟨h.1,by lia⟩) ?_
 rfl';refine DM (KO n) (n*n) ⟨Y.1,by lia⟩ (caps:=[.int n]) rfl (xA (o_2 (o_v rfl (o_v rfl (CV li ⟨rfl,rfl⟩))))) (λt U J=>?_) ?_
 .rfl'
  refine A0 ⟨by lia,by lia⟩ ⟨h.1,by lia⟩ ?_
  rfl';exact rfl
 .rfl'
  exact q
noncomputable def bp (n:Ak):Ak:=if n=1 then 0 else (mp n+pb n-1)/pb n
noncomputable def bar (n:Ak):Ak:=if rV n<bp n then bp n else rV n
noncomputable def okN (n:Ai):As:=(n == 1||decide (1<=pb n/\pb n<=1600))&&(Cu 60).all (λt=>decide ((t:Ak)<bar n->(t:Ak)*t+t<n-1\/t*pb n<mp n))&&decide (0<=bar n/\bar n<=50)&&(Cu 800).all λe=>decide (shs (2*(e:Ak)) n<=(n:Ak)*(n-1)->(e:Ak)<=pb n)
theorem SH:(Cu 41).all (λn=>n == 0||okN n)=true:=kd
theorem SE {n:Ai}(h:1<=n/\n<=40):okN n=true:=by
 have:=Cb.mp SH n (Du.mpr li);have Y:(n == 0)=false:=by rw[Iw];lia
 rwa [Y,AaU] at this
structure Ok40 (n:Ai):Prop where
 pb:n=1\/(1<=pb n/\pb n<=1600)
 low:∀ t:Ai,(t:Ak)<bar n->(t:Ak)*t+t<n-1\/t*_K.pb n<mp n
 nn:0<=bar n/\bar n<=50
 most:∀ e:Ai,e<800->shs (2*(e:Ak)) n<=(n:Ak)*(n-1)->(e:Ak)<=_K.pb n
theorem SD {n:Ai}(h:1<=n/\n<=40):Ok40 n:=by
 have k:=SE h;unfold okN at k;rw[Ax,Ax,Ax,Ml,Cb,Cb] at k;obtain⟨⟨⟨Y,B⟩,O⟩,J⟩:=k;have nn:=Bv O;refine⟨?_,λt N=>Bv (B t (Du.mpr li)) N,nn,λe U=>Bv (J e (Du.mpr U))⟩;rcases Y with z|z
 .exact .inl (by simpa using z)
 .exact .inr (Bv z)
theorem OS (c:Cl){n:Ai}{S:Sto}(h:1<=n/\n<=40)(q:Q (.int (bp n)) S):Ok (S_by_pairs c [.int (n:Ak)] S) Q:=by
 have k:=(SD h).pb;rw[gS];refine zB (env:=[Ab (.int n),none]) rfl ?_;rfl';refine OU c ⟨by lia,by lia⟩ ?_
 rfl';refine OT ?_;rfl';unfold bp at q;refine⟨λz=>?_,λz=>?_⟩
 .have z:=Bv z
  rw[Be z] at q;rfl';exact q
 .have z:=My z
  rw[Bg z] at q;rfl';refine DP ⟨by lia,by lia⟩ ?_
  rfl';exact q
theorem Q7 (c:Cl){n:Ai}{S:Sto}(h:1<=n/\n<=40)(q:Q (.int (bar n)) S):Ok (S_bar c [.int (n:Ak)] S) Q:=by
 rw[sO];refine zB (env:=[Ab (.int n)]) rfl ?_;rfl';refine qU (d:=.int 1000000) rfl ?_;rfl';refine qU (nU c S ⟨by lia,by lia⟩) ?_
 rfl';refine DC c ⟨by lia,by lia⟩ ?_
 rfl';refine OS c h ?_;rfl';refine qU (d:=.int (bar n)) (S:=S) ?_ ?_
 .unfold bar
  show Res.ok (D.int (if bp (n:Ak)>rV (n:Ak) then bp (n:Ak) else rV (n:Ak))) S=_
  rfl
 .exact q
theorem bI (c:Cl){l:Aa Pt}(h:Lot 40 l){S:Sto}(q:∀ Y,S<+:Y->Q (.int (((kys (fars l)).length:Ai)-bar l.length)) Y):Ok (S_spare c [yA l] S) Q:=by
 have U:=IN.mpr h.ne;have N:=h.len;rw[kL];refine zB (env:=[Ab (.tup (l.map ptD))]) rfl ?_;rfl';refine DN c li h λO J=>?_;rfl';rw[Aq];refine Q7 c ⟨U,N⟩ ?_;rfl';exact q O J
theorem lU {α:Type}(p:α->As):∀ R:Aa α,R.length=(R.filter p).length+(R.filter λz=>!p z).length
 |[]=>rfl
 |z::R=>by
  have:=lU p R;cases h:p z <;> simp only[Tz,h,Eh,Jv,Qy,Bw,Ec,Ca] <;> lia
theorem mD {α:Type}(Y:α->Ak)(M:Ai):∀ (K:Aa Ak) (R:Aa α),(∀ z∈R,Y z∈K)->(∀ f∈K,(R.filter λz=>Y z == f).length<=M)->R.length<=K.length*M
 |[],[],_,_=>by simp
 |[],z::R,h,_=>absurd (h z (Cn ..)) (by simp)
 |f::K,R,h,J=>by
  have T:=J f (Cn ..);have L:=mD Y M K (R.filter λz=>!(Y z == f)) (λz O=>by
   obtain⟨N,U⟩:=Ft.mp O;rcases Az.mp (h z N) with e|e
   .rw[e,Fz] at U
    cases U
   .exact e) (λg B=>Dc (List.Sublist.length_le ((List.filter_sublist).filter _)) (J g (Bp _ B)))
  have e:=lU (λz=>Y z == f) R;rw[Ca,Yr]
  lia
theorem SJ {α:Type}{R:Aa α}(nd:R.Nodup)(h:∀ x∈R,∀ y∈R,x=y):R.length<=1:=by
 match R,nd,h with
 |[],_,_=>simp
 |[_],_,_=>simp
 |x::y::R,nd,h =>
  have:=h x (by simp) y (by simp)
  subst this;simp at nd
theorem tG {a b:Ak}(Y:0<=a)(U:0<=b)(h:a*a<=b*b):a<=b:=by
 by_cases z:a<=b
 .exact z
 .have N:=Nn (show b+1<=a by lia) (show b+1<=a by lia) li Y
  have J:(b+1)*(b+1)=b*b+2*b+1:=by grind
  lia
theorem r9 {x y u v:Ak}(U:0<=x)(J:0<=u)(B:y<=v)(h:x*x+y*y=u*u+v*v):y*u<=x*v:=by
 by_cases L:0<=y
 .have N:=Nn B B L li
  have Y:=tG J U li;have O:=Nn B Y J li;rw[Int.mul_comm x v];exact O
 .by_cases T:0<=v
  .have N:=Lp U T
   have Y:=Lp (show 0 <= -y by lia) J
   rw[Aa7] at Y
   lia
  .have N:=Nn (show -v <= -y by lia) (show -v <= -y by lia) li li
   rw[Vo,Vo] at N;have Y:=tG U J li;have O:=Nn (show -v <= -y by lia) Y U li
   rw[Aa7,Aa7] at O;rw[Int.mul_comm x v]
   lia
theorem iS {a:Ak}(h:a*a=0):a=0:=by rcases Jq.mp h with h|h <;> exact h
theorem FZ {x y u v s t f:Ak}(B:0<f)(h0:x*x+y*y=f)(h1:u*u+v*v=f)(h2:s*s+t*t=f)(N:x*u+y*v=x*s+y*t)(E:y*u<=x*v)(L:y*s<=x*t):u=s/\v=t:=by
 have e:(x*v-y*u)*(x*v-y*u)=(x*t-y*s)*(x*t-y*s):=by grind
 have O:=tG (show 0<=x*v-y*u by lia) (show 0<=x*t-y*s by lia) li
 have T:=tG (show 0<=x*t-y*s by lia) (show 0<=x*v-y*u by lia) li
 have U:x*v-y*u=x*t-y*s:=by lia
 have Y:f*(u-s)=0:=by grind
 have J:f*(v-t)=0:=by grind
 refine⟨?_,?_⟩
 .rcases Jq.mp Y with z|z <;> lia
 .rcases Jq.mp J with z|z <;> lia
theorem KD:∀ G:Aa Pt,G≠[]->∃ B∈G,∀ z∈G,B.2<=z.2
 |[],h=>absurd rfl h
 |[b],_=>⟨b,by simp,λz Y=>by rw[Co.mp Y];exact Lg _⟩
 |b::c::G,_=>by
  obtain⟨B,J,h⟩:=KD (c::G) (by simp)
  by_cases z:b.2<=B.2
  .refine⟨b,by simp,λy hy=>?_⟩
   rcases Az.mp hy with rfl|hy
   .exact Lg _
   .exact Ff z (h y hy)
  .refine⟨B,Bp _ J,λy hy=>?_⟩
   rcases Az.mp hy with rfl|hy
   .lia
   .exact h y hy
theorem aI (A B z:Pt):far B z=far A B+far A z-2*((B.1-A.1)*(z.1-A.1)+(B.2-A.2)*(z.2-A.2)):=by
 unfold far
 grind
theorem dX (A z:Pt):far A z=(z.1-A.1)*(z.1-A.1)+(z.2-A.2)*(z.2-A.2):=by
 unfold far
 grind
theorem L8 {A:Pt}{f:Ak}(u:0<f){G:Aa Pt}(nd:G.Nodup)(L:∀ z∈G,A.1<=z.1)(J:∀ z∈G,far A z=f){T:Aa Ak}(hT:∀ B∈G,∀ z∈G,B≠z->far B z∈T):G.length<=T.length+1:=by
 by_cases e:G=[]
 .rw[e];simp
 obtain⟨B,Y,w⟩:=KD G e;have E:=nd.erase B;have r:=mD (far B) 1 T (G.erase B) (λz H=>by
  have O:=(List.Nodup.mem_erase_iff nd).mp H;exact hT B Y z O.2 (Gb O.1)) (λg p=>SJ (E.filter _) λy o z H=>by
   obtain⟨N,I⟩:=Ft.mp o;obtain⟨U,M⟩:=Ft.mp H;have N:=Wf N;have U:=Wf U;have I:=eq_of_beq I;have M:=eq_of_beq M;rw[aI A B y,J B Y,J y N] at I;rw[aI A B z,J B Y,J z U] at M;have c:=(dX A B).symm.trans (J B Y);have v:=(dX A y).symm.trans (J y N);have d:=(dX A z).symm.trans (J z U);have q:=r9 (show 0<=B.1-A.1 by have:=L B Y;lia) (show 0<=y.1-A.1 by have:=L y N;lia) (show B.2-A.2<=y.2-A.2 by have:=w y N;lia) li
   have j:=r9 (show 0<=B.1-A.1 by have:=L B Y;lia) (show 0<=z.1-A.1 by have:=L z U;lia) (show B.2-A.2<=z.2-A.2 by have:=w z U;lia) li
   obtain⟨m,n⟩:=FZ u c v d li q j;exact Lq li li)
 have:=Mu Y
 lia
theorem rQ {l:Aa Pt}{a b:Pt}(ha:a∈l)(hb:b∈l)(J:a≠b):far a b∈fars l:=by
 induction l with
 |nil=>simp at ha
 |cons p l Y =>
  rw[x8,By];rcases Az.mp ha with e|ha
  .rcases Az.mp hb with U|hb
   .exact absurd (e.trans U.symm) J
   .rw[e];exact .inl (Mf hb)
  .rcases Az.mp hb with e|hb
   .rw[e,tX];exact .inl (Mf ha)
   .exact .inr (Y ha hb)
theorem B4 {l:Aa Pt}(O:Up l):l.length-1<=(kys (fars l)).length*((kys (fars l)).length+1):=by
 cases l with
 |nil=>simp
 |cons A Y =>
  have M:=QZ O;obtain⟨L,N⟩:=Jp.mp M;have E:=(Eu.mp O).1;have U:∀ z∈Y,A≠z:=λz J e=>L (e▸J);have:=mD (far A) ((kys (fars (A::Y))).length+1) (kys (fars (A::Y))) Y (λz J=>uE.mpr (rQ (Cn ..) (Bp _ J) (U z J))) (λf w=>by
   by_cases I:0<f
   .refine L8 (A:=A) I (N.filter _) (λz J=>?_) (λz J=>eq_of_beq (Ft.mp J).2) (λB H z J T=>uE.mpr (rQ (Bp _ (Ft.mp H).1) (Bp _ (Ft.mp J).1) T))
    have:=E z (Ft.mp J).1;unfold ltP at this;rw[_H.lexLt_cons] at this;by_cases e:A.1=z.1
    .lia
    .rw[Bg e] at this
     have:=Bv this
     lia
   .have:(Y.filter λz=>far A z == f)=[]:=by
     rw[Vn];intro z J e;have:=aH (U z J);have:=eq_of_beq e
     lia
    rw[this];simp)
  simpa using this
theorem XS (s:Ak):2*mp s=s*(s-1):=by
 unfold mp;have h:s*(s-1) % 2=0:=by
  rcases Int.emod_two_eq s with h|h
  .rw[Int.mul_emod,h];simp
  .have Y:(s-1) % 2=0:=by lia
   rw[Int.mul_emod,Y];simp
 lia
noncomputable def sm {α:Type}(l:Aa α)(g:α->Ai):Ai:=(l.map g).sum
theorem zS {α:Type}(x:α)(l:Aa α)(g:α->Ai):sm (x::l) g=g x+sm l g:=by simp[sm]
theorem pS {α:Type}(g h:α->Ai):∀ l:Aa α,sm l (λx=>g x+h x)=sm l g+sm l h
 |[]=>rfl
 |x::l=>by rw[zS,zS,zS,pS g h l];lia
theorem tF {α:Type}(k:Ai)(g:α->Ai):∀ l:Aa α,sm l (λx=>k*g x)=k*sm l g
 |[]=>rfl
 |x::l=>by rw[zS,zS,tF k g l,Wc]
theorem QN {α:Type}{g h:α->Ai}:∀ {l:Aa α},(∀ x∈l,g x<=h x)->sm l g<=sm l h
 |[],_=>Av _
 |x::l,k=>by
  rw[zS,zS];exact Wr (k x (Cn ..)) (QN λy Y=>k y (Bp _ Y))
theorem jJ {α:Type}{g h:α->Ai}{l:Aa α}(k:∀ x∈l,g x=h x):sm l g=sm l h:=by
 unfold sm;rw[Ki k]
theorem l6 {α β:Type}(g:α->β->Ai)(m:Aa β) : ∀ l:Aa α,sm l (λx=>sm m λy=>g x y)=sm m λy=>sm l λx=>g x y
 |[]=>by
  show 0=sm m λ_=>0
  induction m with
  |nil=>rfl
  |cons y m Y=>rw[zS,<- Y]
 |x::l=>by
  rw[zS,l6 g m l,<- pS];exact jJ λy _=>(zS x l λx=>g x y).symm
theorem hZ {α:Type}(k:Ai):∀ l:Aa α,sm l (λ_=>k)=l.length*k
 |[]=>by simp[sm]
 |x::l=>by rw[zS,hZ k l,Ca,Yr];lia
noncomputable def nr (f:Ak)(u v:Pt):Ai:=if far u v=f then 1 else 0
theorem XY (f:Ak)(u v:Pt):nr f u v=nr f v u:=by unfold nr;rw[tX]
theorem CM (f:Ak)(u v:Pt):nr f u v*nr f u v=nr f u v:=by unfold nr;split <;> rfl
theorem AY (f:Ak){u w a b c:Pt}(A:u≠w)(j:far u a=f)(m:far w a=f)(I:far u b=f)(e:far w b=f)(H:far u c=f)(p:far w c=f):a=b\/a=c\/b=c:=by
 have M:∀ (O B Y J U N T L:Ak),O*O+B*B=f->(O+Y)*(O+Y)+(B+J)*(B+J)=f->(O+U)*(O+U)+(B+N)*(B+N)=f->Y*T+J*L=0->U*T+N*L=0->(T≠0\/L≠0)->(Y=0/\J=0)\/(U=0/\N=0)\/(Y=U/\J=N):=by
  intro O B Y J U N T L h0 h1 h2 h3 h4 h5;have cr:Y*N-J*U=0:=by
   have o:T*(Y*N-J*U)=0:=by grind
   have g:L*(Y*N-J*U)=0:=by grind
   rcases h5 with h5|h5
   .rcases Jq.mp o with z|z
    .exact absurd z h5
    .exact z
   .rcases Jq.mp g with z|z
    .exact absurd z h5
    .exact z
  have r:(Y*Y+J*J)*(U*U+N*N-(Y*U+J*N))=0:=by grind
  have n:(U*U+N*N)*(Y*Y+J*J-(Y*U+J*N))=0:=by grind
  have E:∀ x y:Ak,x*x+y*y=0->x=0/\y=0:=λx y h=>by
   have s:∀ x:Ak,0<=x*x:=λx=>by rw[<- WF x];exact Lp li li
   have s1:=s x;have s2:=s y;exact⟨iS om,iS om⟩
  rcases Jq.mp r with z|z
  .exact .inl (E _ _ z)
  .rcases Jq.mp n with y|y
   .exact .inr (.inl (E _ _ y))
   .have:(Y-U)*(Y-U)+(J-N)*(J-N)=0:=by grind
    obtain⟨k1,k2⟩:=E _ _ this;exact .inr (.inr ⟨by lia,by lia⟩)
 rw[dX] at j m I e H p;have v:w.1-u.1≠0\/w.2-u.2≠0:=by
  by_cases z:w.1-u.1=0
  .right
   intro y;exact A (Lq li li)
  .exact .inl z
 have q:(b.1-a.1)*(w.1-u.1)+(b.2-a.2)*(w.2-u.2)=0:=by
  have:2*((b.1-a.1)*(w.1-u.1)+(b.2-a.2)*(w.2-u.2))=0:=by grind
  lia
 have d:(c.1-a.1)*(w.1-u.1)+(c.2-a.2)*(w.2-u.2)=0:=by
  have:2*((c.1-a.1)*(w.1-u.1)+(c.2-a.2)*(w.2-u.2))=0:=by grind
  lia
 rw[show b.1-u.1=a.1-u.1+(b.1-a.1) by lia,show b.2-u.2=a.2-u.2+(b.2-a.2) by lia] at I
 rw[show c.1-u.1=a.1-u.1+(c.1-a.1) by lia,show c.2-u.2=a.2-u.2+(c.2-a.2) by lia] at H
 rcases M _ _ _ _ _ _ _ _ j I H q d v with z|z|z
 .exact .inl (Lq li li)
 .exact .inr (.inl (Lq li li))
 .exact .inr (.inr (Lq li li))
theorem EE {α:Type}{R:Aa α}(nd:R.Nodup)(h:∀ x∈R,∀ y∈R,∀ z∈R,x=y\/x=z\/y=z):R.length<=2:=by
 match R,nd,h with
 |[],_,_=>simp
 |[_],_,_=>simp
 |[_,_],_,_=>simp
 |x::y::z::R,nd,h =>
  rcases h x (by simp) y (by simp) z (by simp) with e|e|e <;> subst e <;> simp at nd
theorem dA {α:Type}(p:α->As):∀ l:Aa α,sm l (λx=>if p x=true then 1 else 0)=(l.filter p).length
 |[]=>rfl
 |x::l=>by
  rw[zS,dA p l,Tz];cases p x <;> simp <;> lia
noncomputable def cm (f:Ak)(l:Aa Pt)(u w:Pt):Ai:=sm l λv=>nr f u v*nr f w v
theorem H0 {f:Ak}{l:Aa Pt}(nd:l.Nodup){u w:Pt}(h:u≠w):cm f l u w<=2:=by
 have e:cm f l u w=(l.filter λv=>decide (far u v=f)&&decide (far w v=f)).length:=by
  rw[<- dA];refine jJ λv _=>?_;unfold nr;by_cases a:far u v=f <;> by_cases b:far w v=f <;> simp[a,b]
 rw[e];refine EE (nd.filter _) λx Y y J z U=>?_;have Y:=(Ft.mp Y).2;have J:=(Ft.mp J).2;have U:=(Ft.mp U).2;simp only[Ax,Ch] at Y J U;exact AY f h Y.1 Y.2 J.1 J.2 U.1 U.2
noncomputable def dg (f:Ak)(l:Aa Pt)(v:Pt):Ai:=sm l λu=>nr f u v
theorem GN (f:Ak)(l:Aa Pt)(u:Pt):cm f l u u=dg f l u:=jJ λv _=>by rw[CM,XY]
theorem ZL {f:Ak}{l:Aa Pt}(nd:l.Nodup)(u:Pt):∀ m:Aa Pt,m.Nodup->sm m (λw=>cm f l u w)<=dg f l u+m.length*2/\(u∈m->sm m (λw=>cm f l u w)<=dg f l u+(m.length-1)*2)/\(u ∉ m->sm m (λw=>cm f l u w)<=m.length*2)
 |[],_=>⟨by simp[sm],(λh=>by cases h),λ_=>by simp[sm]⟩
 |w::m,N=>by
  obtain⟨O,U⟩:=Jp.mp N;obtain⟨_,J,Y⟩:=ZL (f:=f) nd u m U;rw[zS,Ca];by_cases e:u=w
  .subst e
   have:=Y O;rw[GN];exact⟨by lia,λ_=>by lia,λh=>absurd (Cn ..) h⟩
  .have B:=H0 nd (f:=f) e
   refine⟨?_,λh=>?_,λh=>?_⟩
   .by_cases z:u∈m
    .have:=J z
     lia
    .have:=Y z
     lia
   .rcases Az.mp h with h|h
    .exact absurd h e
    .have:=J h
     have:=Ob h
     lia
   .have:=Y λz=>h (Bp _ z)
    lia
theorem E5 {f:Ak}{l:Aa Pt}(nd:l.Nodup):sm l (λv=>dg f l v*dg f l v)<=sm l (dg f l)+l.length*((l.length-1)*2):=by
 have e:sm l (λv=>dg f l v*dg f l v)=sm l λu=>sm l λw=>cm f l u w:=by
  have J:∀ v∈l,dg f l v*dg f l v=sm l λu=>sm l λw=>nr f u v*nr f w v:=λv _=>by
   have:∀ u∈l,(sm l λw=>nr f u v*nr f w v)=dg f l v*nr f u v:=λu _=>by
    rw[tF,Nat.mul_comm];rfl
   rw[jJ this,tF];rfl
  rw[jJ J,l6];exact jJ λu _=>l6 _ _ _
 rw[e];have h:∀ u∈l,sm l (λw=>cm f l u w)<=dg f l u+(l.length-1)*2:=λu Y=>(ZL nd u l nd).2.1 Y;refine Dc (QN h) ?_;rw[pS,hZ];exact Av _
theorem NV {f:Ak}(Y:0<f):∀ l:Aa Pt,sm l (dg f l)=2*(fars l).count f
 |[]=>rfl
 |p::l=>by
  have O:nr f p p=0:=by
   unfold nr;rw[Bg];intro e;have:far p p=0:=by unfold far;rw[Int.sub_self,Int.sub_self];rfl
   lia
  have U:∀ v∈l,dg f (p::l) v=nr f p v+dg f l v:=λv _=>zS _ _ _;have N:(l.map (far p)).count f=sm l λv=>nr f p v:=by
   have:∀ m:Aa Pt,(m.map (far p)).count f=sm m λv=>nr f p v:=by
    intro m
    induction m with
    |nil=>rfl
    |cons v m J =>
     rw[Ek,List.count_cons,J,zS];unfold nr;by_cases z:far p v=f <;> simp[z] <;> lia
   exact this l
  rw[zS,jJ U,pS,NV Y l,x8,List.count_append,N];have:dg f (p::l) p=sm l λv=>nr f p v:=by
   unfold dg;rw[zS,O,Hi];exact jJ λv _=>XY f v p
  have B:(sm l λv=>nr f p v)=sm l (nr f p):=rfl
  lia
theorem qAO (d s:Ak):(2*s+1)*d<=d*d+s*(s+1):=by
 have e:d*d+s*(s+1)-(2*s+1)*d=(d-s)*(d-s-1):=by grind
 have:0<=(d-s)*(d-s-1):=by
  by_cases z:1<=d-s
  .exact Lp li li
  .exact Int.mul_nonneg_of_nonpos_of_nonpos li li
 lia
theorem E1 {f:Ak}(H:0<f){l:Aa Pt}(nd:l.Nodup)(h1:1<=l.length):shs (2*((fars l).count f:Ak)) l.length<=(l.length:Ak)*(l.length-1):=by
 have hs:=E5 (f:=f) nd;have B:=NV H l;obtain⟨e,E⟩:∃ e,e=(fars l).count f:=⟨_,rfl⟩;rw[<- E] at B ⊢;have M:(0:Ak)<l.length:=by lia
 have Y:=Int.emod_add_mul_ediv (2*(e:Ak)) l.length;have O:0<=2*(e:Ak)/l.length:=AaG li li;obtain⟨s,U⟩:=Um O;have L:sm l (λv=>(2*s+1)*dg f l v)<=sm l λv=>dg f l v*dg f l v+s*(s+1):=QN λv _=>by
  have:=qAO (dg f l v:Ak) (s:Ak)
  exact_mod_cast this
 rw[tF,pS,hZ,B] at L;rw[B] at hs;have T:(2*s+1)*(2*e)<=2*e+l.length*((l.length-1)*2)+l.length*(s*(s+1)):=Dc L (Pi hs _);have N:(2*(s:Ak)+1)*(2*(e:Ak))<=2*(e:Ak)+(l.length:Ak)*(((l.length:Ak)-1)*2)+(l.length:Ak)*((s:Ak)*((s:Ak)+1)):=by
  have:=(Zc.mpr T)
  push_cast at this
  rw[Xz h1] at this;exact this
 unfold shs;rw[U] at Y ⊢;have J:=XS (s:Ak);generalize 2*(e:Ak) % l.length=r at *;generalize (l.length:Ak)=n at *;generalize (s:Ak)=s at *;generalize mp s=m at *;have:2*(n*m+r*s)<=2*(n*(n-1)):=by
  have I:2*(n*m+r*s)=n*(2*m)+2*(r*s):=by grind
  rw[I,J];rw[<- Y] at N;have A:n*(s*(s-1))+2*(r*s)=(2*s+1)*(r+n*s)-(r+n*s)-n*(s*(s+1)):=by grind
  rw[A];have w:n*((n-1)*2)=2*(n*(n-1)):=by grind
  lia
 lia
theorem rP:∀ l:Aa Pt,2*(fars l).length=l.length*(l.length-1)
 |[]=>rfl
 |p::l=>by
  rw[x8,Cf,Aq,Ca,Wc,rP l];cases l.length with
  |zero=>rfl
  |succ n =>
   show 2*(n+1)+(n+1)*n=(n+1+1)*(n+1);rw[Nat.add_mul (n+1) 1 (n+1),Nat.one_mul,Wc (n+1) n 1,Nat.mul_one]
   lia
theorem VE {l:Aa Pt}(nd:l.Nodup):∀ f∈fars l,0<f:=by
 induction l with
 |nil=>intro f h;cases h
 |cons p l J =>
  intro f h;obtain⟨U,Y⟩:=Jp.mp nd;rw[x8] at h;rcases By.mp h with h|h
  .obtain⟨q,N,rfl⟩:=Ci.mp h
   exact aH λe=>U (e▸N)
  .exact J Y f h
theorem T9 {l:Aa Pt}(h:Lot 40 l):bar l.length<=((kys (fars l)).length:Ak):=by
 have Y:=IN.mpr h.ne;have O:=h.len;have B:=QZ h.up;have K:=SD ⟨Y,O⟩;have L:=rP l;have A:l.length*(l.length-1)<=40*39:=Nm O li;by_cases z:((kys (fars l)).length:Ak)<bar l.length
 .exfalso
  rcases K.low _ z with y|y
  .have H:=B4 h.up
   have U:((l.length-1:Ai):Ak)<=(((kys (fars l)).length*((kys (fars l)).length+1):Ai):Ak):=Zc.mpr H
   push_cast at U
   rw[Xz Y,Int.mul_add,Int.mul_one] at U
   lia
  .have I:=mD id (pb l.length).toNat (kys (fars l)) (fars l) (λf J=>uE.mpr J) (λf J=>by
    have N:=uE.mp J;have e:((fars l).filter λz=>id z == f).length=(fars l).count f:=by
     rw[List.count,Qp];rfl
    rw[e];have E:(fars l).count f<=(fars l).length:=List.count_le_length;have:=K.most ((fars l).count f) li (E1 (VE B f N) B Y)
    lia)
   have T:0<=pb l.length:=by
    rcases K.pb with e|e
    .rw[e]
     decide +kernel
    .lia
   have U:((fars l).length:Ak)<=((kys (fars l)).length:Ak)*pb l.length:=by
    have:=Zc.mpr I;rw[Int.natCast_mul,Xx T] at this;exact this
   have w:=XS (l.length:Ak);have M:2*((fars l).length:Ak)=(l.length:Ak)*((l.length:Ak)-1):=by
    have:=congrArg (Nat.cast (R:=Ak)) L
    push_cast at this
    rw[Xz Y] at this;exact this
   lia
 .lia
noncomputable def UF (x y:Ak):Aa D:=[.tup [.int x,.int y,.int 0],.tup [.int x],.lst [.int x,.int y],.non,.tup [.bl true,.int y],.tup [.int x,.non],.tup [.int 1001,.int y]]++[.tup [.int x,.int (-1001)]]
theorem F1 (x y:Ak):∀ d∈UF x y,Pn d/\xK d=false:=by
 intro d Y;simp only[UF,Jh,Ip,Az,Dq,Hr] at Y;rcases Y with rfl|rfl|rfl|rfl|rfl|rfl|rfl|rfl
 all_goals refine⟨⟨_,rfl⟩,?_⟩
 all_goals first|rfl|exact Ln _
noncomputable def tM (l:Aa Pt)(a:Ai)(o:D):Aa D:=(l.map ptD).take a++[o]++(l.map ptD).drop (a+1)
noncomputable def rT:Aa D:=(Cu 41).map λ(i:Ai)=>D.tup [.int (i:Ak),.int 0]
theorem D5 (l:Aa Pt)(q:Pt)(a:Ai)(o:D)(N:Pn o/\xK o=false):∀ d∈((Dg 4 [D.tup (tM (l++[q]) a o)]).flatten++[.non,.tup [],.lst ((l++[q]).map ptD),ptD ((l++[q]).head (by simp)),.str "0,0",.int 7,.dct0,.tup ((l++[q]).map ptD++[ptD q])]++[.tup [.tup ((l++[q]).map ptD)]])++[.tup (_H.stepL ((l++[q]).map ptD) (-1)++[ptD q]),.tup rT]++[.tup [.tup [.int 0,.int 0],.tup [.int 0,.int 0]]],NoL d:=by
 have Y:∀ x∈(l++[q]).map ptD,Pn x:=λx hx=>by
  obtain⟨z,_,rfl⟩:=Ci.mp hx;exact mY z
 have O:(l++[q]).map ptD=l.map ptD++[ptD q]:=by rw[Ey];rfl
 have J:NoL (.tup (tM (l++[q]) a o)):=by
  refine⟨fU λx hx=>?_,nO (x:=o) (by simp[tM]) N.2⟩
  unfold tM at hx;rcases By.mp hx with hx|hx
  .rcases By.mp hx with hx|hx
   .exact Y x (Pj hx)
   .rw[Co.mp hx];exact N.1
  .exact Y x (Lv hx)
 intro d U;simp only[Gr,List.replicate_zero,Im,List.flatten_nil,Jh,Ip,Fv,Az,Dq,Hr] at U;rcases U with rfl|rfl|rfl|rfl|rfl|rfl|rfl|rfl|rfl|rfl|rfl|rfl|rfl|rfl|rfl|rfl
 .exact J
 .exact J
 .exact J
 .exact J
 .exact⟨⟨_,rfl⟩,rfl⟩
 .exact⟨⟨_,rfl⟩,rfl⟩
 .exact⟨qAB Y,rfl⟩
 .exact⟨mY _,nO (x:=.int _) (Cn ..) rfl⟩
 .exact⟨⟨_,rfl⟩,rfl⟩
 .exact⟨⟨_,rfl⟩,rfl⟩
 .exact⟨⟨_,rfl⟩,rfl⟩
 .refine⟨fU λx hx=>?_,nP ?_⟩
  .rcases By.mp hx with hx|hx
   .exact Y x hx
   .rw[Co.mp hx];exact mY q
  .rw[Ho]
   exact λh=>h.2.2 (ptD q) (by rw[O];simp) (ptD q) (by simp) rfl
 .refine⟨fU λx hx=>by rw[Co.mp hx];exact fU Y,nO (x:=.tup ((l++[q]).map ptD)) (by simp) ?_⟩
  match B:(l++[q]).map ptD with
  |[]=>rfl
  |[_]=>rfl
  |[x,y] =>
   have:x∈(l++[q]).map ptD:=by rw[B];simp
   obtain⟨z,_,rfl⟩:=Ci.mp this;rfl
  |_::_::_::_=>rfl
 .refine⟨fU λx hx=>?_,nP ?_⟩
  .rcases By.mp hx with hx|hx
   .exact Y x (WY hx)
   .rw[Co.mp hx];exact mY q
  .rw[Ho]
   exact λh=>h.2.2 (ptD q) (by rw[O];exact WZ _ _) (ptD q) (by simp) rfl
 .refine⟨fU λx hx=>?_,BP (by unfold rT;simp)⟩
  obtain⟨i,_,rfl⟩:=Ci.mp hx;exact⟨.tuple [.int (i:Ak),.int 0],rfl⟩
 .exact⟨⟨_,rfl⟩,nP (by simp)⟩
theorem DB (q:Q (.lst rT) S):Ok (zI false [none] (xT (yL (qA (dC (.int 41)) (qC)))) (gNm 0) (wM) (zY (zA (qA (qB 0) (qA (dC (.int 0)) (qC))))) env S) Q:=by
 refine sF 41 li (λ(i:Ai)=>((i:Ak),0)) (λi=>?_) ?_
 .rfl'
  exact rfl
 .rw[Gk]
  exact q
theorem UE (p M:Ai)(u:M<=40)(l:Aa Pt)(N:Lot M l)(S:Sto)(h:wV S p):Ok (S__law_no_lot [.loc p,yA l] S) λd _=>NoL d:=by
 rw[uI];refine zB (env:=[Ab (.loc p),Ab (.tup (l.map ptD)),none,none,none,none,none,none,none]) rfl ?_;unfold b__law_no_lot;have f:0<l.length:=IN.mpr N.ne;have r:=N.len;rfl';refine xZ h li λw m E v=>?_;rfl';refine xZ E.pen (by rw[Aq];lia) λa y j I=>?_
 rw[Aq] at I;rfl';have O:_L.atI (l.map ptD) (a:Ak)=Ab (ptD (l[a]' li)):=by
  rw[oE (by rw[Aq];lia),Aa6]
 refine KJ O ?_;generalize l[a]' li=q;refine DW (xs:=[.int q.1,.int q.2]) ?_;rfl';refine yX (Dv rfl) ?_;rfl';refine xZ j.pen li λb g n c=>?_;refine sD (a:=UF q.1 q.2) (show b<8 by lia) λo B=>?_
 have T:=F1 q.1 q.2 o B;rfl';rw[ZN _ a (by rw[Aq];lia)]
 refine mV (by simp only[Aq,Ez,Ca,Fh];unfold lim;lia) ?_
 rfl';rw[show (a:Ak)+1=((a+1:Ai):Ak) by lia,TR _ (a+1) (by rw[Aq];lia)]
 refine mV (by simp only[Cf,Aq,Ez,Hx,Ca,Fh];unfold lim;lia) ?_
 rcases List.eq_nil_or_concat l with z|⟨Y,z,rfl⟩
 .exact absurd z N.ne
 rw[List.concat_eq_append] at *;have J:=D5 Y z a o T;have bl:((Y++[z]).map ptD).take a++[o]++((Y++[z]).map ptD).drop (a+1)=tM (Y++[z]) a o:=rfl;rw[bl];generalize tM (Y++[z]) a o=bn at J;clear O bl T B;rfl';refine DQ (k:=4) ⟨Dv rfl,by lia⟩ ?_
 rfl';refine KJ (d:=ptD ((Y++[z]).head (by simp))) ?_ ?_
 .cases Y <;> exact oE (a:=0) (by simp)
 rfl';have L:xF ((Y++[z]).map ptD) (Ab (-1)) none=[ptD z]:=by
  rw[Ey];exact GP _ _
 rw[L];have U:((Y++[z]).map ptD).length<=40:=by rw[Aq];lia
 refine mV (by simp only[Ca,Fh];unfold lim;lia) ?_
 rfl';refine D7 rfl rfl (Dv rfl) ?_;rfl';refine⟨bQ (wF _ _),?_⟩;rfl';refine sC (wF _ _) (Dv rfl) ?_;rw[hW];rfl';refine o_2 ?_;rfl';refine DV li ?_;rfl';rw[L];have H:(_H.stepL ((Y++[z]).map ptD) (-1)).length<=40:=by
  unfold _H.stepL;refine Dc (Tl _ _) ?_;rw[Ju,gN];exact U
 refine mV (by simp only[Ca,Fh];unfold lim;lia) ?_
 rfl';refine DB ?_;rfl';refine D6 (CB (wF _ _)) rfl (Dv rfl) ?_;rfl';refine yX (Dv rfl) ?_;rfl';refine sD (show w<16 by lia) λd A=>?_
 rfl';exact J d A
theorem eP (kvs:Aa (_L.Key × D))(k:_L.Key)(d:D):(k∈kvs.map (·.1)/\(zX kvs k d).map (·.1)=kvs.map (·.1))\/(k ∉ kvs.map (·.1)/\(zX kvs k d).map (·.1)=kvs.map (·.1)++[k]):=by
 unfold zX;by_cases h:(kvs.any λJ=>decide (J.1=k))=true
 .rw[Be h]
  obtain⟨p,Y,e⟩:=Ic.mp h;refine .inl ⟨Ci.mpr ⟨p,Y,Bv e⟩,?_⟩;rw[Gk];refine Ki λp Y=>?_;show (if p.1=k then (p.1,d) else p).1=p.1
  split <;> rfl
 .rw[Bg h]
  refine .inr ⟨λz=>h ?_,by rw[Ey];rfl⟩
  obtain⟨p,Y,e⟩:=Ci.mp z;exact Ic.mpr ⟨p,Y,Dl e⟩
structure KI (S:Sto)(k:Ai)(kvs:Aa (_L.Key × D))(P:Ak->Prop):Prop where
 at_:S[k]? = Ab (.dct kvs)
 nd:(kvs.map (·.1)).Nodup
 int:∀ x∈kvs.map (·.1),∃ f,x=.inl f
 mem:∀ f:Ak,(Iu f:_L.Key)∈kvs.map (·.1)↔P f
theorem LS {k:Ai}{P:Ak->Prop}(h:KI S k kvs P)(g:Ak)(d:D):KI (S.set k (.dct (zX kvs (.inl g) d))) k (zX kvs (.inl g) d) (λf=>P f\/f=g):=by
 have U:=(Aw.mp h.at_).1;refine⟨by rw[Dd U],?_,?_,λf=>?_⟩
 all_goals rcases eP kvs (.inl g) d with⟨z,e⟩|⟨z,e⟩
 all_goals rw[e]
 .exact h.nd
 .rw[Ho]
  refine⟨h.nd,by simp,λa Y b J e=>z ?_⟩
  rw[<- Co.mp J,<- e];exact Y
 .exact h.int
 .intro x hx
  rcases By.mp hx with hx|hx
  .exact h.int x hx
  .exact⟨g,Co.mp hx⟩
 .constructor
  .exact λy=>.inl ((h.mem f).mp y)
  .rintro (y|y)
   .exact(h.mem f).mpr y
   .rw[y];exact z
 .rw[By,h.mem f,Co]
  constructor
  .rintro (y|y)
   .exact .inl y
   .exact .inr (Od y)
  .rintro (y|y)
   .exact .inl y
   .exact .inr (by rw[y])
theorem LR {k:Ai}{fs:Aa Ak}(h:KI S k kvs (λf=>f∈fs)):kvs.length=(kys fs).length:=by
 have p:(kvs.map (·.1)).Perm ((kys fs).map Iu):=cQ h.nd (by
  rw[Qm,Ep];exact(LW fs).imp λJ e=>J (Od e)) λx=>by
  constructor
  .intro Y
   obtain⟨f,rfl⟩:=h.int x Y;exact Ci.mpr ⟨f,uE.mpr ((h.mem f).mp Y),rfl⟩
  .intro Y
   obtain⟨f,U,rfl⟩:=Ci.mp Y;exact(h.mem f).mpr (uE.mp U)
 have:=p.length_eq
 rwa [Aq,Aq] at this
theorem VD (m:Aa Pt)(x:Pt)(f:Ak):f∈fars (m++[x])↔f∈fars m\/∃ y∈m,far x y=f:=by
 have p:=(X2 (show (m++[x]).Perm (x::m) from Ia)).mem_iff (a:=f)
 rw[p,x8,By,Ci];exact or_comm
theorem DH {p q:Pt}(hp:InB 1000 p)(Y:InB 1000 q)(h:Q (.int (far p q)) S):Ok (S__law_far [ptD p,ptD q] S) Q:=by
 unfold InB at hp Y;rw[gP];refine zB (env:=[Ab (ptD p),Ab (ptD q),none,none]) rfl ?_;rfl';exact h
theorem DD {k:Ai}(e:S[k]? = Ab (.dct kvs))(h:Q (.int kvs.length) S):Ok (mJ [.loc k] S) Q:=by
 refine⟨_,_,?_,h⟩;show (match jF (.loc k) S with|some kvs=>Res.ok (D.int kvs.length) S|none=>.bad)=_
 rw[rF e]
theorem h8 {f:DE}{Y:Sto}{v:Ac}{x:D}(h:f env S=.ex v x Y):z9 f env S=.ex v x env Y:=by simp only[z9,h,Res.toS]
theorem UB (c:Cl){d:D}(S:Sto)(h:NoL d):S_spare c [d] S=.ex (.ref c.NoLot) .non S:=by
 have U:S_far_table c [d] S=.ex (.ref c.NoLot) .non S:=by
  rw[vD];exact pP (env:=[Ab d]) rfl (NZ ((jC (a:=d) rfl).trans (cO c S h.1 h.2)))
 have Y:S_fars c [d] S=.ex (.ref c.NoLot) .non S:=by
  have z:=(jC (F:=S_far_table c) (f1:=qB 0) (env:=[Ab d]) (S:=S) rfl).trans U;rw[p6];exact pP (env:=[Ab d]) rfl (h8 (by simp only[zI,dIt,z,Res.bind]))
 have J:S_many_fars c [d] S=.ex (.ref c.NoLot) .non S:=by
  have z:=(jC (F:=S_fars c) (f1:=qB 0) (env:=[Ab d]) (S:=S) rfl).trans Y;rw[vE];exact pP (env:=[Ab d]) rfl (h8 (by simp only[qL,qA,z,Res.bind]))
 have z:=(jC (F:=S_many_fars c) (f1:=qB 0) (env:=[Ab d]) (S:=S) rfl).trans J;rw[kL];exact pP (env:=[Ab d]) rfl (h8 (by simp only[d2,z,Res.bind]))
noncomputable def D2 (l:Aa Pt):As:=decide (l≠[])&&decide (l.length<=40)&&upB (l.map kP)&&l.all λq=>decide (InB 1000 q)
theorem i9 {l:Aa Pt}(h:D2 l=true):Lot 40 l:=by
 unfold D2 at h;simp only[Ax,Ch,Cb] at h;refine⟨h.1.1.1,h.1.1.2,?_,h.2⟩;have:=(tH _).mp h.1.2;rw[Ep] at this;exact this
theorem FF (kvs:Aa (_L.Key × D))(k:_L.Key)(d:D):(zX kvs k d).length<=kvs.length+1:=by
 have h:=eP kvs k d;have Y:(zX kvs k d).length=((zX kvs k d).map (·.1)).length:=(Aq _).symm
 rcases h with⟨_,e⟩|⟨_,e⟩
 .rw[Y,e,Aq];lia
 .rw[Y,e,Cf,Aq];simp
def IvL (E:Aa Ak)(_:Aa Ak)(env:qF)(_:Sto):Prop:=∃ L N B T O I J Y U,env=[Ab (.lst (E.map D.int)),L,N,B,T,O,I,J,Y,U]
theorem VZ (c:Cl)(nd:(xW c).Nodup)(O:Aa Ak)(hl:O.length<=63):∃ S,qP 10 (b_law c) [.lst (O.map D.int)] [] = .ok (.bl true) S:=by
 have ze:Ok (qP 10 (b_law c) [.lst (O.map D.int)] []) λd _=>d=.bl true:=by
  refine zB (env:=[Ab (.lst (O.map D.int)),none,none,none,none,none,none,none,none,none]) rfl ?_;unfold b_law;rfl';refine bI c (l:=[(5,5)]) (i9 (kd)) λI _=>?_;rfl';refine bI c (l:=[(0,0),(0,1),(1,0),(1,1)]) (i9 (kd)) λS2 _=>?_;rfl';refine Q7 c (n:=4) li ?_;rfl';have e1:(((kys (fars [(5,5)])).length:Ai):Ak)-bar ([(5,5)]:Aa Pt).length=0:=kd;have e2:(((kys (fars [(0,0),(0,1),(1,0),(1,1)])).length:Ai):Ak)-bar ([(0,0),(0,1),(1,0),(1,1)]:Aa Pt).length=2-bar ((4:Ai):Ak):=kd;rw[e1,e2];refine qU (eS S2 (d:=.lst [.int 0,.int (2-bar ((4:Ai):Ak))]) ⟨Dv rfl,λx g=>?_⟩) ?_
  .simp only[Az,Dq,Hr] at g
   rcases g with rfl|rfl <;> trivial
  array_get_dec;array_get_dec;array_get_dec;array_get_dec;array_get_dec;array_get_dec;refine IC (FU O hl 8 rfl λms=>?_);refine yG (IvL O) ?_ ?_ ⟨_,_,_,_,_,_,_,_,_,rfl⟩
  .rintro y xs _ S ⟨e1,e2,e3,e4,M,o,N,e8,e9,rfl⟩
   rfl';refine CW λp S0 p0=>?_;rfl';refine CT p 40 li p0 λl I k1 L=>?_;have n0:=IN.mpr L.ne;have n1:=L.len;have H:wV I p:=k1.pen;have zg:=eK H;rfl';refine iX (λds env U=>∃ i M o N kvs,env=[Ab (.lst (O.map D.int)),Ab (.int y),Ab (.loc p),Ab (.tup (l.map ptD)),Ab (.loc I.length),M,o,N,e8,e9]/\i<=l.length/\ds=eL i ((l.drop i).map ptD)/\KI U I.length kvs (λf=>f∈fars (l.take i))/\kvs.length<=i*40/\wV U p) ?_ ?_ ⟨0,_,_,_,[],rfl,Hk _,rJ _,⟨wF _ _,Nl,(λx g=>by cases g),λf=>⟨(λh=>by cases h),(λh=>by cases h)⟩⟩,by simp,bK H (Fq _ _)⟩
   .rintro d ds _ U ⟨i,M,o,N,kvs,rfl,hi,J,K,m,E⟩
    cases Y:l.drop i with
    |nil=>rw[Y] at J;cases J
    |cons x j =>
     rw[Y] at J;injection J with h1 h2
     subst h1 h2;have B:l.drop (i+1)=j:=by
      have:=congrArg List.tail Y;simpa [AaO] using this
     have T:i<l.length:=by
      have:=congrArg Kz Y;rw[Hx,Ca] at this
      lia
     have zb:x∈l:=Lv (Y▸Cn ..);have zd:l.take (i+1)=l.take i++[x]:=by
      rw[List.take_succ,show l[i]? = Ab x from by
       have:=congrArg List.head? Y
       rwa [List.head?_drop] at this]
      rfl
     rfl';rw[ZN _ i (by rw[Aq];exact hi),<- Ab1]
     refine yG (λr env U=>∃ N done kvs,env=[Ab (.lst (O.map D.int)),Ab (.int y),Ab (.loc p),Ab (.tup (l.map ptD)),Ab (.loc I.length),Ab (.int (i:Ak)),Ab (ptD x),N,e8,e9]/\done++r=l.take i/\KI U I.length kvs (λf=>f∈fars (l.take i)\/∃ z∈done,far x z=f)/\kvs.length<=i*40+done.length/\wV U p) ?_ ?_ ⟨_,[],kvs,rfl,rfl,⟨K.at_,K.nd,K.int,λf=>by rw[K.mem f];simp⟩,m,E⟩
     .rintro z r _ U ⟨N,done,kvs,rfl,A,K,m,E⟩
      have za:z∈l:=Pj (A▸Cd _ (Cn ..));have zf:done.length<=40:=by
       have:=congrArg Kz A;rw[Cf,Ez] at this
       lia
      rfl';refine DH (L.box x zb) (L.box z za) ?_;refine W0 K.at_ (by unfold lim;lia) ?_
      rfl';have s:=LS K (far x z) (.bl true);refine vA ⟨_,done++[z],_,rfl,by rw[<- A];simp,⟨s.at_,s.nd,s.int,λf=>(s.mem f).trans ?_⟩,?_,?_⟩
      .constructor
       .rintro ((h|⟨w,hw,e⟩)|h)
        .exact .inl h
        .exact .inr ⟨w,Dh _ hw,e⟩
        .exact .inr ⟨z,by simp,h.symm⟩
       .rintro (h|⟨w,hw,e⟩)
        .exact .inl (.inl h)
        .rcases By.mp hw with hw|hw
         .exact .inl (.inr ⟨w,hw,e⟩)
         .rw[Co.mp hw] at e
          exact .inr e.symm
      .have:=FF kvs (.inl (far x z)) (.bl true)
       rw[Cf];show _<=_+(done.length+1)
       lia
      .obtain⟨v,f,e⟩:=E
       exact⟨v,f,by rw[Ce li];exact e⟩
     .rintro _ U ⟨N,done,kvs,rfl,A,K,m,E⟩
      have u:done=l.take i:=by simpa using A
      refine vA ⟨i+1,_,_,_,kvs,rfl,T,by rw[B],⟨K.at_,K.nd,K.int,λf=>?_⟩,?_,E⟩
      .rw[K.mem f,zd,VD,u]
      .have:=congrArg Kz u
       rw[Ez] at this
       lia
   .rintro _ U ⟨i,M,o,N,kvs,rfl,hi,J,K,m,E⟩
    have T:i=l.length:=by
     cases Y:l.drop i with
     |cons _ _=>rw[Y] at J;cases J
     |nil =>
      have:=List.drop_eq_nil_iff.mp Y
      lia
    subst T;rw[List.take_length] at K;have q:=LR K;rfl';refine DD K.at_ ?_;rfl';rw[Aq];refine Q7 c ⟨n0,n1⟩ ?_;rfl';rw[q];have hb:=T9 L;refine bH ?_;rfl';refine⟨λz=>absurd (Bv z) li,λ_=>?_⟩;refine bH ?_;rfl';refine bI c L λS2 p2=>?_;rfl';refine qU (eS S2 (d:=.int _) trivial) ?_;rfl';refine⟨(λz=>by cases z),λ_=>?_⟩
    rfl';refine bI c L λS3 p3=>?_;rfl';refine qU (eS S3 (d:=.int _) trivial) ?_;rfl';refine zF (UE p 40 li l L S3 (bK (bK E p2) p3)) λbd S4 zc=>?_;rfl';refine CZ (by rw[Ge];simp[p9]) (cL c nd) (caps:=[bd]) rfl ((jC (a:=bd) rfl).trans (UB c S4 zc)) ?_
    rfl';refine qU (d:=.bl false) (S:=S4) (by kernel_rfl!) ?_
    rfl';exact vA ⟨_,_,_,_,_,_,_,_,_,rfl⟩
  .rintro _ S ⟨e1,e2,e3,e4,M,o,N,e8,e9,rfl⟩
   rfl';exact rfl
 obtain⟨d,U,e,rfl⟩:=ze;exact⟨U,e⟩
end _K
namespace _K
open PySem PySem.Spec PyProof.Rows _L _D
variable {mg:Ar->Am Ac}
theorem yY {P:Bf}{w:Bx}{K:Aj}{base:Bo}{c:Cl}(T:Txt K mg c){k:Ai}{F:DF}(d:DfS F P w K mg base true k "_law_same" 2):DfS (qP 2 (b__law_same F)) P w K mg base true (k+1) "_law_same" 2:=by
 refine dq P w base k 22 T rfl ck rfl ?_
 intros
 repeat' first
  |with_reducible exact ck
  |((with_reducible show QE _ _ _);with_reducible first|apply aV|apply KP|apply WD|apply aBt|apply aO|(apply aB;first|apply GC|apply GB|apply GA|apply Y9)|apply aC|apply WG|apply WC|apply WE|apply WA)
  |((with_reducible show _=_);first|exact T.nb ck|exact kA _|exact rfl|with_unfolding_all rfl)
  |((with_reducible show ZOp _ _ _);with_reducible first|apply EL|apply EU|apply EM)
  |((with_reducible show RoomC _ _ _);first|assumption|exact RoomC.mono (by assumption)|exact RoomC.mono (RoomC.any (by assumption))|exact RoomC.mark (by assumption) _|exact RoomC.mono (RoomC.mark (by assumption) _))
  |((with_reducible show St1 _ _ _ _);exact⟨rfl,rfl⟩)
  |((with_reducible show DfS _ _ _ _ _ _ _ _ _ _);assumption)
  |with_reducible first|apply W9|apply mZ|apply bN|apply iF|apply W8|apply WM|(apply KR;first|apply t8|apply sH)|apply WN|apply t8|apply sH|apply aNm|apply WH|apply eQ|apply iG|apply WK|apply WJ|apply iI|apply iH|apply WL|apply KQ|apply K4
  |((with_reducible apply aSt);case hs=>exact rfl)
  |((with_reducible show ClA _ _ _ _);first|assumption|exact ClA.tr (by assumption))
  |((with_reducible show LmX _ _ _ _ _ _ _ _ _ _);assumption)
  |((with_reducible show DfL _ _ _ _ _ _ _ _ _ _ _ _ _);assumption)
  |((with_reducible show J _ _ _ _);first|apply Y|apply Q)
  |exact λ_=>⟨rfl,rfl,rfl⟩
  |(intro h;cases h;done)
  |((with_reducible show ZPass _);first|assumption|exact o3)
  |exact⟨rfl,rfl⟩
  |exact⟨rfl,rfl,rfl⟩
  |apply mZ
  |apply bN
  |(intros;rfl)
  |(intro _ h;cases h <;> rfl)
  |decide
  |intro _
theorem BK {P:Bf}{w:Bx}{K:Aj}{base:Bo}{c:Cl}(T:Txt K mg c)(nd:(xW c).Nodup)(hT:(LY.all λy=>(Dt K y).isSome)=true):∃ F,sM P w K mg base true 12 "law" ["_law_script"] F/\∀ ns:Aa Ak,ns.length<=63->∃ S,F [.lst (ns.map D.int)] [] = .ok (.bl true) S:=by
 refine hv (λ_=>?_) (dq (cm:=true) P w base 0 0 T rfl ck (gU) ?_);refine hv (λ_=>?_) (dq (cm:=true) P w base 1 1 T rfl ck (k8) ?_);refine hv (λ_=>?_) (dq (cm:=true) P w base 0 2 T rfl ck (jZ) ?_);refine hv (λ_=>?_) (dq (cm:=true) P w base 2 3 T rfl ck (uK c) ?_);refine hv (λ_=>?_) (dq (cm:=true) P w base 2 4 T rfl ck (gT) ?_);refine hv (λ_=>?_) (dq (cm:=true) P w base 3 5 T rfl ck (bU) ?_);refine hv (λ_=>?_) (dq (cm:=true) P w base 4 6 T rfl ck (u3 c) ?_);refine hv (λ_=>?_) (dq (cm:=true) P w base 0 7 T rfl ck (uJ) ?_);refine hv (λ_=>?_) (dq (cm:=true) P w base 1 8 T rfl ck (u7) ?_);refine hv (λ_=>?_) (dq (cm:=true) P w base 5 9 T rfl ck (vD c) ?_);refine hv (λ_=>?_) (dq (cm:=true) P w base 6 10 T rfl ck (p6 c) ?_);refine hv (λ_=>?_) (dq (cm:=true) P w base 7 11 T rfl ck (vE c) ?_);refine hv (λ_=>?_) (dqL (cm:=true) (g:=b_least_where) (N:=5) P w base 3 3 1 12 T rfl ck ?_);refine hv (λ_=>?_) (dq (cm:=true) P w base 0 13 T rfl ck (jA) ?_);refine hv (λ_=>?_) (dq (cm:=true) P w base 4 14 T rfl ck (p5 c) ?_);refine hv (λ_=>?_) (dq (cm:=true) P w base 1 15 T rfl ck (yT) ?_);refine hv (λ_=>?_) (dq (cm:=true) P w base 4 16 T rfl ck (jB c) ?_);refine hv (λ_=>?_) (dq (cm:=true) P w base 5 17 T rfl ck (gS c) ?_);refine hv (λ_=>?_) (dq (cm:=true) P w base 6 18 T rfl ck (sO c) ?_);refine hv (λ_=>?_) (dq (cm:=true) P w base 8 19 T rfl ck (kL c) ?_);refine hv (λ_=>?_) (dq (cm:=false) P w base 0 20 T rfl ck (j9 c) ?_);refine hv (λ_=>?_) (dqL (cm:=true) (g:=b__law_refused c) (N:=2) P w base 10 10 0 21 T rfl ck ?_);have s0:DfS (tB 0) P w K mg base true 0 "_law_same" 2:=⟨GZ (T.src 22 rfl)⟩;have d__law_same:DfS S__law_same P w K mg base true 4 "_law_same" 2:=jY▸yY T (yY T (yY T (yY T s0)));refine hv (λ_=>?_) (dq (cm:=true) P w base 0 23 T rfl ck (jV) ?_);refine hv (λ_=>?_) (dq (cm:=true) P w base 0 24 T rfl ck (gR) ?_);refine hv (λ_=>?_) (dq (cm:=true) P w base 0 25 T rfl ck (jW) ?_);refine hv (λ_=>?_) (dq (cm:=true) P w base 0 26 T rfl ck (gP) ?_);refine hv (λ_=>?_) (dq (cm:=true) P w base 0 27 T rfl ck (uH) ?_);refine hv (λ_=>?_) (dq (cm:=true) P w base 1 28 T rfl ck (jX) ?_);refine hv (λ_=>?_) (dq (cm:=true) P w base 2 29 T rfl ck (gQ) ?_);refine hv (λ_=>?_) (dq (cm:=true) P w base 1 30 T rfl ck (uI) ?_);refine⟨_,dqP 11 31 T rfl ck ?_,VZ c nd⟩
 all_goals
  intros
  repeat' first
   |with_reducible exact ck
   |((with_reducible show QE _ _ _);with_reducible first|apply aV|apply RG|apply KP|apply RK|apply WD|apply aBt|apply aGi|apply aCl|apply aO|apply aN|(apply aB;first|apply GC|apply GB|apply GA|apply ES|apply JQ|apply EO|apply Y9|apply JO|apply EN)|(apply aT;first|apply MR|apply ER|apply IH)|apply aC|apply WG|apply RI|apply FL|apply RH|apply AI|apply UR|apply FM|apply AJ|apply WC|apply UP|apply RJ|apply AK|apply WE|apply WA|apply AH|apply FK|apply RF|apply FI|apply RE|apply cR|(apply t7;(case slot=>apply Qk);(case' hm=>first|apply JP))|(apply t7;(case slot=>apply PySem.F.slot_list_append);(case' hm=>first|apply JN))|(apply t7;(case slot=>apply Ud);(case' hm=>first|apply MN))|(apply t7;(case slot=>apply Ue);(case' hm=>first|apply MP))|(apply t7;(case slot=>apply PySem.F.slot_list_pop);(case' hm=>first|apply MQ))|apply RC)
   |((with_reducible show _=_);first|exact T.nb ck|with_reducible apply Nh|with_reducible apply Uo|with_reducible apply Qq|with_reducible apply To|with_reducible apply Uq|with_reducible apply Ur|with_reducible apply Wg|exact kA _|exact rfl|with_unfolding_all rfl)
   |((with_reducible show ZOp _ _ _);with_reducible first|apply IE|apply EJ|apply EK|apply IR|apply ET|apply IK|apply IF|apply IJ|apply IP|apply qAT|apply qAS|apply qAQ|apply qAP|apply IL|apply EL|apply EU|apply EM|apply II|apply IG)
   |((with_reducible show RoomC _ _ _);first|assumption|exact RoomC.mono (by assumption)|exact RoomC.mono (RoomC.any (by assumption))|exact RoomC.mark (by assumption) _|exact RoomC.mono (RoomC.mark (by assumption) _))
   |((with_reducible show St1 _ _ _ _);exact⟨rfl,rfl⟩)
   |((with_reducible show DfS _ _ _ _ _ _ _ _ _ _);assumption)
   |with_reducible first|apply W9|apply mZ|apply bN|apply iF|apply W8|apply aK0|apply aK|apply FQ|apply FR|apply FP|apply RP|apply RW|apply WM|apply UX|(apply KR;first|apply iJ|apply t8|apply WQ|apply sH)|apply WN|apply iJ|apply t8|apply WQ|apply sH|apply aNm|apply WH|apply RM|apply eQ|apply iG|apply RO|apply UT|apply WK|apply FO|apply US|apply WJ|apply RN|apply iI|apply iH|apply WL|apply KQ|apply FS|apply RS|apply UW|apply aP2|apply aRs|apply aTr|apply IM|apply qAR|apply IQ|apply K4|apply Nh|apply Uo|apply Qq|apply To|apply Uq|apply Ur|apply Wg
   |((with_reducible apply aCs);case hsw=>exact rfl)
   |((with_reducible apply aSt);case hs=>exact rfl)
   |with_reducible apply RQ
   |exact T.cls
   |exact T.cl (by kernel_rfl)
   |exact T.rz (by kernel_rfl)
   |exact T.ct
   |exact T.gi (by kernel_rfl)
   |((with_reducible apply IW);(case D=>assumption))
   |((with_reducible apply IX);(case D=>assumption))
   |((with_reducible show ClA _ _ _ _);first|assumption|exact ClA.tr (by assumption))
   |((with_reducible show LmX _ _ _ _ _ _ _ _ _ _);assumption)
   |((with_reducible show DfL _ _ _ _ _ _ _ _ _ _ _ _ _);assumption)
   |((with_reducible show LmK _ _);refine lmK hT (by assumption) ?_ rfl)
   |((with_reducible show ZF _ _ _ _);first|apply aFn|apply aFn0)
   |exact λ_=>⟨rfl,rfl,rfl⟩
   |(intro h;cases h;done)
   |((with_reducible show ZPass _);first|assumption|exact o3)
   |exact⟨rfl,rfl⟩
   |exact⟨rfl,rfl,rfl⟩
   |apply mZ
   |apply bN
   |decide
   |(intros;rfl)
   |(intro _ h;cases h <;> rfl)
   |intro _
end _K
namespace _K
open PySem PySem.Spec PyProof.Rows _L _D
variable {K:Aj}
theorem bdf:BdF top tab:=by
 repeat (refine⟨?_,?_⟩;(intro _ _ _ _ _ _ Q h;first|(obtain⟨_,rfl⟩:=us1 h;rfl)|(obtain⟨_,_,rfl⟩:=us2 h;rfl)|(obtain⟨_,_,_,rfl⟩:=us3 h;rfl)))
 exact trivial
theorem EZ {O N B G C U L E T J Q Y:Af}(q0:Dw K Ct "FarError" = Ab (Ab (.ref O)))(q1:Dw K Ct "NoPoint" = Ab (Ab (.ref N)))(q2:Dw K Ct "NoLot" = Ab (Ab (.ref B)))(q3:Dw K Ct "NoNumber" = Ab (Ab (.ref G)))(q4:Dw K Ct "NoCircle" = Ab (Ab (.ref C)))(q5:Dw K Ct "NoMarks" = Ab (Ab (.ref U)))(q6:Dw K Ct "NoFars" = Ab (Ab (.ref L)))(q7:Dw K Ct "NoText" = Ab (Ab (.ref E)))(q8:Dw K Ct "NoLine" = Ab (Ab (.ref T)))(q9:Dw K Ct "NoDeed" = Ab (Ab (.ref J)))(q10:Dw K Ct "Alike" = Ab (Ab (.ref Q)))(q11:Dw K Ct "TooMany" = Ab (Ab (.ref Y))):o4 K (clt ⟨O,N,B,G,C,U,L,E,T,J,Q,Y⟩):=⟨q0,q1,q2,q3,q4,q5,q6,q7,q8,q9,q10,q11,trivial⟩
theorem H9 {k0 k1 k2:Te}(J:Dw K Ct "LEAST_NUMBER" = Ab (Ab (.int (-1000) k0)))(Y:Dw K Ct "MOST_NUMBER" = Ab (Ab (.int (1000) k1)))(Q:Dw K Ct "MOST_POINTS" = Ab (Ab (.int (40) k2))):o6 K cst:=⟨⟨_,J⟩,⟨_,Y⟩,⟨_,Q⟩,trivial⟩
theorem LZ {P:Bf}{w:Bx}{mg:Ar->Am Ac}{c:Cl}{fa:Af}(T:Txt K mg c)(nd:(xW c).Nodup)(hT:(LY.all λy=>(Dt K y).isSome)=true)(hfa:mg "law" = Ab (.ref fa)) :
  ∃ fd:Fu,(∀ (s:Ag) (v:Ac),Om s fd ⟨[v],[]⟩ [("_law_script",v)])/\∀ base:Bo,K.In base->base.Ns Ct mg->FnOk P w K mg base (CXd P w) 12 fa fd ["_law_script"] (sI K):=
 BL (T.src 31 rfl) hfa (λkV doc pm an cdv ct s v=>.of_eq rfl) λbase=>BK T nd hT
end _K
theorem PySem.W.Fast.tw7711184790086149902 : True := trivial
theorem PySem.W.Fast.tw14253735648636988085 : True := trivial
theorem PySem.W.Fast.tw9131627493923865604 : True := trivial
theorem PySem.W.Fast.tw832257611205812617 : True := trivial
theorem PySem.W.Fast.tw4919043061662893085 : True := trivial
theorem PySem.W.Fast.tw11920975462685905940 : True := trivial
theorem PySem.W.Fast.tw56519818140825286 : True := trivial
theorem PySem.W.Fast.tw2447774703773784397 : True := trivial
theorem PySem.W.Fast.tw4184260451803238082 : True := trivial
theorem PySem.W.Fast.tw12422595295599966537 : True := trivial
theorem PySem.W.Fast.tw12065071193026979110 : True := trivial
theorem PySem.W.Fast.tw17226035152930149533 : True := trivial
theorem PySem.W.Fast.tw9414668064328697914 : True := trivial
theorem PySem.W.Fast.tw14392139332444849111 : True := trivial
theorem PySem.W.Fast.tw7011449908561574568 : True := trivial
theorem PySem.W.Fast.tw14638704127393712485 : True := trivial
theorem PySem.W.Fast.tw6509332521423927467 : True := trivial
theorem PySem.W.Fast.tw8529851476379011878 : True := trivial
theorem PySem.W.Fast.tw654293349307312494 : True := trivial
theorem PySem.W.Fast.tw3628461718085341067 : True := trivial
theorem PySem.W.Fast.tw8732314115472502704 : True := trivial
theorem PySem.W.Fast.tw18111263630041073340 : True := trivial
theorem PySem.W.Fast.tw2423498216420064524 : True := trivial
theorem PySem.W.Fast.tw5708207649521348840 : True := trivial
theorem PySem.W.Fast.tw9021044619548187338 : True := trivial
theorem PySem.W.Fast.tw1475108676088145098 : True := trivial
theorem PySem.W.Fast.tw15558277642434538144 : True := trivial
theorem PySem.W.Fast.tw1728899622321723367 : True := trivial
theorem PySem.W.Fast.tw1178242563415462333 : True := trivial
theorem PySem.W.Fast.tw9431106962613750848 : True := trivial
theorem PySem.W.Fast.tw3078163691182043298 : True := trivial
theorem PySem.W.Fast.tw16874340920205538128 : True := trivial
theorem PySem.W.Fast.tw10849679113723474088 : True := trivial
theorem PySem.W.Fast.tw13325126538848384475 : True := trivial
theorem PySem.W.Fast.tw6806750519772167053 : True := trivial
theorem PySem.W.Fast.tw3498229483328223089 : True := trivial
theorem PySem.W.Fast.tw2544532926338906551 : True := trivial
theorem PySem.W.Fast.tw9071456333025279663 : True := trivial
theorem PySem.W.Fast.tw12613036408606594188 : True := trivial
theorem PySem.W.Fast.tw3992414237252910187 : True := trivial
theorem PySem.W.Fast.tw12596315913678588766 : True := trivial
theorem PySem.W.Fast.tw18037632922568397702 : True := trivial
theorem PySem.W.Fast.tw2024680151292434664 : True := trivial
theorem PySem.W.Fast.tw17003744883874832625 : True := trivial
theorem PySem.W.Fast.tw7669028070691452383 : True := trivial
theorem PySem.W.Fast.tw11388346334520529149 : True := trivial
theorem PySem.W.Fast.tw11097089365073752951 : True := trivial
theorem PySem.W.Fast.tw4006538189900571799 : True := trivial
theorem PySem.W.Fast.tw541703016468491743 : True := trivial
theorem PySem.W.Fast.tw10459172200010775726 : True := trivial
theorem PySem.W.Fast.tw13953109203112524216 : True := trivial
theorem PySem.W.Fast.tw4933340445887938050 : True := trivial
theorem PySem.W.Fast.tw17827005733522080126 : True := trivial
theorem PySem.W.Fast.tw15676385248693335349 : True := trivial
theorem PySem.W.Fast.tw4862813785358206036 : True := trivial
theorem PySem.W.Fast.tw5840677788591420217 : True := trivial
theorem PySem.W.Fast.tw9074581782958004240 : True := trivial
theorem PySem.W.Fast.tw2388968135157480685 : True := trivial
theorem PySem.W.Fast.tw13653332373181871687 : True := trivial
theorem PySem.W.Fast.tw1102353129233085049 : True := trivial
theorem PySem.W.Fast.tw16128951014057808471 : True := trivial
theorem PySem.W.Fast.tw8059942109986661436 : True := trivial
theorem PySem.W.Fast.tw18378454716584542322 : True := trivial
theorem PySem.W.Fast.tw12373234322267118679 : True := trivial
theorem PySem.W.Fast.tw9727406928097440916 : True := trivial
theorem PySem.W.Fast.tw2217265951167104257 : True := trivial
theorem PySem.W.Fast.tw6217455791725251522 : True := trivial
theorem PySem.W.Fast.tw13572052489241219142 : True := trivial
theorem PySem.W.Fast.tw1458465662324325297 : True := trivial
theorem PySem.W.Fast.tw12715220234807359085 : True := trivial
theorem PySem.W.Fast.tw12464823485277995160 : True := trivial
theorem PySem.W.Fast.tw16258662723561104081 : True := trivial
theorem PySem.W.Fast.tw7671136793500453873 : True := trivial
theorem PySem.W.Fast.tw9786377794762938490 : True := trivial
theorem PySem.W.Fast.tw3903625748389749832 : True := trivial
theorem PySem.W.Fast.tw12377119037442557797 : True := trivial
theorem PySem.W.Fast.tw9582854711826175814 : True := trivial
theorem PySem.W.Fast.tw10727321190202483298 : True := trivial
theorem PySem.W.Fast.tw11600816808314428303 : True := trivial
theorem PySem.W.Fast.tw12645244307676301201 : True := trivial
theorem PySem.W.Fast.tw4445733758018382811 : True := trivial
theorem PySem.W.Fast.tw12362229764303236090 : True := trivial
theorem PySem.W.Fast.tw16782639656164687553 : True := trivial
theorem PySem.W.Fast.tw3294869734517305579 : True := trivial
theorem PySem.W.Fast.tw1449552745770898735 : True := trivial
theorem PySem.W.Fast.tw7015499208863358463 : True := trivial
theorem PySem.W.Fast.tw5080988938407874058 : True := trivial
theorem PySem.W.Fast.tw11638122849360953579 : True := trivial
theorem PySem.W.Fast.tw11625224642567352922 : True := trivial
theorem PySem.W.Fast.tw3258012518840189134 : True := trivial
theorem PySem.W.Fast.tw18435712501618756925 : True := trivial
theorem PySem.W.Fast.tw17618697684957726321 : True := trivial
theorem PySem.W.Fast.tw14573738786444841079 : True := trivial
theorem PySem.W.Fast.tw9655215946918304912 : True := trivial
theorem PySem.W.Fast.tw18075451080480927176 : True := trivial
theorem PySem.W.Fast.tw11578920492467530404 : True := trivial
theorem PySem.W.Fast.tw13413205161965602114 : True := trivial
open PySem PySem.W PyProof.Rows
set_option maxRecDepth 100000 in
set_option maxHeartbeats 0 in
theorem PySem.Challenge.cw_fewdistances_k92_what_lots_have_beyond_holds : PySem.Challenge.rw_fewdistances_k92_what_lots_have_beyond.Holds := by
 w_on;o_law;k_head;(case hw=>w_witness2)
 k_fill
 refine _D.ID (l:=Pz) (k:=12) (x:="_law_script") rfl rfl ⟨rfl,by decide,by decide,rfl⟩ (λ_=>by kernel_rfl) (λw h Y=>PySem.W.km_in_of Y) ?F
 case F =>
  intro w mg fa h KX G hmg
  refine' _K.LZ (_D.AZ _K.bdf ?hp rfl KX G ?s ?z (_K.EZ ?q0 ?q1 ?q2 ?q3 ?q4 ?q5 ?q6 ?q7 ?q8 ?q9 ?q10 ?q11) (_K.H9 ?gi0 ?gi1 ?gi2) ?e1 ?e2 ?e3 ?e4 ?e5 ?e6) ?nd ?hT hmg
  (case s=>(repeat (refine' ⟨_D.SrcF.mk ?a ?l ?c ?k,?_⟩;(case a=>k_is);(case l=>k_is);(case c=>k_is);(case k=>k_is)));exact trivial)
  (case z=>rfl)
  (case q0=>k_is)
  (case q1=>k_is)
  (case q2=>k_is)
  (case q3=>k_is)
  (case q4=>k_is)
  (case q5=>k_is)
  (case q6=>k_is)
  (case q7=>k_is)
  (case q8=>k_is)
  (case q9=>k_is)
  (case q10=>k_is)
  (case q11=>k_is)
  (case gi0=>k_is)
  (case gi1=>k_is)
  (case gi2=>k_is)
  (case hp=>intro y hy;revert hy;simp;grind)
  (case e1=>rfl)
  (case e2=>rfl)
  (case e3=>rfl)
  (case e4=>rfl)
  (case e5=>rfl)
  (case e6=>rfl)
  (case nd=>decide)
  (case hT=>rfl)
