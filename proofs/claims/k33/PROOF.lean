import PyProof.Rows.All
import Wide.All
import OpenK.AllK
import Wide.FinOn
import Lean
import PyProof.EqAt
import PyProof.EqKinds
import PyProof.TupleCall
import KE.KLam
import KE.KTryMore
import KE.KIsAll
import PyProof.NeKinds
import PyProof.Rows.CountFlat
import PyProof.Rows.FStr
import PyProof.ZipIter
import PyProof.EnumMake
import PyProof.EnumStmt
import KE.KDictLaws
import PyProof.DictWalks
import PyProof.Rows.SetFrom
import PyProof.SumWalkG
import PyProof.Rows.SumGenD
import PyProof.SeqI2
import KE.KItemsList
import PyProof.SetKind
import PyProof.TupleKey
import KE.KSortTup
import PyProof.ReprRoads
import PyProof.ReprBulk
import PyProof.TupleOfSeq
import PyProof.WalkInts
import PyProof.SeqI3
import PyProof.Rows.RuleDivmod
import PyProof.ListRange
import KE.KPairComp
import KE.KMinKey
import PyProof.Rows.CallKwBuiltin
import KE.KDictList
import PyProof.DictTruth
import PySem.Challenge.RW_fewdistances_k33_whole_unlike_lots
set_option Elab.async false
set_option linter.all false
set_option maxRecDepth 100000
set_option maxHeartbeats 0
set_option tactic.hygienic false
set_option bootstrap.genMatcherCode false
set_option genSizeOf false
set_option compiler.extract_closed false
open Array renaming length_toList->Bm,getElem?_toList->Bn,getElem?_eq_some_iff->Dx,getElem?_eq_getElem->Eb,toList_append->Ec,toList_push->En,getD_eq_getD_getElem?->Ff,getD->Gs,size_extract->Jh,toList_extract->Kb,toList_reverse->Mc,mem_toList_iff->Pd,perm_iff_toList_perm->Rf,getElem?_eq_none->Uk,size_map->Vn,append_assoc->Xc,forIn_toList->Xo,toList->Xu,toList_inj->Zv
open Bool renaming and_eq_true->Bq,false_eq_true->Cb,noConfusion->Dv,and_eq_true_iff->Gj,false_and->Hj,false_ne_true->Ic,eq_iff_iff->Js,not_true->Lf,not_eq_true'->Ny,true_and->Ou,and_false->Qk,or_eq_true->Ub,not_false->Vo,and_true->AaF
open Classical renaming byContradiction->Ft,choose_spec->Lp,choose->Md
open False renaming elim->Aq
open ForInStep renaming yield->Lc
open Int renaming le_trans->Fu,toNat_natCast->Gq,le_of_lt->Hw,emod_lt_of_pos->Kv,emod_nonneg->Mv,le_refl->Ow,not_lt->Wu,toNat_of_nonneg->Wy
open List renaming length_map->Ak,getElem?_eq_getElem->Ao,length_append->Aw,mem_cons->Az,length_cons->AT,prefix_refl->Be,getElem?_eq_some_iff->Bi,size_toArray->Bj,getElem?_append_left->Bl,mem_map->Br,mem_append_right->Bu,mem_append->Bz,length_nil->Cd,getElem?_set_ne->Ce,all_eq_true->Cf,append_assoc->Ch,mem_singleton->Ci,mem_cons_of_mem->Cn,mem_iff_getElem->Cs,mem_of_getElem?->Cy,range->Cz,mem_append_left->Dc,map_cons->De,getElem?_append_right->Dg,mem_cons_self->Dl,not_mem_nil->Dm,pairwise_append->Dn,mem_range->Do,map_append->Dr,pairwise_cons->Dw,getElem?_map->Dy,length_singleton->Dz,getElem?_set_self->Ed,map_map->Eh,length_take->Eu,length_range->Fk,append_nil->Fq,length->Fy,pairwise_map->Ga,zip_cons_cons->Gi,take_of_length_le->Gn,drop_eq_getElem_cons->Gr,pairwise_singleton->Hi,nodup_nil->Hl,getD_eq_getElem?_getD->Hv,extract_eq_take_drop->Ia,length_filter_le->Ib,nodup_cons->Il,getD->Im,filterMap_cons->Ir,range_succ_eq_map->Ja,perm_append_comm->Jl,all_map->Jn,mem_filter->Jp,find?_cons->Jr,nil_append->Jt,nodup_append->Jw,pairwise_iff_getElem->Jx,mem_of_find?_eq_some->Jz,length_drop->Kj,lookup_cons->Kk,getElem_mem->Kl,length_pos_iff->Ko,filter_eq_self->Kq,length_eq_zero_iff->Kr,find?_eq_none->Kw,any_cons->La,drop_eq_nil_of_le->Lb,drop_of_length_le->Li,flatMap_cons->Ly,ext_getElem->Me,reverse_append->Mp,findSome?_cons->Mr,forIn_cons->Mt,foldl_cons->Mw,getElem?_take_of_lt->Nc,mem_filterMap->Nd,prefix_append->Ng,mergeSort_nil->Ni,filter_append->Nj,forIn_nil->Nq,pairwise_lt_range->Oe,lookup->Oo,take_append_drop->Ox,mem_flatMap->Pa,mem_erase_of_ne->Pg,mem_of_mem_take->Ph,of_mem_zip->Pl,eq_nil_of_length_eq_zero->Pp,find?_some->Ps,map_congr_left->Qc,mem_map_of_mem->Qe,zip_nil_right->Qq,perm_ext_iff_of_nodup->Rc,map_id->Rg,zip_nil_left->Rp,all_cons->Rw,getElem_take->Rz,getElem_drop->Sa,map_drop->Sg,find?_append->Sh,sublist_append_right->Si,length_erase_of_mem->Sr,getElem_inj->Sw,zipIdx_cons->Ta,map_fst_zip->Td,any_eq_true->Th,getElem?_replicate->Tj,getElem?_cons_succ->Tq,find?_cons_of_neg->Uc,length_pos_of_mem->Uf,length_zip->Um,filter_eq_nil_iff->Uq,countP_mono_left->Ve,singleton_append->Vf,mem_of_mem_drop->Vw,reverse_reverse->Vz,nodup_iff_count->Wa,map_take->Wz,sum_cons->WF,lookup_append->Xl,getElem?_drop->Xn,count_pos_iff->Xr,map_nil->Xw,any_map->Xy,ext_getElem?->Yz,foldl_append->Zc,getElem_map->Zp,nodup_range->Zq,filter_cons->Zr,countP_cons->Zu,map_flatMap->Zx,isEmpty_iff->Zy,zipIdx_nil->sB,filter_map->wP,Nodup->Aa1,replicate->Aa4,take_zero->Aa8
open List.Pairwise renaming nil->Nv,imp_of_mem->So
open List.Perm renaming append_left->Jk,append_right->Lg,refl->Nt,trans->Pr
open Nat renaming le_refl->Av,lt_of_lt_of_le->Bh,ne_of_lt->Cw,le_trans->Df,lt_irrefl->Ei,zero_le->Fh,le_of_lt->Fi,ne_of_gt->Gf,zero_add->Hg,mul_le_mul->Hn,le_add_right->HT,lt_of_le_of_ne->Ie,lt_trans->Io,add_le_add_left->Iy,lt_succ_self->Jb,pos_of_ne_zero->Jg,add_sub_cancel_left->Ku,le_antisymm->Lh,eq_zero_of_not_pos->Lj,not_lt->Lo,le_of_lt_succ->Lu,add_lt_of_lt_sub'->Lw,one_pos->Lx,sub_lt->Mq,le_succ->Mu,lt_of_le_of_lt->Nh,succ_pos->Nm,lt_succ_of_lt->Ob,le_of_ble_eq_true->Oy,mod_lt->Py,add_right_comm->Qt,lt_of_succ_lt->Sd,sub_pos_of_lt->Se,le_of_not_lt->Sy,min_eq_right->Tg,min_self->Tl,add_comm->Ts,min_eq_left->Uo,add_le_of_le_sub'->Vg,le_of_sub_eq_zero->Vh,lt_sub_of_add_lt->Vx,add_le_add_right->Vy,add_sub_cancel'->Wv,le_of_eq->Yc,sub_self->Yd,add_zero->Ye,lt_trichotomy->Yx,add_mul->Zw,add_le_add->Aa7
open Ne renaming symm->Fb
open Option renaming some->Ab,bind_eq_some_iff->Fj,map_eq_some_iff->Gm,isSome_iff_exists->Nb,isNone_iff_eq_none->Sj,getD_some->Sz,bind_some->Tf,map_some->Ug,isSome_some->Xi,isNone_none->Xt,isSome_map->Yo,getD_none->Zj,none->AaL
open Option.some renaming inj->Dd
open Or renaming inr->Xa,inl->Zl
open Prod renaming ext->WP
open PyProof.Rows renaming wpS_bind->Bb,step_dedup->Bc,wpS_pure->Bp,Keyed->Bs,seqObj->Eo,slot_tuple_getitem->Fg,wpS_forRange->Fl,IntsAre->Fw,SortSt->Gc,envOfC->Hc,callWith_type1->Hk,wpS_mono->Ht,wpS_modify->Jo,SortKind->Mz,get?_update_seq->Na,wpS_get->Nn,IsTup->Of,AllBare->Og,callWith_builtin1->Pb,lt_int->Pv,assignInOrder_cons->Qp,wpS_lift->Rh,subscriptTail->Rr,subscriptTail_builtinR->TD,gallopOf->Ul,entry_tuple_getitem->Wh,args_tuple_getitem->Xg,assignInOrder_nil->Yh,entry_list_sort->v6,Subscript_->xL
open PyProof.Rows.F renaming plain_set_update_loop->Je,entry_set_update_loop->Mx
open PyProof.Rows.IntsAre renaming int_at->Qn
open PyProof.Rows.IsTup renaming new->Yi
open PyProof.Rows.SortSt renaming mk'->Dk
open PySem renaming Value->Ac,wpAny_bind->Ad,Addr->Af,Shared->Ag,wpAny_pure->Am,wpAny->Ap,model->As,Str->Au,Program->Bg,intKind->Bk,starEach->Bo,Around->Bt,tupleKeyHash->Bv,Heap->Bw,Expr->By,World->Ca,compareOp->Cc,Obj->Cu,mainGlobals->Di,cLine->Du,Comprehension->DL,wpAny_newObj_type->Ee,wpAny_callSpecial?_slot->Eg,wpAny_holding->Ej,wpAny_field->El,wpAny_call_entry->Em,foldedSetIterable->Ev,Scope->Ey,wpAny_setField_rec->EQ,Pos->Fc,wpAny_seqItems->Fe,binaryOp->Fm,SetTable->Fn,sizeLine_eq->Fp,FuncData->Fx,wpAny_pyIter_list->Fz,wpAny_setState_of->Gb,Stmt->Gd,bootBuiltins->Ge,codeAny_builtin->Gh,wpAny_rule->Go,mem_of_lookup->Gp,backTo->Gw,wpAny_pyIter_tuple->Ha,assignEach->Hb,wpAny_mono->Hq,cellsFrom->Hx,Builtin->Ih,NameKind->Ik,codeAny->Iw,plainId_quiet->Ix,wpAny_forIn_list->IN,wpAny_Call_Name_kw->Jf,IsPair->Jj,codeAny_mono->Jm,wpAny_passesOwn->Jq,argBest->Jy,Env->Kc,sysModules->Ki,wpAny_askSetting->Km,letOwnedTupleGo->Kx,richCompare_meets_room->Kz,wpAny_attempt->Ld,Sem->Ln,wpAny_letGo->Lr,swappedStores->Mf,swapsWithSole->Mi,wpAny_standAt->Mj,behindInMarks->Mk,attributeBase->Mm,sliceBounds->Ms,wpAny_updateSeq->My,getItem->Nk,wpAny_typeOf->Nl,pyNext->No,wpAny_setField->Nr,wpAny_tryCatch->Nu,swapsWith->Nw,ofAClassStatement->NE,wpAny_storeSet_of->Oa,Operator->Oc,pyIter->Oh,rawInt->Ol,BindsTo->Om,noFill_tuple_add->On,wpAny_isInstance->Os,builtinLookup_eq_fast->Ot,wpAny_updateSeq_pair->Pe,Model->Pj,wpAny_execs_nil->Pk,codeAny_of_tree->Po,pickOrder->Pq,builtinsNs->Pu,IsTupleKey->Pz,recursionLimit->Qg,firstArgMember->Qi,IsZip->Qj,tupleKind_room_in1->Qr,wpAny_newFunctionEnv_cells->Qw,richCompare->Qx,IsPart->Qy,hashByValue->Re,PassesOwn->Rk,wpAny_truthy_bool->Rl,seq_tuple_add->Rq,callerA->Ru,standAt->Rv,wpAny_onRaise->Rx,setSearchFrom->Sb,wpAny_comprehension_free->Sl,call_meets->Sx,Tok->Ti,wpAny_Call_method0_late->To,valueAt->TW,wpAny_specialOf->Ua,typeLookup_type->Ue,wpAny_ite_split->Uj,tupleKind->Us,CmpOp->Ut,Arguments->Uu,codeAny_call_function->Uv,wpAny_of_eq->Ux,IsEnum->Uz,argsOk->Va,weight_type_call_type->Vc,wpAny_newTuple->Vk,isSubtype_stop->Vl,newFunctionEnv->Vm,wpAny_runValue->Vp,isSubtype_type->Vq,wpAny_loadName_local->Vr,codeAny_call_builtin->Vv,wpAny_loadName_cell->Wc,assignInOrder->Wd,bindL->Wf,bindC->Wg,typeLookup->Wi,atKey->Wk,wpAny_call->Wl,evalArgs_none->Wn,intKind_is->Wr,wpAny_setEntries_of->Wt,wpAny_newList->Ww,setState->Xb,concat_meets->Xv,call_meetsIn->XV,wpAny_assign_Name->Yg,wpAny_sequenceKey->Yl,slot_list_getitem->Ym,list_append->Yn,lastMarks->Yp,ClassData->Yq,pushCells->Ys,wpAny_pyIter_enum->Yt,searchCouldBeSeen->Yw,wpAny_pyIter_slot->Yy,wpAny_collect_seq->Zb,wpAny_eqBool_int->Zd,wpAny_execs_cons->Ze,unaryOp->Zf,Result->Zh,seqIndex_of->Zi,wpAny_pyIter_zip->Zo,setAdd->Zs,check_set_init_1->Zt,GenState->Zz,bindName->ZB,bindArgs->f8,compTurn->sK,pushCells_keeps->u8,wpAny_stack_any->v4,wpAny_Name->wS,call->x0,Within->AaJ,isTrue->AaK
open PySem.Around renaming under_plainId->Fo,frames_deeper->Vs,under_plain->Xq
open PySem.AutoSeq1 renaming wpAny_loadPart'->Gz,sub_tuple_tuple->Ke
open PySem.Builtin.Builtins renaming bindParams->AaA
open PySem.Builtin.Frozenset renaming updateFrom->Qb,sizeOf->Ss,newClass->AaB
open PySem.Builtin.List renaming listLengthHint->Ql,listExtendWith->Qm,listSameRef->Su
open PySem.Builtin.Slice renaming slicePlaces->Jv,sliceAdjust->Ml,sliceApplied->Qz,slicePartIndex->wT
open PySem.Builtin.SmallTypes renaming nextOf->Ea,ownedTupleIsFree->Er,ownedTupleHandOut->Gx
open PySem.Builtin.Tuple renaming tupleCompareSizes->Hy,tupleExact->Kg,tupleItemsOf->Ra
open PySem.Calls renaming callWith_builtin->Od,spliced_cons->Qs,Name_function_global->Qv,spliced_nil->Ro,call_function_entry->Sf,evalArgs_plain->Vu
open PySem.Code renaming quiet_builtin->Xp,compLoop->AaG
open PySem.F renaming called_set->Dp,plain_min_loop->Ex,args_tuple_add_2->Gy,entry_tuple_add->He,slot_tuple_add->Hr,slot_tuple_iterator_next->Ji,plainAttrs_dict->Ks,entry_min_loop->Lm,slot_enumerate_next->Ls,slot_zip_next->Pm,args_tuple_iterator_next_1->Pw,slot_dict_setdefault->Px,type_dict_setdefault->Qf,entry_tuple_iterator_next->Qh,excBase_ValueError->Rb,slot_dict_values->Sm,type_list_append->Sv,args_tuple_lt_2->Tk,args_enumerate_next_1->Tn,entry_type_call->Tt,plain_list_iadd->Tu,slot_dict_items->Tv,plainAttrs_list->Tw,entry_tuple_lt->T0,entry_enumerate_next->Ud,typeCall_set_1->Uh,entry_set_init->Ui,slot_tuple_lt->Uw,plain_set_new->Vb,slot_set_iter->Vd,args_list_append_2->Vt,entry_list_append->Wj,slot_list_append->Xh,args_zip_next_1->Yr,entry_zip_next->Zn
open PySem.Heap renaming get?_push_of_some->Ah,get?_push_size->Ay,lt_size->Ba,get?_update_other->Cj,size_push->Dt,get?_update_self->Es,SameBut->Ez,get?_none_of_le->Ka,FlyingW->Xx,IsTuple->Xz,IsList->Zm,MadeExcOf->Aa5
open PySem.Heap.IsSliceOf renaming new->AaM
open PySem.Heap.SameBut renaming update->Hs,refl->Ry
open PySem.IsL renaming update->Zk
open PySem.NameKind renaming free->Hz,cell->Op
open PySem.Obj renaming mapSeq->Ew,mapFields->Ws,data_mapFields->Xm,putSet->Aa2
open PySem.SeqAt.EqAt renaming same->AaE
open PySem.SetTable renaming insertAt->Cg,below->Co,sizeAbove->Fa,grown->Hm,runEnd->Hu,insertAt_perm->Jc,fill->Mn,Probe->Nz,toList_insertAt->Sn,tooFull->Tc,laid->Wp,fits->Wq,has->Ya,layClean->Yv,slot->AaH
open PySem.SetTable.below renaming go->Yu
open PySem.SetTable.layClean renaming free->Jd
open PySem.SetTable.probe renaming go->Lv
open PySem.Shared renaming heap->Oq,TypeIs->Sc
open PySem.Str renaming ofString->Gg,empty->AaD
open PySem.Value renaming ref->Dh,none->Dq,bool->Ig,type->Iq,notImplemented->Mb,int->Ri,str->Yf,isStrOf->AaC
open PySem.W renaming Frag->Aj,tabIn->Ep,nsIn->Et,kia_one->Fd,fnOf->Gu,keepIn->Gv,cellsFrom_some->Ky,kitOne->Lz,codeIn->Ma,findIn->Np,hideAll->Pi,tabObj->Qo,methodObj->Rj,kitx_list->Rm,nsMap_none_of_in->Sk,instObj->Tz,lookIn->Vj,hideAll_get->Wb,mroIn->We,mg_of->Wx,of_hideAll->Xd,kitx_tuple->Xe,codeRec_of->Xf,callWith_K->Xj,isNs_of_in->Xk,specialIn->Yj,kitx_dict->Yk,plainGet->Zg,takesIn->dL,OpenLaw->wE,CodeHd->Aa3,nsOkIn->Aa6,exmOne->Aa9,WalkO->AaI
open PySem.Walks renaming list->Aa0
open PySem.pickOrder renaming go->Yb
open Sum renaming inl->Ho,inr->Tx
open Sum.inl renaming inj->Ur
open True renaming intro->Iu
open _root_ renaming List->Aa,Nat->Ai,Option->Al,Int->An,Bool->Ar,Array->Ax,if_pos->Bd,if_neg->Bf,decide_eq_true->Cp,decide_eq_true_eq->Cq,of_decide_eq_true->Ct,decide_eq_false->Dj,if_true->Ds,if_false->Ef,String->Ek,False->Fv,beq_self_eq_true->Gk,or_false->Hd,decide_eq_false_iff_not->Ip,Decidable->Ju,beq_eq_false_iff_ne->Kh,decide_true->Kn,decide_false->Kt,StateT->Ov,True->Pc,DecidableEq->Qu,decide_eq_decide->Te,not_or->Uy,Unit->Vi,beq_iff_eq->Wm,decide_eq_true_iff->Xs,bne_self_eq_false->Za
noncomputable section
theorem om {p:Prop}(h:p:=by omega):p:=h
theorem li {p:Prop}(h:p:=by lia):p:=h
theorem kd {p:Prop}[Ju p](h:p:=by decide +kernel):p:=h
section
namespace _L
open PySem PySem.Spec PyProof.Rows
abbrev Key:=Sum An Au
noncomputable def gO:Key->Ac->Ar
 |.inl k,v=>Value.isInt k v
 |.inr x,v=>AaC x v
noncomputable def AO (w:Ca):Key->An
 |.inl k=>hashInt k
 |.inr x=>hashStr w x
theorem x5:∀ {k:Key} {v:Ac},gO k v=true->(∃ i t,k=Ho i/\v=Ri i t)\/(∃ x t,k=Tx x/\v=Yf x t)
 |.inl i,v,h=>by
  obtain⟨t,e⟩:=Value.isInt_shape (k:=i) (v:=v) h;exact .inl ⟨i,t,rfl,e⟩
 |.inr x,v,h=>by
  obtain⟨t,e⟩:=Value.isStrOf_shape (x:=x) (v:=v) h;exact .inr ⟨x,t,rfl,e⟩
theorem ZS (i:An)(t:Ti):gO (.inl i) (.int i t)=true:=by simp[gO,Value.isInt]
theorem ZT (x:Au)(t:Ti):gO (.inr x) (.str x t)=true:=by simp[gO,AaC]
theorem NH (a b:An):decide ((Ho a:Key)=Ho b)=(a == b):=by
 by_cases e:a=b
 .subst e;simp
 .have h:¬ (Ho a:Key)=Ho b:=λq=>e (Ur q)
  rw[Dj h];exact(Kh.mpr e).symm
theorem NK (a b:Au):decide ((Tx a:Key)=Tx b)=decide (a=b):=by
 by_cases e:a=b
 .subst e;simp
 .have h:¬ (Tx a:Key)=Tx b:=λq=>e (Sum.inr.inj q)
  rw[Dj h,Dj e]
theorem NI (a:An)(b:Au):decide ((Ho a:Key)=Tx b)=false:=Dj (λq=>nomatch q)
theorem NJ (a:Au)(b:An):decide ((Tx a:Key)=Ho b)=false:=Dj (λq=>nomatch q)
noncomputable def zK (prog:Bg)(w:Ca):PySem.KeyKind prog w Key where
 is:=gO
 hash:=AO w
 inj:=λv a b ha hb=>by
  rcases x5 ha with⟨i,t,rfl,rfl⟩|⟨x,t,rfl,rfl⟩
  .rcases x5 hb with⟨j,u,rfl,e⟩|⟨y,u,rfl,e⟩
   .injection e with e1 _;rw[e1]
   .exact nomatch e
  .rcases x5 hb with⟨j,u,rfl,e⟩|⟨y,u,rfl,e⟩
   .exact nomatch e
   .injection e with e1 _;rw[e1]
 byValue:=λk v h=>by
  rcases x5 h with⟨i,t,rfl,rfl⟩|⟨x,t,rfl,rfl⟩ <;> rfl
 pyHash:=λhv h=>by
  rcases x5 hv with⟨i,t,rfl,rfl⟩|⟨x,t,rfl,rfl⟩
  .exact wpAny_pyHash_int h
  .exact wpAny_pyHash_str h
 eqBool:=λhu hv h=>by
  rcases x5 hu with⟨i,t,rfl,rfl⟩|⟨x,t,rfl,rfl⟩
  .rcases x5 hv with⟨j,u,rfl,rfl⟩|⟨y,u,rfl,rfl⟩
   .rw[NH] at h;exact Zd h
   .rw[NI] at h;exact SeqAt.EqAt.int_str i t y u _ _ _ _ h
  .rcases x5 hv with⟨j,u,rfl,rfl⟩|⟨y,u,rfl,rfl⟩
   .rw[NJ] at h;exact SeqAt.EqAt.str_int x t j u _ _ _ _ h
   .rw[NK] at h;exact wpAny_eqBool_str h
 «strs»:=λk x t v h=>by
  rcases x5 h with⟨i,u,rfl,e⟩|⟨y,u,rfl,e⟩
  .exact nomatch e
  .injection e with e1 _
   subst e1;cases v <;> rfl
theorem h9 (prog:Bg)(w:Ca)(i:An)(t:Ti):(zK prog w).is (.inl i) (.int i t)=true:=ZS i t
theorem hJ (prog:Bg)(w:Ca)(x:Au)(t:Ti):(zK prog w).is (.inr x) (.str x t)=true:=ZT x t
end _L
namespace _L
open PySem PySem.Spec PyProof.Rows
inductive V where
 |non|bl (b:Ar)|int (i:An)|str (x:Au)|byt (b:Ax UInt8)|flt (b:UInt64)|ref (a:Af)|ty (n:Ek)
 deriving Qu
def qG:V->Ac->Prop
 |.non,u=>u=Dq
 |.bl b,u=>u=Ig b
 |.int i,u=>∃ t,u=Ri i t
 |.str x,u=>∃ t,u=Yf x t
 |.byt b,u=>∃ t,u=Value.bytes b t
 |.flt b,u=>∃ t,u=Value.float b t
 |.ref a,u=>u=Dh a
 |.ty n,u=>u=Iq n
abbrev qJ:Aa V->Aa Ac->Prop:=Paired qG
theorem qJ.length {xs:Aa V}{us:Aa Ac}(r:qJ xs us):xs.length=us.length:=Paired.length r
theorem qJ.get:∀ {xs:Aa V} {us:Aa Ac} {i:Ai} {x:V},qJ xs us->xs[i]? = Ab x->∃ u,us[i]? = Ab u/\qG x u
 |_,_,_,_,.nil,e=>by simp at e
 |_,_,0,_,.cons r _,e=>by simp at e;subst e;exact⟨_,rfl,r⟩
 |_,_,i+1,x,.cons _ t,e=>by
  obtain⟨u,h1,h2⟩:=qJ.get (i:=i) (x:=x) t (by simpa using e)
  exact⟨u,by simpa using h1,h2⟩
theorem qJ.set {x:V}{u:Ac}(r:qG x u):∀ {xs:Aa V} {us:Aa Ac} (i:Ai),qJ xs us->qJ (xs.set i x) (us.set i u)
 |_,_,_,.nil=>.nil
 |_,_,0,.cons _ t=>.cons r t
 |_,_,i+1,.cons q t=>.cons q (qJ.set r i t)
theorem qJ.append {xs ys:Aa V}{us ws:Aa Ac}(h:qJ xs us)(s:qJ ys ws):qJ (xs++ys) (us++ws):=by
 induction h with
 |nil=>exact s
 |cons r t ih=>exact .cons r ih
theorem qJ.take:∀ {xs:Aa V} {us:Aa Ac} (n:Ai),qJ xs us->qJ (xs.take n) (us.take n)
 |_,_,0,_=>.nil
 |_,_,_+1,.nil=>.nil
 |_,_,n+1,.cons r t=>.cons r (qJ.take n t)
theorem qJ.drop:∀ {xs:Aa V} {us:Aa Ac} (n:Ai),qJ xs us->qJ (xs.drop n) (us.drop n)
 |_,_,0,r=>r
 |_,_,_+1,.nil=>.nil
 |_,_,n+1,.cons _ t=>qJ.drop n t
def uL:Al V->Al Ac->Prop
 |some v,Ab u=>qG v u
 |none,none=>Pc
 |_,_=>Fv
def KV {κ : Type}:Aa (κ × V)->Aa (κ × Ac)->Prop:=Paired λ(p:κ × V) (q:κ × Ac)=>p.1=q.1/\qG p.2 q.2
noncomputable def kV:Key->V
 |.inl i=>.int i
 |.inr x=>.str x
inductive HO where
  |lst (xs:Aa V)
  |tup (xs:Aa V)
  |dK (kvs:Aa (Key × V))|dT (kvs:Aa (Aa Key × V))
  |set (S:An->Ar) (n:Ai)
  |ins (C dx:Af) (fs:Aa (Au × V))
  |own (x:Af)
  |xd (fs:Aa (Au × V))
  |met (f x:Af)
  |rng (lo hi:An)
  |frz (o:Cu) (u:HO)
  |tbl (ps:Ax Ac)
  |ext (φ : Bw->Prop)
abbrev Hp:=Af->Al HO
noncomputable def upd (H:Hp)(a:Af)(o:HO):Hp:=λb=>if b=a then Ab o else H b
theorem zD {H:Hp}{a:Af}{o:HO}:upd H a o a=Ab o:=by unfold upd;rw[Bd rfl]
theorem qP {H:Hp}{a b:Af}{o:HO}(h:b≠a):upd H a o b=H b:=by unfold upd;rw[Bf h]
theorem EG {H:Hp}{a b:Af}{o u:HO}(h:H a=Ab o)(h':H b=Ab u)(d:o≠u):a≠b:=by
 intro e;subst e;rw[h] at h';exact d (Dd h')
theorem zF {H:Hp}{a b:Af}{o:HO}(h:H a=Ab o)(h':H b=none):a≠b:=by
 intro e;subst e;rw[h] at h';cases h'
section
variable (P:Bg)(w:Ca)
def zL (H:Hp)(h:Bw)(a:Af):HO->Prop
 |.lst xs=>xs.length<=sizeLine/\∃ (its:Aa Ac) (n:Ai),qJ xs its/\h.get? a=Ab { cls:=.type "list",data:=.seq its.toArray n }
 |.tup xs=>xs.length<=sizeLine/\∃ its:Aa Ac,qJ xs its/\Of h a its.toArray
 |.dK kvs=>kvs.length<=sizeLine/\(a == Ki)=false/\∃ vs,KV kvs vs/\h.DictOf (zK P w) a vs
 |.dT kvs=>kvs.length<=sizeLine/\(a == Ki)=false/\∃ xs:Aa (Aa Key × Af × Ac),
   Paired (λ(p:Aa Key × V) (q:Aa Key × Af × Ac)=>p.1=q.1/\H q.2.1=Ab (.tup (p.1.map kV))/\qG p.2 q.2.2) kvs xs /\
   ∃ o es ep,h.get? a=Ab o/\o.ExactDict/\o.data=.dict es ep/\es.toList=xs.map (entryOfKey (Us (zK P w)))/\(xs.map (·.1)).Nodup
 |.set S n=>h.SetOf (Bk P w) a S n
 |.ins C dx fs=>H dx=Ab (.own a)/\fs.length<=1000/\dx≠a/\h.get? a=Ab (Tz C dx) /\
   ∃ mA,h.Ns1 dx mA/\(∀ f,uL (fs.lookup f) (mA f))/\AaJ mA (fs.map (·.1))
 |.own _=>∃ o,h.get? a=Ab o
 |.xd fs=>∃ mA,h.Ns1 a mA/\∀ f,uL (fs.lookup f) (mA f)
 |.rng lo hi=>∃ t u v,h.get? a=Ab { cls:=.type "range",data:=.fields #[.int lo t,.int hi u,.int 1 v] }
 |.frz o u=>h.get? a=Ab o/\zL H h a u
 |.tbl ps=>h.get? a=Ab { cls:=.none,data:=.fields ps }
 |.met f x=>h.get? a=Ab (Rj (.ref f) (.ref x))
 |.ext φ => φ h/\(∃ o,h.get? a=Ab o)/\∀ h1 h2:Bw,φ h1->(∀ o,h1.get? a=Ab o->h2.get? a=Ab o)->φ h2
def HOk (H:Hp)(h:Bw):Prop:=∀ a o,H a=Ab o->zL P w H h a o
end
section
variable {P:Bg}{w:Ca}{H H':Hp}{h h':Bw}{a:Af}{o:HO}
theorem zL.lt (x:zL P w H h a o):a<h.objs.size:=by
 cases o with
 |lst xs=>obtain⟨_,_,_,_,e⟩:=x;exact Ba e
 |tup xs=>obtain⟨_,_,_,p⟩:=x;exact p.lt
 |dK kvs=>obtain⟨_,_,_,_,o,_,_,e,_⟩:=x;exact Ba e
 |dT kvs=>obtain⟨_,_,_,_,o,_,_,e,_⟩:=x;exact Ba e
 |set S n=>obtain⟨o,_,_,_,e,_⟩:=x;exact Ba e
 |ins C dx fs=>obtain⟨_,_,_,e,_⟩:=x;exact Ba e
 |own y=>obtain⟨_,e⟩:=x;exact Ba e
 |xd fs=>obtain⟨_,⟨_,_,_,e,_⟩,_⟩:=x;exact Ba e
 |rng lo hi=>obtain⟨_,_,_,e⟩:=x;exact Ba e
 |frz ob u=>obtain⟨e,_⟩:=x;exact Ba e
 |tbl ps=>exact Ba (show h.get? a=Ab _ from x)
 |met f y=>exact Ba (show h.get? a=Ab _ from x)
 |ext φ => obtain⟨_,⟨_,e⟩,_⟩:=x;exact Ba e
theorem Paired.mapP {α β:Type}{F G:α->β->Prop}{l₁:Aa α}{l₂:Aa β}(h:Paired F l₁ l₂)(f:∀ a b,F a b->G a b):Paired G l₁ l₂:=by
 induction h with
 |nil=>exact .nil
 |cons r t ih=>exact .cons (f _ _ r) ih
theorem zL.stay (x:zL P w H h a o)(k:∀ b u,(b=a\/H b=Ab (.own a))->h.get? b=Ab u->h'.get? b=Ab u)
  (ho:∀ b,H b=Ab (.own a)->H' b=Ab (.own a)) (ht:∀ b xs,H b=Ab (.tup xs)->H' b=Ab (.tup xs)):zL P w H' h' a o:=by
 induction o with
 |lst xs=>obtain⟨z,its,n,r,e⟩:=x;exact⟨z,its,n,r,k _ _ (.inl rfl) e⟩
 |tup xs=>obtain⟨z,its,r,ob,e,c⟩:=x;exact⟨z,its,r,ob,k _ _ (.inl rfl) e,c⟩
 |dK kvs=>obtain⟨z,y,vs,r,ob,es,ep,e,c⟩:=x;exact⟨z,y,vs,r,ob,es,ep,k _ _ (.inl rfl) e,c⟩
 |dT kvs =>
  obtain⟨z,y,xs,r,ob,es,ep,e,c⟩:=x;exact⟨z,y,xs,Paired.mapP r λp q z=>⟨z.1,ht _ _ z.2.1,z.2.2⟩,ob,es,ep,k _ _ (.inl rfl) e,c⟩
 |set S n=>obtain⟨ob,es,ep,t,e,c⟩:=x;exact⟨ob,es,ep,t,k _ _ (.inl rfl) e,c⟩
 |ins C dx fs =>
  obtain⟨d,z,ne,e,mA,⟨od,es,ep,e2,c⟩,r⟩:=x;exact⟨ho _ d,z,ne,k _ _ (.inl rfl) e,mA,⟨od,es,ep,k _ _ (.inr d) e2,c⟩,r⟩
 |own y=>obtain⟨ob,e⟩:=x;exact⟨ob,k _ _ (.inl rfl) e⟩
 |xd fs=>obtain⟨mA,⟨od,es,ep,e,c⟩,r⟩:=x;exact⟨mA,⟨od,es,ep,k _ _ (.inl rfl) e,c⟩,r⟩
 |rng lo hi=>obtain⟨t,u,v,e⟩:=x;exact⟨t,u,v,k _ _ (.inl rfl) e⟩
 |frz ob u ih=>obtain⟨e,q⟩:=x;exact⟨k _ _ (.inl rfl) e,ih q⟩
 |tbl ps =>
  have e:h.get? a=Ab { cls:=.none,data:=.fields ps }:=x;show h'.get? a=Ab { cls:=.none,data:=.fields ps };exact k a _ (.inl rfl) e
 |met f y =>
  have e:h.get? a=Ab (Rj (.ref f) (.ref y)):=x;show h'.get? a=Ab (Rj (.ref f) (.ref y));exact k a _ (.inl rfl) e
 |ext φ => obtain⟨p,⟨o,e⟩,st⟩:=x;exact⟨st _ _ p λo q=>k _ _ (.inl rfl) q,⟨o,k _ _ (.inl rfl) e⟩,st⟩
theorem HOk.lt (x:HOk P w H h)(e:H a=Ab o):a<h.objs.size:=(x a o e).lt
theorem HOk.fresh (x:HOk P w H h)(e:h.objs.size<=a):H a=none:=by
 cases q:H a with
 |none=>rfl
 |some u=>exact absurd (Bh (x.lt q) e) (Ei _)
theorem HOk.kept (x:HOk P w H h)(k:∀ b u,h.get? b=Ab u->h'.get? b=Ab u):HOk P w H h':=λa o e =>
 (x a o e).stay (λb u _ q=>k b u q) (λ_ q=>q) λ_ _ q=>q
theorem HOk.laid (x:HOk P w H h)(k:∀ b u,h.get? b=Ab u->h'.get? b=Ab u)(hp:h.objs.size<=a)(new:zL P w (upd H a o) h' a o):HOk P w (upd H a o) h':=λb u e=>by
 have hn:=x.fresh hp;by_cases hb:b=a
 .subst hb;rw[zD] at e;cases e;exact new
 .rw[qP hb] at e
  exact(x b u e).stay (λc v _ q=>k c v q) (λc q=>by rw[qP (zF q hn)];exact q) λc xs q=>by rw[qP (zF q hn)];exact q
end
def Rd (H:Hp)(a:Af)(u:HO):Prop:=H a=Ab u\/∃ o,H a=Ab (.frz o u)
theorem Rd.of {H:Hp}{a:Af}{u:HO}(h:H a=Ab u):Rd H a u:=.inl h
theorem Rd.ok {P:Bg}{w:Ca}{H:Hp}{h:Bw}{a:Af}{u:HO}(r:Rd H a u)(x:HOk P w H h):zL P w H h a u:=by
 rcases r with r|⟨o,r⟩
 .exact x a u r
 .obtain⟨_,q⟩:=x a _ r
  exact q
def Mut:Al HO->Prop
 |some (.lst _)=>Pc
 |some (.dK _)=>Pc
 |some (.dT _)=>Pc
 |some (.set _ _)=>Pc
 |some (.ins _ _ _)=>Pc
 |some (.ext _)=>Pc
 |_=>Fv
section
variable {P:Bg}{w:Ca}{H:Hp}{h h':Bw}{x e:Af}{o':HO}
theorem HOk.write (ok:HOk P w H h)(mu:Mut (H x))(he:e=x\/H e=Ab (.own x))(k:∀ b u,b≠e->h.get? b=Ab u->h'.get? b=Ab u)(heo:∃ u,h'.get? e=Ab u)
  (new:zL P w (upd H x o') h' x o'):HOk P w (upd H x o') h':=λb u q=>by
 have nown:∀ c y,H c=Ab (.own y)->c≠x:=λc y r z=>by subst z;rw[r] at mu;exact mu
 have ntup:∀ c xs,H c=Ab (.tup xs)->c≠x:=λc xs r z=>by subst z;rw[r] at mu;exact mu
 by_cases hb:b=x
 .subst hb;rw[zD] at q;cases q;exact new
 .rw[qP hb] at q
  by_cases hbe:b=e
  .have q':H b=Ab (.own x):=by
    rcases he with z|z
    .exact absurd (hbe.trans z) hb
    .rw[hbe];exact z
   rw[q] at q';cases q';obtain⟨v,hv⟩:=heo;exact⟨v,by rw[hbe];exact hv⟩
  .refine(ok b u q).stay (λc v hc r=>k c v ?_ r) (λc r=>by rw[qP (nown c b r)];exact r) λc xs r=>by rw[qP (ntup c xs r)];exact r
   rcases hc with rfl|hc
   .exact hbe
   .rintro rfl
    rcases he with z|z
    .exact nown c b hc z
    .rw[hc] at z;cases z;exact hb rfl
end
structure Un (fs ex:Aa Af)(H H':Hp)(h h':Bw):Prop where
 keep:∀ b o,h.get? b=Ab o->H b=none->b ∉ fs->b ∉ ex->h'.get? b=Ab o
 slot:∀ b o,h.get? b=Ab o->H b=none->b∈fs->b ∉ ex->∃ sl,h'.get? b=Ab { o with slots:=sl }
 free:∀ b o,h.get? b=Ab o->H b=none->b ∉ ex->H' b=none
 there:∀ b o,h.get? b=Ab o->b ∉ ex->∃ o',h'.get? b=Ab o'
 tups:∀ b xs,H b=Ab (.tup xs)->H' b=Ab (.tup xs)
 frzs:∀ b o u,H b=Ab (.frz o u)->H' b=Ab (.frz o u)
 tbls:∀ b ps,H b=Ab (.tbl ps)->∃ more,H' b=Ab (.tbl (ps++more))
section
variable {fs fs' ex ex':Aa Af}{H H1 H2:Hp}{h h1 h2 h':Bw}{a x e:Af}{o:HO}
theorem Un.any (u:Un fs ex H H1 h h1){b:Af}{ob:Cu}(q:h.get? b=Ab ob)(n:H b=none)(hx:b ∉ ex):∃ sl,h1.get? b=Ab { ob with slots:=sl }:=by
 by_cases hb:b∈fs
 .exact u.slot b ob q n hb hx
 .exact⟨ob.slots,u.keep b ob q n hb hx⟩
theorem Un.trans (a:Un fs ex H H1 h h1)(b:Un fs ex H1 H2 h1 h2):Un fs ex H H2 h h2 where
 keep:=λc ob q n hc hx=>b.keep c ob (a.keep c ob q n hc hx) (a.free c ob q n hx) hc hx
 slot:=λc ob q n hc hx=>by
  obtain⟨sl,e1⟩:=a.slot c ob q n hc hx;obtain⟨sl',e2⟩:=b.slot c _ e1 (a.free c ob q n hx) hc hx;exact⟨sl',e2⟩
 free:=λc ob q n hx=>by
  obtain⟨o',e1⟩:=a.there c ob q hx;exact b.free c o' e1 (a.free c ob q n hx) hx
 there:=λc ob q hx=>by
  obtain⟨o',e1⟩:=a.there c ob q hx;exact b.there c o' e1 hx
 tups:=λc xs q=>b.tups c xs (a.tups c xs q)
 frzs:=λc ob xs q=>b.frzs c ob xs (a.frzs c ob xs q)
 tbls:=λc ps q=>by
  obtain⟨m1,e1⟩:=a.tbls c ps q;obtain⟨m2,e2⟩:=b.tbls c _ e1;exact⟨m1++m2,by rw[e2,Xc]⟩
theorem Un.kept (k:∀ b u,h.get? b=Ab u->h'.get? b=Ab u):Un fs ex H H h h':=
 ⟨λb ob q _ _ _=>k b ob q,λb ob q _ _ _=>⟨ob.slots,k b ob q⟩,λ_ _ _ n _=>n,λb ob q _=>⟨ob,k b ob q⟩,λ_ _ q=>q,λ_ _ _ q=>q,λ_ ps q=>⟨#[],by rw[q];simp⟩⟩
theorem Un.refl:Un fs ex H H h h:=Un.kept λ_ _ q=>q
theorem Un.laid (k:∀ b u,h.get? b=Ab u->h'.get? b=Ab u)(hp:h.objs.size<=a)(hn:H a=none):Un fs ex H (upd H a o) h h' where
 keep:=λb u q _ _ _=>k b u q
 slot:=λb u q _ _ _=>⟨u.slots,k b u q⟩
 free:=λb u q n _=>by rw[qP (Cw (Bh (Ba q) hp))];exact n
 there:=λb u q _=>⟨u,k b u q⟩
 tups:=λb xs q=>by rw[qP (zF q hn)];exact q
 frzs:=λb u xs q=>by rw[qP (zF q hn)];exact q
 tbls:=λb ps q=>⟨#[],by rw[qP (zF q hn),q];simp⟩
theorem Un.write (mu:Mut (H x))(he:e=x\/H e=Ab (.own x))(k:∀ b u,b≠e->h.get? b=Ab u->h'.get? b=Ab u)(heo:∃ u,h'.get? e=Ab u):Un fs ex H (upd H x o) h h':=by
 have hx:∀ b,H b=none->b≠x:=λb n z=>by subst z;rw[n] at mu;exact mu
 have hb:∀ b,H b=none->b≠e:=λb n z=>by
  subst z;rcases he with r|r
  .exact hx b n r
  .rw[n] at r;cases r
 have hm:∀ b u,H b=Ab u->¬ Mut (Ab u)->b≠x:=λb u q nm z=>by subst z;rw[q] at mu;exact nm mu
 refine⟨λb u q n _ _=>k b u (hb b n) q,λb u q n _ _=>⟨u.slots,k b u (hb b n) q⟩,λb u q n _=>by rw[qP (hx b n)];exact n,λb u q _=>?_,
  λb xs q=>by rw[qP (hm b _ q λz=>z)];exact q,λb u xs q=>by rw[qP (hm b _ q λz=>z)];exact q,λb ps q=>⟨#[],by rw[qP (hm b _ q λz=>z),q];simp⟩⟩
 by_cases hbe:b=e
 .subst hbe;exact heo
 .exact⟨u,k b u hbe q⟩
end
noncomputable def trk (h:Bw)(H:Hp):Aa Af:=(Cz h.objs.size).filter λa=>(H a).isSome
noncomputable def gI (h:Bw)(H:Hp):Bw:=Pi h (trk h H)
theorem ZK (h:Bw)(H:Hp):(gI h H).objs.size=h.objs.size:=PySem.W.hideAll_size _ _
theorem V1 {h:Bw}{H:Hp}{b:Af}{o:Cu}(e:h.get? b=Ab o)(n:H b=none):(gI h H).get? b=Ab o:=
 Wb _ e λhm=>by
  have q:(H b).isSome=true:=(Jp.mp hm).2;rw[n] at q;simp at q
theorem PU {h:Bw}{H:Hp}{b:Af}{o:Cu}(e:(gI h H).get? b=Ab o):h.get? b=Ab o/\H b=none:=by
 have e':h.get? b=Ab o:=Xd (trk h H) e;refine⟨e',?_⟩;cases q:H b with
 |none=>rfl
 |some x =>
  have hm:b∈trk h H:=Jp.mpr ⟨Do.mpr (Ba e'),by simp[q]⟩
  have z:(gI h H).get? b=none:=PySem.W.hideAll_none (trk h H) hm;rw[z] at e;cases e
end _L
namespace _L
open PySem PySem.Spec PyProof.Rows
variable {ch:Aa Af}{E:Ac->Ag->Prop}{t':Ai}{g':Ax Zz}{d':Drawn}{M:Pj}{Q:Vi->Ag->Prop}
noncomputable def yZ:Aa Au:=["law","_law_right","by_hull","pair_bound","hub","greatest_often"]
def FX (mg:Au->Al Ac)(h:Bw):Prop:=∃ bm o,mg "__builtins__" = Ab (.ref bm)/\bm≠Pu/\h.get? bm=Ab o/\o.cls=.type "module" /\ o.dict=Ab Pu/\o.data=.plain
structure Mod (K:Aj)(mg:Au->Al Ac)(base:Bw):Prop where
 kin:K.In base
 glob:base.Ns Di mg
 blt:∃ mb,base.Ns Pu mb/\∀ x:Au,x ≠ "__name__" -> mb x=Ge x
 nolimit:base.NoLimit
 bm:FX mg base
 code:∀ x∈yZ,∀ c T,Ep K x=Ab (c,T)->Aa3 base c T
 inj:∀ x∈yZ,∀ y∈yZ,∀ c d T,Ep K x=Ab (c,T)->Ep K y=Ab (d,T)->x=y
structure Cx where
 prog:Bg
 w:Ca
 K:Aj
 mg:Au->Al Ac
 base:Bw
 A:Bt
 N:Aa Au
 s₀:Ag
 H₀:Hp
 env:Kc
 outer:Aa Kc
 stack:Aa Kc
 ex:Aa Af
 fn:Au->Ar
 calm:Ar
 pn:Aa (Af × Cu)
 xe:Ac->Ag->Prop
noncomputable def frs (l:Aa Kc):Aa Af:=l.filterMap (·.frame)
abbrev Cx.fs (X:Cx):Aa Af:=frs X.outer
def Vis (sc:Ey)(x:Au):Prop:=sc.names.lookup x=Ab .local \/ sc.names.lookup x=Ab .cell\/sc.names.lookup x=Ab .free
def Loc (sc:Ey)(x:Au):Prop:=sc.names.lookup x=Ab .local \/ sc.names.lookup x=Ab .cell
def CW (env:Kc)(h:Bw)(m:Au->Al Ac)(x:Au)(u:Ac):Prop:=
 (env.kindOf x=Ab .local /\ m x=Ab u)\/((env.kindOf x=Ab .cell\/env.kindOf x=Ab .free)/\∃ c,env.cells.lookup x=Ab c/\h.IsCell c (Ab u))
structure Cx.Ok (X:Cx):Prop where
 mod:Mod X.K X.mg X.base
 kind:X.env.scope.kind=.function
 glob:X.env.globals=Di
 blt:X.env.builtins=Pu
 above:X.s₀.heap.objs.size<=X.env.locals
 inj:∀ x y c,X.env.cells.lookup x=Ab c->X.env.cells.lookup y=Ab c->x=y
 has:∀ x,(X.env.kindOf x=Ab .cell\/X.env.kindOf x=Ab .free)->∃ c,X.env.cells.lookup x=Ab c
 cab:∀ x c,X.fn x=true->X.env.cells.lookup x=Ab c->X.s₀.heap.objs.size<=c
 hd:X.calm=true->X.A.handled=none
 frames:X.A.frames=Ab X.stack
 stk:X.stack=X.outer\/(X.stack=X.env::X.outer/\X.env.frame=Ab X.env.locals)
 exf:∀ b∈X.ex,b≠X.env.locals/\∀ x c,X.env.cells.lookup x=Ab c->c≠b
 bs:∀ b o,X.base.get? b=Ab o->X.s₀.heap.get? b=Ab o/\X.H₀ b=none
 bsz:X.base.objs.size<=X.s₀.heap.objs.size
 noex:∀ b o,X.base.get? b=Ab o->b ∉ X.ex
 exfs:∀ b∈X.ex,b ∉ X.fs
 funs:X.s₀.heap.FunFrames X.base X.outer
 frf:∀ b∈X.fs,X.H₀ b=none
structure Inv (X:Cx)(pins:Aa (Af × Cu))(σ : Aa (Al V))(H:Hp)(s:Ag):Prop where
 ok:X.Ok
 os:s.os=X.s₀.os
 bare:Og s.gens
 base:Un X.fs X.ex X.H₀ H X.s₀.heap s.heap
 loc:∃ m,s.heap.Ns X.env.locals m/\∀ (i:Ai) (x:Au) (v:V),X.N[i]? = Ab x->σ[i]? = Ab (Ab v)->Vis X.env.scope x->∃ u,qG v u/\CW X.env s.heap m x u
 cell:∀ x c,X.env.cells.lookup x=Ab c->∃ v,s.heap.IsCell c v
 free:H X.env.locals=none
 freeC:∀ x c,X.env.cells.lookup x=Ab c->H c=none
 pin:∀ p∈X.pn++pins,s.heap.get? p.1=Ab p.2/\H p.1=none/\p.1≠X.env.locals/\p.1 ∉ X.fs/\∀ v,p.2.data≠.cell v
 hok:HOk X.prog X.w H s.heap
 len:σ.length=X.N.length
section
variable {X:Cx}{pins:Aa (Af × Cu)}{σ : Aa (Al V)}{H H':Hp}{s:Ag}{h':Bw}
theorem Cx.Ok.nofr (ok:X.Ok){b:Af}{o:Cu}(e:X.base.get? b=Ab o):b ∉ X.fs:=λhb=>by
 have:=(ok.funs.mem hb).1;rw[e] at this;cases this
theorem Inv.bs (I:Inv X pins σ H s):∀ b o,X.base.get? b=Ab o->s.heap.get? b=Ab o/\H b=none:=λb o e =>
 ⟨I.base.keep b o (I.ok.bs b o e).1 (I.ok.bs b o e).2 (I.ok.nofr e) (I.ok.noex b o e),I.base.free b o (I.ok.bs b o e).1 (I.ok.bs b o e).2 (I.ok.noex b o e)⟩
theorem Inv.bk (I:Inv X pins σ H s):∀ b o,X.base.get? b=Ab o->s.heap.get? b=Ab o:=λb o e=>(I.bs b o e).1
theorem Inv.mod (I:Inv X pins σ H s):Mod X.K X.mg X.base:=I.ok.mod
theorem Inv.kIn (I:Inv X pins σ H s):X.K.In s.heap:=I.ok.mod.kin.keeps I.bk
theorem Inv.nolimit (I:Inv X pins σ H s):s.heap.NoLimit:=I.ok.mod.nolimit.keeps I.bk
theorem Inv.lt (I:Inv X pins σ H s):X.env.locals<s.heap.objs.size:=let ⟨_,hn,_⟩:=I.loc;hn.lt
theorem Inv.sz (I:Inv X pins σ H s):X.s₀.heap.objs.size<=s.heap.objs.size:=Df I.ok.above (Fi I.lt)
theorem Inv.nofs (I:Inv X pins σ H s){a:Af}(h:s.heap.objs.size<=a):a ∉ X.fs:=λhb=>by
 obtain⟨_,o,ho,_⟩:=I.ok.funs.mem hb;exact absurd (Bh (Ba ho) (Df I.sz h)) (Ei _)
theorem Inv.cne (I:Inv X pins σ H s):∀ x c,X.env.cells.lookup x=Ab c->c≠X.env.locals:=λx c e z=>by
 obtain⟨v,o,ho,hd⟩:=I.cell x c e;obtain⟨m,⟨o',es,ep,ho',hd',_⟩,_⟩:=I.loc;rw[z,ho'] at ho;cases ho;rw[hd'] at hd;cases hd
theorem Inv.funs (I:Inv X pins σ H s):s.heap.FunFrames X.base X.outer:=by
 have all:∀ (l:Aa Kc),(∀ b∈frs l,b∈X.fs)->X.s₀.heap.FunFrames X.base l->s.heap.FunFrames X.base l:=by
  intro l
  induction l with
  |nil=>intro _ _;trivial
  |cons env r ih =>
   intro hs hl;obtain⟨hk,⟨L,o,hf,hn,ho,hd⟩,hr⟩:=hl;have hL:L∈X.fs:=hs L (by unfold frs;rw[Ir,hf];exact Dl)
   obtain⟨sl,e⟩:=I.base.slot L o ho (I.ok.frf L hL) hL λz=>I.ok.exfs L z hL;exact⟨hk,⟨L,_,hf,hn,e,hd⟩,ih (λb hb=>hs b (by unfold frs;rw[Ir,hf];exact Cn _ hb)) hr⟩
 exact all X.outer (λ_ hb=>hb) I.ok.funs
theorem Inv.stack (I:Inv X pins σ H s):s.heap.FunFrames X.base X.stack:=by
 rcases I.ok.stk with e|⟨e,hf⟩
 .rw[e];exact I.funs
 .rw[e]
  obtain⟨m,hn,_⟩:=I.loc;refine .cons (by rw[I.ok.kind];decide) hf hn ?_ I.funs
  exact Ka (Df I.ok.bsz I.ok.above)
theorem Inv.stkSub (I:Inv X pins σ H s):∀ b∈frs X.stack,b∈X.env.locals::X.fs:=λb hb=>by
 rcases I.ok.stk with e|⟨e,hf⟩
 .rw[e] at hb;exact Cn _ hb
 .rw[e] at hb
  unfold frs at hb;rw[Ir,hf] at hb;exact hb
theorem Inv.stkFree (I:Inv X pins σ H s):∀ b∈frs X.stack,H b=none:=λb hb=>by
 rcases Az.mp (I.stkSub b hb) with e|hb
 .rw[e];exact I.free
 .obtain⟨_,o,ho,_⟩:=I.ok.funs.mem hb
  exact I.base.free b o ho (I.ok.frf b hb) λz=>I.ok.exfs b z hb
theorem Inv.step {g':Ax Zz}{t':Ai}{d':Drawn}(I:Inv X pins σ H s)
  (hch:∀ b∈ch,(b∈X.ex\/X.s₀.heap.objs.size<=b)/\b≠X.env.locals/\(∀ x c,X.env.cells.lookup x=Ab c->c≠b)/\∀ p∈X.pn++pins,p.1≠b)
  (keep:∀ b o,b≠X.env.locals->b ∉ X.fs->b ∉ ch->s.heap.get? b=Ab o->H b=none->h'.get? b=Ab o)
  (slot:∀ b o,b≠X.env.locals->b∈X.fs->b ∉ ch->s.heap.get? b=Ab o->H b=none->∃ sl,h'.get? b=Ab { o with slots:=sl }) (free:∀ b o,b ∉ ch->s.heap.get? b=Ab o->H b=none->H' b=none)
  (there:∀ b o,b ∉ ch->s.heap.get? b=Ab o->∃ o',h'.get? b=Ab o')
  (tups:∀ b xs,H b=Ab (.tup xs)->H' b=Ab (.tup xs)) (frzs:∀ b o u,H b=Ab (.frz o u)->H' b=Ab (.frz o u)) (tbls:∀ b ps,H b=Ab (.tbl ps)->∃ more,H' b=Ab (.tbl (ps++more)))
  (ns:∀ m,s.heap.Ns X.env.locals m->h'.Ns X.env.locals m) (hok:HOk X.prog X.w H' h') (hg:Og g') :
  Inv X pins σ H' { s with heap:=h',gens:=g',drawn:=d',toks:=t' }:=by
 have neL:∀ b o,X.s₀.heap.get? b=Ab o->b≠X.env.locals:=λb o e=>Cw (Bh (Ba e) I.ok.above);have neC:∀ b o,X.s₀.heap.get? b=Ab o->b ∉ X.ex->b ∉ ch:=λb o e hx hb=>by
  rcases (hch b hb).1 with z|z
  .exact hx z
  .exact absurd (Bh (Ba e) z) (Ei _)
 have cellK:∀ x c,X.env.cells.lookup x=Ab c->∀ v,s.heap.IsCell c v->h'.IsCell c v:=λx c e v ⟨o,ho,hd⟩=>by
  have nch:c ∉ ch:=λz=>(hch c z).2.2.1 x c e rfl;by_cases hc:c∈X.fs
  .obtain⟨sl,q⟩:=slot c o (I.cne x c e) hc nch ho (I.freeC x c e)
   exact⟨_,q,hd⟩
  .exact⟨o,keep c o (I.cne x c e) hc nch ho (I.freeC x c e),hd⟩
 refine⟨I.ok,I.os,hg,⟨λb o e n hb hx=>?_,λb o e n hb hx=>?_,λb o e n hx=>?_,λb o e hx=>?_,λb xs e=>tups b xs (I.base.tups b xs e),λb o xs e=>frzs b o xs (I.base.frzs b o xs e),λb ps e=>?_⟩,?_,λx c e=>?_,?_,λx c e=>?_,λp hp=>?_,hok,I.len⟩
 .exact keep b o (neL b o e) hb (neC b o e hx) (I.base.keep b o e n hb hx) (I.base.free b o e n hx)
 .obtain⟨sl,e1⟩:=I.base.slot b o e n hb hx
  obtain⟨sl',e2⟩:=slot b _ (neL b o e) hb (neC b o e hx) e1 (I.base.free b o e n hx);exact⟨sl',e2⟩
 .obtain⟨o',e1⟩:=I.base.there b o e hx
  exact free b o' (neC b o e hx) e1 (I.base.free b o e n hx)
 .obtain⟨o',e1⟩:=I.base.there b o e hx
  exact there b o' (neC b o e hx) e1
 .obtain⟨m1,e1⟩:=I.base.tbls b ps e
  obtain⟨m2,e2⟩:=tbls b _ e1;exact⟨m1++m2,by rw[e2,Xc]⟩
 .obtain⟨m,hn,hl⟩:=I.loc
  refine⟨m,ns m hn,λi x v e1 e2 e3=>?_⟩;obtain⟨u,r,l⟩:=hl i x v e1 e2 e3;refine⟨u,r,?_⟩;rcases l with l|⟨k,c,e,z⟩
  .exact .inl l
  .exact .inr ⟨k,c,e,cellK x c e _ z⟩
 .obtain⟨v,z⟩:=I.cell x c e
  exact⟨v,cellK x c e v z⟩
 .obtain⟨m,⟨o,_,_,ho,_⟩,_⟩:=I.loc
  exact free _ o (λz=>(hch _ z).2.1 rfl) ho I.free
 .obtain⟨v,o,ho,hd⟩:=I.cell x c e
  exact free c o (λz=>(hch c z).2.2.1 x c e rfl) ho (I.freeC x c e)
 .obtain⟨e,n,ne,nf,d⟩:=I.pin p hp
  have nch:p.1 ∉ ch:=λz=>(hch p.1 z).2.2.2 p hp rfl;exact⟨keep p.1 p.2 ne nf nch e n,free p.1 p.2 nch e n,ne,nf,d⟩
theorem Inv.un {t':Ai}(I:Inv X pins σ H s)(u:Un X.fs [] H H' s.heap h')(hok:HOk X.prog X.w H' h'):Inv X pins σ H' { s with heap:=h',toks:=t' }:=by
 obtain⟨m,⟨o,es,ep,ho,r⟩,_⟩:=id I.loc;obtain⟨sl,hL⟩:=u.any ho I.free (by simp)
 exact I.step (g':=s.gens) (d':=s.drawn) (ch:=[]) (λ_ z=>nomatch z) (λb o _ hb _ e n=>u.keep b o e n hb (by simp)) (λb o _ hb _ e n=>u.slot b o e n hb (by simp)) (λb o _ e n=>u.free b o e n (by simp)) (λb o _ e=>u.there b o e (by simp)) u.tups u.frzs u.tbls (λm' hm=>by
  obtain⟨o',es',ep',ho',r'⟩:=hm;rw[ho] at ho';cases ho';exact⟨_,es',ep',hL,r'⟩) hok I.bare
theorem Inv.call {t':Ai}{d':Drawn}(I:Inv X pins σ H s)(u:Un (frs X.stack) ch H H' s.heap h')(hok:HOk X.prog X.w H' h')(hg:Og g')
  (hch:∀ b∈ch,(b∈X.ex\/X.s₀.heap.objs.size<=b)/\b≠X.env.locals/\(∀ x c,X.env.cells.lookup x=Ab c->c≠b)/\∀ p∈X.pn++pins,p.1≠b) :
  Inv X pins σ H' { s with heap:=h',gens:=g',drawn:=d',toks:=t' }:=by
 obtain⟨m,⟨o,es,ep,ho,r⟩,_⟩:=id I.loc;obtain⟨sl,hL⟩:=u.any ho I.free λz=>(hch _ z).2.1 rfl;exact I.step (ch:=ch) hch (λb o hL hb hc e n=>u.keep b o e n (λz=>(Az.mp (I.stkSub b z)).elim hL hb) hc) (λb o _ _ hc e n=>u.any e n hc) (λb o hc e n=>u.free b o e n hc) (λb o hc e=>u.there b o e hc) u.tups u.frzs u.tbls (λm' hm=>by
  obtain⟨o',es',ep',ho',r'⟩:=hm;rw[ho] at ho';cases ho';exact⟨_,es',ep',hL,r'⟩) hok hg
theorem Inv.turned {t':Ai}{it:Af}(I:Inv X pins σ H s)(k:∀ b o,b≠it->s.heap.get? b=Ab o->h'.get? b=Ab o)(hn:H it=none)(hL:it≠X.env.locals)
  (h1:it∈X.ex\/X.s₀.heap.objs.size<=it) (h2:∀ x c,X.env.cells.lookup x=Ab c->c≠it) (h3:∀ p∈X.pn++pins,p.1≠it):Inv X pins σ H { s with heap:=h',toks:=t' }:=by
 have nit:∀ b u,H b=Ab u->b≠it:=λb u e z=>by rw[z,hn] at e;cases e
 refine I.step (g':=s.gens) (d':=s.drawn) (ch:=[it]) (λb hb=>?_) (λb o _ _ hc e _=>k b o (λz=>hc (by simp[z])) e) (λb o _ _ hc e _=>⟨o.slots,k b o (λz=>hc (by simp[z])) e⟩) (λ_ _ _ _ n=>n)
  (λb o hc e=>⟨o,k b o (λz=>hc (by simp[z])) e⟩) (λ_ _ e=>e) (λ_ _ _ e=>e) (λb ps e=>⟨#[],by rw[e];simp⟩) (λm hm=>?_) (λb u e=>?_) I.bare
 .have e:b=it:=by simpa using hb
  subst e;exact⟨h1,hL,h2,h3⟩
 .obtain⟨o,es,ep,ho,r⟩:=hm
  exact⟨o,es,ep,k _ o (Fb hL) ho,r⟩
 .refine(I.hok b u e).stay (λc v hc q=>k c v ?_ q) (λ_ q=>q) λ_ _ q=>q
  rcases hc with z|z
  .rw[z];exact nit b u e
  .exact nit c _ z
theorem Inv.tok (I:Inv X pins σ H s)(t:Ai):Inv X pins σ H { s with toks:=t }:=I.un (h':=s.heap) (t':=t) Un.refl I.hok
theorem Inv.kept {t':Ai}(I:Inv X pins σ H s)(k:∀ b u,s.heap.get? b=Ab u->h'.get? b=Ab u):Inv X pins σ H { s with heap:=h',toks:=t' }:=I.un (Un.kept k) (I.hok.kept k)
theorem Inv.laid {a:Af}{o:HO}{t':Ai}(I:Inv X pins σ H s)(k:∀ b u,s.heap.get? b=Ab u->h'.get? b=Ab u)(hp:s.heap.objs.size<=a)(new:zL X.prog X.w (upd H a o) h' a o) :
  Inv X pins σ (upd H a o) { s with heap:=h',toks:=t' }:=I.un (Un.laid k hp (I.hok.fresh hp)) (I.hok.laid k hp new)
theorem Inv.write {x e:Af}{o:HO}{t':Ai}(I:Inv X pins σ H s)(mu:Mut (H x))(he:e=x\/H e=Ab (.own x))(k:∀ b u,b≠e->s.heap.get? b=Ab u->h'.get? b=Ab u)(heo:∃ u,h'.get? e=Ab u)
  (new:zL X.prog X.w (upd H x o) h' x o):Inv X pins σ (upd H x o) { s with heap:=h',toks:=t' }:=I.un (Un.write mu he k heo) (I.hok.write mu he k heo new)
theorem Inv.pins_of {pins':Aa (Af × Cu)}(I:Inv X pins σ H s)(h:∀ p∈pins',s.heap.get? p.1=Ab p.2/\H p.1=none/\p.1≠X.env.locals/\p.1 ∉ X.fs/\∀ v,p.2.data≠.cell v):Inv X pins' σ H s:=
 ⟨I.ok,I.os,I.bare,I.base,I.loc,I.cell,I.free,I.freeC,λp hp=>(Bz.mp hp).elim (λz=>I.pin p (Dc _ z)) (h p),I.hok,I.len⟩
theorem rW {N:Aa Au}(hN:N.Nodup){i j:Ai}{x:Au}(a:N[i]? = Ab x)(b:N[j]? = Ab x):i=j:=by
 obtain⟨h1,e1⟩:=Bi.mp a;obtain⟨h2,e2⟩:=Bi.mp b;exact(Sw hN).mp (e1.trans e2.symm)
theorem d7 {A:Bt}{i:Ai}{x:Au}{v:V}{u:Ac}(I:Inv X pins σ H s)(hN:X.N.Nodup)(hi:X.N[i]? = Ab x)(hx:Loc X.env.scope x)(r:qG v u)
  (h:∀ s',Inv X pins (σ.set i (Ab v)) H s'->(∃ a,Ez a s.heap s'.heap/\(a=X.env.locals\/X.env.cells.lookup x=Ab a))->Q () s') (hf:X.fn x=true\/X.env.scope.names.lookup x=Ab .local:=by first|exact .inl rfl|exact .inr rfl|assumption):Ap M A (storeName X.env x u) Q E s:=by
 obtain⟨m,hn,hl⟩:=id I.loc;have hcls:(X.env.scope.kind == .class||(X.env.scope.kind == .module&&X.env.locals != X.env.globals))=false:=by rw[I.ok.kind];rfl
 have hiσ:i<σ.length:=by rw[I.len];exact(Bi.mp hi).1
 have cne:=I.cne;have tracked:∀ {a:Af} {h':Bw},(∃ o,s.heap.get? a=Ab o/\H a=none)->Ez a s.heap h'->HOk X.prog X.w H h':=λ{a h'} ha hs b ob e=>by
  obtain⟨_,_,hfree⟩:=ha;refine(I.hok b ob e).stay (λc w' hc q=>(hs.2 c ?_).trans q) (λ_ q=>q) λ_ _ q=>q;rintro rfl;rcases hc with rfl|hc
  .rw[hfree] at e;cases e
  .rw[hfree] at hc;cases hc
 rcases hx with hk|hk
 .refine wpAny_storeName_local hk hn (λh' hn' hs=>?_) hcls
  obtain⟨oL,_,_,hoL,_⟩:=id hn;refine h _ ⟨I.ok,I.os,I.bare,⟨λb o e n hb hx=>?_,λb o e n hb hx=>?_,I.base.free,λb o e hx=>?_,I.base.tups,I.base.frzs,I.base.tbls⟩,⟨_,hn',λj y v' e1 e2 e3=>?_⟩,λy c e=>?_,I.free,I.freeC,λp hp=>?_,tracked ⟨oL,hoL,I.free⟩ hs,by simpa using I.len⟩ ⟨_,hs,.inl rfl⟩
  .exact(hs.2 b (Cw (Bh (Ba e) I.ok.above))).trans (I.base.keep b o e n hb hx)
  .obtain⟨sl,e1⟩:=I.base.slot b o e n hb hx
   exact⟨sl,(hs.2 b (Cw (Bh (Ba e) I.ok.above))).trans e1⟩
  .obtain⟨o',e1⟩:=I.base.there b o e hx
   exact⟨o',(hs.2 b (Cw (Bh (Ba e) I.ok.above))).trans e1⟩
  .by_cases hj:j=i
   .subst hj
    rw[hi] at e1;cases e1;rw[Ed hiσ] at e2;cases e2;exact⟨u,r,.inl ⟨hk,by simp⟩⟩
   .rw[Ce (Fb hj)] at e2
    obtain⟨u',r',q⟩:=hl j y v' e1 e2 e3;refine⟨u',r',?_⟩;rcases q with⟨k,e⟩|⟨k,c,e,z⟩
    .refine .inl ⟨k,?_⟩
     have:y≠x:=λe=>hj (rW hN e1 (e▸hi));simp[this,e]
    .exact .inr ⟨k,c,e,z.sameBut hs (cne y c e)⟩
  .obtain⟨w',z⟩:=I.cell y c e
   exact⟨w',z.sameBut hs (cne y c e)⟩
  .obtain⟨e,n,ne,nf,d⟩:=I.pin p hp
   exact⟨(hs.2 p.1 ne).trans e,n,ne,nf,d⟩
 .have hfn:X.fn x=true:=by
   rcases hf with z|z
   .exact z
   .rw[z] at hk;cases hk
  obtain⟨c,hc⟩:=I.ok.has x (.inl hk);obtain⟨w',z⟩:=I.cell x c hc;refine wpAny_storeName_cell I.ok.kind hk hc z (λh' hc' hs=>?_);obtain⟨oc,hoc,hocd⟩:=id z;refine h { s with heap:=h' } ⟨I.ok,I.os,I.bare,⟨λb o e n hb hx=>?_,λb o e n hb hx=>?_,I.base.free,λb o e hx=>?_,I.base.tups,I.base.frzs,I.base.tbls⟩,⟨m,hn.sameBut hs (Fb (cne x c hc)),λj y v' e1 e2 e3=>?_⟩,λy c' e=>?_,I.free,I.freeC,λp hp=>?_,tracked ⟨oc,hoc,I.freeC x c hc⟩ hs,by simpa using I.len⟩ ⟨c,hs,.inr hc⟩
  .exact(hs.2 b (Cw (Bh (Ba e) (I.ok.cab x c hfn hc)))).trans (I.base.keep b o e n hb hx)
  .obtain⟨sl,e1⟩:=I.base.slot b o e n hb hx
   exact⟨sl,(hs.2 b (Cw (Bh (Ba e) (I.ok.cab x c hfn hc)))).trans e1⟩
  .obtain⟨o',e1⟩:=I.base.there b o e hx
   exact⟨o',(hs.2 b (Cw (Bh (Ba e) (I.ok.cab x c hfn hc)))).trans e1⟩
  .by_cases hj:j=i
   .subst hj
    rw[hi] at e1;cases e1;rw[Ed hiσ] at e2;cases e2;exact⟨u,r,.inr ⟨.inl hk,c,hc,hc'⟩⟩
   .rw[Ce (Fb hj)] at e2
    obtain⟨u',r',q⟩:=hl j y v' e1 e2 e3;refine⟨u',r',?_⟩;rcases q with q|⟨k,c',e,z'⟩
    .exact .inl q
    .refine .inr ⟨k,c',e,z'.sameBut hs ?_⟩
     rintro rfl;exact hj (rW hN e1 (I.ok.inj _ _ _ e hc▸hi))
  .by_cases hcc:c'=c
   .subst hcc;exact⟨_,hc'⟩
   .obtain⟨w2,z2⟩:=I.cell y c' e
    exact⟨w2,z2.sameBut hs hcc⟩
  .obtain⟨e,n,ne,nf,d⟩:=I.pin p hp
   refine⟨(hs.2 p.1 ?_).trans e,n,ne,nf,d⟩;intro q;rw[q,hoc] at e;have q':oc=p.2:=Dd e;exact d w' (by rw[<- q'];exact hocd)
theorem jH {A:Bt}{i:Ai}{x:Au}{v:V}{u:Ac}(I:Inv X pins σ H s)(hN:X.N.Nodup)(hi:X.N[i]? = Ab x)(hx:Loc X.env.scope x)(r:qG v u)
  (h:∀ s',Inv X pins (σ.set i (Ab v)) H s'->Q () s') (hf:X.fn x=true\/X.env.scope.names.lookup x=Ab .local:=by first|exact .inl rfl|exact .inr rfl|assumption):Ap M A (storeName X.env x u) Q E s:=
 d7 I hN hi hx r (λs' I' _=>h s' I') hf
theorem Inv.call' {s':Ag}(I:Inv X pins σ H s)(ho:s'.os=s.os)(u:Un (frs X.stack) ch H H' s.heap s'.heap)(hok:HOk X.prog X.w H' s'.heap)(hg:Og s'.gens)
  (hch:∀ b∈ch,(b∈X.ex\/X.s₀.heap.objs.size<=b)/\b≠X.env.locals/\(∀ x c,X.env.cells.lookup x=Ab c->c≠b)/\∀ p∈X.pn++pins,p.1≠b):Inv X pins σ H' s':=by
 obtain⟨h',g',d',t',o'⟩:=s';have e:o'=s.os:=ho;subst e;exact I.call (g':=g') (t':=t') (d':=d') u hok hg hch
end
abbrev XK:=Ac->Al Af->Hp->Prop
abbrev St:=Aa (Al V)
abbrev VK:=V->Hp->Prop
abbrev TE:=St->Hp->VK->Prop
abbrev TT:=St->Hp->(Ar->Hp->Prop)->Prop
abbrev TA:=St->Hp->(Aa V->Hp->Prop)->Prop
structure Ends where
 nx:St->Hp->Prop
 rt:VK
 bk:St->Hp->Prop:=λ_ _=>Fv
 ct:St->Hp->Prop:=λ_ _=>Fv
abbrev TS:=Ends->St->Hp->Prop
inductive EP (X:Cx)(pins:Aa (Af × Cu))(σ : St)(Q:VK)(u:Ac)(s':Ag):Prop
 |mk (v:V) (H':Hp) (I:Inv X pins σ H' s') (r:qG v u) (q:Q v H'):EP X pins σ Q u s'
inductive TP (X:Cx)(pins:Aa (Af × Cu))(σ : St)(Q:Ar->Hp->Prop)(b:Ar)(s':Ag):Prop
 |mk (H':Hp) (I:Inv X pins σ H' s') (q:Q b H'):TP X pins σ Q b s'
inductive AP (X:Cx)(pins:Aa (Af × Cu))(σ : St)(Q:Aa V->Hp->Prop)(us:Aa Ac)(s':Ag):Prop
 |mk (vs:Aa V) (H':Hp) (I:Inv X pins σ H' s') (r:qJ vs us) (q:Q vs H'):AP X pins σ Q us s'
def SP (X:Cx)(pins:Aa (Af × Cu))(D:Ends)(f:Flow)(s':Ag):Prop:=
 match f with
 |.next=>∃ σ' H',Inv X pins σ' H' s'/\D.nx σ' H'
 |.brk=>∃ σ' H',Inv X pins σ' H' s'/\D.bk σ' H'
 |.cont=>∃ σ' H',Inv X pins σ' H' s'/\D.ct σ' H'
 |.ret u=>∃ v σ' H',Inv X pins σ' H' s'/\qG v u/\D.rt v H'
def PE (X:Cx)(e:By)(t:TE):Prop:=
 ∀ (pins:Aa (Af × Cu)) (s:Ag) (σ : St) (H:Hp) (Q:VK),Inv X pins σ H s->t σ H Q->Ap (As X.prog X.w) X.A (eval e X.env) (EP X pins σ Q) X.xe s
def PT (X:Cx)(e:By)(t:TT):Prop:=
 ∀ (pins:Aa (Af × Cu)) (s:Ag) (σ : St) (H:Hp) (Q:Ar->Hp->Prop),Inv X pins σ H s->t σ H Q->Ap (As X.prog X.w) X.A (isTrue e X.env (eval e X.env)) (TP X pins σ Q) X.xe s
def PW (X:Cx)(e:By)(t:TT):Prop:=
 ∀ (whole:Ln Ac) (pins:Aa (Af × Cu)) (s:Ag) (σ : St) (H:Hp) (Q:Ar->Hp->Prop),Inv X pins σ H s->t σ H Q->Ap (As X.prog X.w) X.A (isTrue e X.env whole) (TP X pins σ Q) X.xe s
def PA (X:Cx)(es:Aa By)(t:TA):Prop:=
 ∀ (pos:Fc) (pins:Aa (Af × Cu)) (s:Ag) (σ : St) (H:Hp) (Q:Aa V->Hp->Prop),Inv X pins σ H s->t σ H Q->Ap (As X.prog X.w) X.A (spliced (Gw pos (Bo es X.env))) (AP X pins σ Q) X.xe s
def PS (X:Cx)(st:Gd)(t:TS):Prop:=
 ∀ (pins:Aa (Af × Cu)) (s:Ag) (σ : St) (H:Hp) (D:Ends),Inv X pins σ H s->t D σ H->Ap (As X.prog X.w) X.A (exec st X.env) (SP X pins D) X.xe s
def PSs (X:Cx)(st:Aa Gd)(t:TS):Prop:=
 ∀ (pins:Aa (Af × Cu)) (s:Ag) (σ : St) (H:Hp) (D:Ends),Inv X pins σ H s->t D σ H->Ap (As X.prog X.w) X.A (execs st X.env) (SP X pins D) X.xe s
theorem thn {α:Type}{t:Ln α}{Q Q':α->Ag->Prop}{A:Bt}{s:Ag}(h:Ap M A t Q E s)(hQ:∀ a s,Q a s->Q' a s):Ap M A t Q' E s:=Hq h hQ λ_ _ x=>x
end _L
namespace _L
open PySem PySem.Spec PyProof.Rows
variable {pins:Aa (Af × Cu)}{u:Ac}{E Q:Ac->Ag->Prop}
section
variable {X:Cx}
theorem bin {a b:By}{ta tb:TE}(ha:PE X a ta)(hb:PE X b tb){pins:Aa (Af × Cu)}{s:Ag}{σ : St}{H:Hp}{R:V->V->Hp->Prop}(I:Inv X pins σ H s)(h:ta σ H λx H1=>tb σ H1 λy H2=>R x y H2)
  {α:Type} {Q:α->Ag->Prop} {f:Ac->Ac->Ln α}
  (hf:∀ v u s2 x y H2,Inv X pins σ H2 s2->qG x v->qG y u->R x y H2->Ap (As X.prog X.w) X.A (f v u) Q X.xe s2) :
  Ap (As X.prog X.w) X.A (eval a X.env) (λv s₁=>Ap (As X.prog X.w) X.A (eval b X.env) (λu s₂=>Ap (As X.prog X.w) X.A (f v u) Q X.xe s₂) X.xe s₁) X.xe s:=by
 refine thn (ha pins s σ H _ I h) λv s1 ⟨x,H1,I1,r1,q1⟩=>?_;refine thn (hb pins s1 σ H1 _ I1 q1) λu s2 ⟨y,H2,I2,r2,q2⟩=>?_;exact hf v u s2 x y H2 I2 r1 r2 q2
def R4 (i:Ai):TE:=λσ H Q=>∃ v,σ[i]? = Ab (Ab v)/\Q v H
def tC (v:V):TE:=λ_ H Q=>Q v H
theorem LY {i:Ai}{x:Au}{pos:Fc}(hN:X.N[i]? = Ab x)(hv:Vis X.env.scope x)(hd:(x == ("__debug__" : Au))=false:=by decide)(hcd:(x == ("__classdict__" : Au))=false:=by decide):PE X (.Name x pos) (R4 i):=by
 intro pins s σ H Q I h;obtain⟨v,e,h⟩:=h;obtain⟨m,hn,hl⟩:=I.loc;obtain⟨u,r,l⟩:=hl i x v hN e hv;have fin:EP X pins σ Q u s:=⟨v,H,I,r,h⟩;rcases l with⟨hk,hm⟩|⟨hk,c,hc,hcell⟩
 .exact wS (Vr I.ok.kind hk hn hm fin) hd
 .rcases hk with hk|hk
  .exact wS (Wc I.ok.kind hk hc hcell fin) hd
  .exact wS (wpAny_loadName_free I.ok.kind hk hc hcell fin hcd) hd
theorem LS:PE X (.Constant (.int i) j pos) (tC (.int i)):=λ_ _ _ H _ I h=>wpAny_Constant_int ⟨.int i,H,I.tok _,⟨_,rfl⟩,h⟩
theorem EZ:PE X (.Constant (.bool b) j pos) (tC (.bl b)):=λ_ _ _ H _ I h=>Constant_bool ⟨.bl b,H,I,rfl,h⟩
theorem LU:PE X (.Constant .none j pos) (tC .non):=λ_ _ _ H _ I h=>Constant_none ⟨.non,H,I,rfl,h⟩
theorem LW:PE X (.Constant (.str x) j pos) (tC (.str x)):=λ_ _ _ H _ I h=>Calls.Constant_str ⟨.str x,H,I.tok _,⟨_,rfl⟩,h⟩
def Gl (X:Cx)(x:Au):Prop:=X.env.kindOf x=Ab .globalImplicit
theorem bO {s:Ag}{σ:St}{H:Hp}{x:Au}{pos:Fc}(I:Inv X pins σ H s)(hg:Gl X x)(hm:X.mg x=Ab u)(h:Q u s)
  (hd:(x == ("__debug__" : Au))=false:=by decide):Ap (As X.prog X.w) X.A (eval (.Name x pos) X.env) Q E s:=
 Qv I.ok.kind hg (Calls.loadGlobal_global (by rw[I.ok.glob];exact I.mod.glob.keeps I.bk) hm h) hd
theorem v7 {s:Ag}{σ:St}{H:Hp}{x:Au}{pos:Fc}(I:Inv X pins σ H s)(hg:Gl X x)(hm:X.mg x=none)(hv:Ge x=Ab u)(h:Q u s)
  (hn:x ≠ "__name__":=by decide) (hd:(x == ("__debug__" : Au))=false:=by decide):Ap (As X.prog X.w) X.A (eval (.Name x pos) X.env) Q E s:=by
 obtain⟨mb,h1,h2⟩:=I.mod.blt;exact Qv I.ok.kind hg (Calls.loadGlobal_builtin (by rw[I.ok.glob];exact I.mod.glob.keeps I.bk) hm (by rw[I.ok.blt];exact h1.keeps I.bk) ((h2 x hn).trans hv) h) hd
theorem B0 {x:Au}{v:V}{pos:Fc}(hg:Gl X x)(hm:X.mg x=Ab u)(r:qG v u)(hd:(x == ("__debug__" : Au))=false:=by decide):PE X (.Name x pos) (tC v):=
 λ_ _ _ H _ I h=>bO I hg hm ⟨v,H,I,r,h⟩ hd
theorem PZ {x:Au}{v:V}{pos:Fc}(hg:Gl X x)(hm:X.mg x=none)(hv:Ge x=Ab u)(r:qG v u)(hn:x ≠ "__name__":=by decide)(hd:(x == ("__debug__" : Au))=false:=by decide):PE X (.Name x pos) (tC v):=
 λ_ _ _ H _ I h=>v7 I hg hm hv ⟨v,H,I,r,h⟩ hn hd
variable {a b:By}{ta tb:TE}{pos:Fc}
variable {tA tB':TT}{rest:Aa By}
theorem BC (ha:PT X a tA):PW X (.BoolOp .And [a] pos) tA:=by
 intro wh pins s σ H Q I h;refine isTrue_and (thn (ha pins s σ H Q I h) λc s1 e=>?_);cases c with
 |true=>exact isTrue_and_nil e
 |false=>exact e
theorem D6 (ha:PT X a tA):PW X (.BoolOp .Or [a] pos) tA:=by
 intro wh pins s σ H Q I h;refine isTrue_or (thn (ha pins s σ H Q I h) λc s1 e=>?_);cases c with
 |false=>exact isTrue_or_nil e
 |true=>exact e
theorem LV {t:TE}(h:PE X a t):PE X (.BoolOp op [a] pos) t:=λpins s σ H Q I hw=>BoolOp_one (h pins s σ H Q I hw)
end
end _L
namespace _L
open PySem PySem.Spec PyProof.Rows
variable {es:Aa By}{i:Ai}{K:Aj}{x:Au}{P:Bg}{tg:By}{w:Ca}
def SqL (K:Aj)(H:Hp)(a:Af)(xs:Aa V):Prop:=
 Rd H a (.lst xs) \/
  ∃ (o:Cu) (its:Ax Ac) (n:Ai),K.lookup a=Ab o/\o.cls=.type "list" /\ o.dict=none/\o.data=.seq its n/\its.size<=sizeLine/\qJ xs its.toList
def SqT (K:Aj)(H:Hp)(a:Af)(xs:Aa V):Prop:=
 Rd H a (.tup xs) \/
  ∃ (o:Cu) (its:Ax Ac) (n:Ai),K.lookup a=Ab o/\o.cls=.type "tuple" /\ o.data=.seq its n/\its.size<=sizeLine/\qJ xs its.toList
noncomputable def A0:Ac->Al V
 |.none=>Ab .non
 |.bool b=>Ab (.bl b)
 |.int i _=>Ab (.int i)
 |.str x _=>Ab (.str x)
 |.bytes b _=>Ab (.byt b)
 |.float b _=>Ab (.flt b)
 |.ref a=>Ab (.ref a)
 |.type n=>Ab (.ty n)
 |_=>none
theorem qG.abs {x:V}{u:Ac}(r:qG x u):A0 u=Ab x:=by
 cases x with
 |non=>cases r;rfl
 |bl _=>cases r;rfl
 |int _=>obtain⟨t,rfl⟩:=r;rfl
 |str _=>obtain⟨t,rfl⟩:=r;rfl
 |byt _=>obtain⟨t,rfl⟩:=r;rfl
 |flt _=>obtain⟨t,rfl⟩:=r;rfl
 |ref _=>cases r;rfl
 |ty _=>cases r;rfl
theorem qG.inj {x y:V}{u:Ac}(r:qG x u)(q:qG y u):x=y:=Dd (r.abs.symm.trans q.abs)
theorem qJ.inj {xs ys:Aa V}{us:Aa Ac}(h:qJ xs us)(k:qJ ys us):xs=ys:=by
 induction h generalizing ys with
 |nil=>cases k;rfl
 |cons r t ih =>
  cases k with
  |cons r' t'=>rw[r.inj r',ih t']
section
variable {X:Cx}{pins:Aa (Af × Cu)}{σ : St}{H:Hp}{s:Ag}{a:Af}{xs ys:Aa V}
theorem SqL.of (h:H a=Ab (.lst xs)):SqL K H a xs:=.inl (.inl h)
theorem SqT.of (h:H a=Ab (.tup xs)):SqT K H a xs:=.inl (.inl h)
theorem Inv.list (I:Inv X pins σ H s)(h:SqL X.K H a xs):∃ its:Aa Ac,qJ xs its/\PlainL s.heap a its.toArray/\xs.length<=sizeLine:=by
 rcases h with h|⟨o,its,n,hk,hc,hd,hs,hz,r⟩
 .obtain⟨z,its,n,r,e⟩:=h.ok I.hok
  exact⟨its,r,⟨_,n,e,rfl,rfl,rfl⟩,z⟩
 .refine⟨its.toList,r,⟨o,n,I.kIn a o hk,hc,hd,by simpa using hs⟩,?_⟩
  have e:=r.length;simp only[Bm] at e;omega
theorem Inv.tuple (I:Inv X pins σ H s)(h:SqT X.K H a xs):∃ its:Aa Ac,qJ xs its/\Of s.heap a its.toArray/\xs.length<=sizeLine:=by
 rcases h with h|⟨o,its,n,hk,hc,hs,hz,r⟩
 .obtain⟨z,its,r,p⟩:=h.ok I.hok
  exact⟨its,r,p,z⟩
 .refine⟨its.toList,r,⟨o,I.kIn a o hk,hc,n,by simpa using hs⟩,?_⟩
  have e:=r.length;simp only[Bm] at e;omega
theorem Inv.list_inj (I:Inv X pins σ H s)(h:SqL X.K H a xs)(h':SqL X.K H a ys):xs=ys:=by
 obtain⟨its,r,⟨o,n,e,_,_,d⟩,_⟩:=I.list h;obtain⟨its',r',⟨o',n',e',_,_,d'⟩,_⟩:=I.list h';rw[e] at e';cases e';rw[d] at d';injection d' with d1 _
 have:its=its':=by simpa using congrArg Xu d1
 subst this;exact r.inj r'
theorem Inv.tuple_inj (I:Inv X pins σ H s)(h:SqT X.K H a xs)(h':SqT X.K H a ys):xs=ys:=by
 obtain⟨its,r,⟨o,e,_,n,d⟩,_⟩:=I.tuple h;obtain⟨its',r',⟨o',e',_,n',d'⟩,_⟩:=I.tuple h';rw[e] at e';cases e';rw[d] at d';injection d' with d1 _
 have:its=its':=by simpa using congrArg Xu d1
 subst this;exact r.inj r'
end
abbrev Cx.wish (X:Cx)(E:Ac->Ag->Prop):Cx:={ X with xe:=E }
abbrev Cx.nox (X:Cx):Cx:=X.wish λ_ _=>Fv
theorem Cx.Ok.wish {X:Cx}(ok:X.Ok)(E:Ac->Ag->Prop):(X.wish E).Ok:=
 ⟨ok.mod,ok.kind,ok.glob,ok.blt,ok.above,ok.inj,ok.has,ok.cab,ok.hd,ok.frames,ok.stk,ok.exf,ok.bs,ok.bsz,ok.noex,ok.exfs,ok.funs,ok.frf⟩
theorem Cx.Ok.unwish {X:Cx}{E:Ac->Ag->Prop}(ok:(X.wish E).Ok):X.Ok:=
 ⟨ok.mod,ok.kind,ok.glob,ok.blt,ok.above,ok.inj,ok.has,ok.cab,ok.hd,ok.frames,ok.stk,ok.exf,ok.bs,ok.bsz,ok.noex,ok.exfs,ok.funs,ok.frf⟩
section
variable {X:Cx}{pins:Aa (Af × Cu)}{σ : St}{H:Hp}{s:Ag}{E:Ac->Ag->Prop}
theorem Inv.wish (I:Inv X pins σ H s)(E:Ac->Ag->Prop):Inv (X.wish E) pins σ H s:=⟨I.ok.wish E,I.os,I.bare,I.base,I.loc,I.cell,I.free,I.freeC,I.pin,I.hok,I.len⟩
theorem Inv.unwish (I:Inv (X.wish E) pins σ H s):Inv X pins σ H s:=⟨I.ok.unwish,I.os,I.bare,I.base,I.loc,I.cell,I.free,I.freeC,I.pin,I.hok,I.len⟩
theorem SP.unwish {D:Ends}{f:Flow}{s':Ag}(h:SP (X.wish E) pins D f s'):SP X pins D f s':=by
 cases f with
 |next=>obtain⟨σ',H',I,q⟩:=h;exact⟨σ',H',I.unwish,q⟩
 |brk=>obtain⟨σ',H',I,q⟩:=h;exact⟨σ',H',I.unwish,q⟩
 |cont=>obtain⟨σ',H',I,q⟩:=h;exact⟨σ',H',I.unwish,q⟩
 |ret u=>obtain⟨v,σ',H',I,r,q⟩:=h;exact⟨v,σ',H',I.unwish,r,q⟩
theorem PE.nox {e:By}{t:TE}(h:PE X.nox e t):PE X e t:=λpins s σ H Q I hw =>
 Hq (h pins s σ H Q (I.wish _) hw) (λ_ _ ⟨v,H',I',r,q⟩=>⟨v,H',I'.unwish,r,q⟩) λ_ _ z=>Aq z
theorem PT.nox {e:By}{t:TT}(h:PT X.nox e t):PT X e t:=λpins s σ H Q I hw =>
 Hq (h pins s σ H Q (I.wish _) hw) (λ_ _ ⟨H',I',q⟩=>⟨H',I'.unwish,q⟩) λ_ _ z=>Aq z
theorem PSs.nox {st:Aa Gd}{t:TS}(h:PSs X.nox st t):PSs X st t:=λpins s σ H D I hw =>
 Hq (h pins s σ H D (I.wish _) hw) (λ_ _ q=>q.unwish) λ_ _ z=>Aq z
end
section
variable {X:Cx}{st:Gd}{rest:Aa Gd}{t u:TS}{e:By}{te:TE}{pos:Fc}
def HW:TS:=λD σ H=>D.nx σ H
def IG (t u:TS):TS:=λD σ H=>t { D with nx:=u D } σ H
theorem B9:PSs X [] HW:=λ_ _ σ H _ I h=>Pk ⟨σ,H,I,h⟩
theorem VZ (h1:PS X st t)(h2:PSs X rest u):PSs X (st::rest) (IG t u):=by
 intro pins s σ H D I h;refine Ze (thn (h1 pins s σ H { D with nx:=u D } I h) λf s1 q=>?_)
 cases f with
 |next =>
  obtain⟨σ',H',I',q⟩:=q;exact h2 pins s1 σ' H' D I' q
 |ret v=>exact q
 |brk=>exact q
 |cont=>exact q
theorem BA (h1:PS X st t):PSs X [st] t:=by
 intro pins s σ H D I h;refine Ze (thn (h1 pins s σ H D I h) λf s1 q=>?_);cases f with
 |next=>exact Pk q
 |ret v=>exact q
 |brk=>exact q
 |cont=>exact q
theorem Inv.quiet {pins:Aa (Af × Cu)}{σ:St}{H:Hp}{s:Ag}(I:Inv X pins σ H s):interactive X.env=false:=by simp[interactive,I.ok.kind]
end
abbrev TG:=V->St->Hp->(St->Hp->Prop)->Prop
abbrev TGs:=Aa V->St->Hp->(St->Hp->Prop)->Prop
def PG (X:Cx)(target:By)(t:TG):Prop:=
 ∀ (pins:Aa (Af × Cu)) (s:Ag) (σ : St) (H:Hp) (v:V) (u:Ac) (Q:St->Hp->Prop),Inv X pins σ H s->qG v u->t v σ H Q ->
  Ap (As X.prog X.w) X.A (assign target X.env u) (λ_ s'=>∃ σ' H',Inv X pins σ' H' s'/\Q σ' H') X.xe s
def PGs (X:Cx)(ts:Aa By)(t:TGs):Prop:=
 ∀ (pins:Aa (Af × Cu)) (s:Ag) (σ : St) (H:Hp) (vs:Aa V) (us:Aa Ac) (Q:St->Hp->Prop),Inv X pins σ H s->qJ vs us->t vs σ H Q ->
  Ap (As X.prog X.w) X.A (Wd ((Hb ts X.env).map (·.2)) us) (λ_ s'=>∃ σ' H',Inv X pins σ' H' s'/\Q σ' H') X.xe s
abbrev FZ:=V->V->V->Hp->(Hp->Prop)->Prop
def sI (X:Cx)(t:FZ):Prop:=
 ∀ (pins:Aa (Af × Cu)) (s:Ag) (σ : St) (H:Hp) (o i v:V) (ov iv u:Ac) (Q:Hp->Prop),Inv X pins σ H s->qG o ov->qG i iv->qG v u->t o i v H Q ->
  Ap (As X.prog X.w) X.A (setItem ov iv u) (λ_ s'=>∃ H',Inv X pins σ H' s'/\Q H') X.xe s
abbrev TIp:=V->V->Hp->VK->Prop
def PIp (X:Cx)(op:Oc)(t:TIp):Prop:=
 ∀ (pins:Aa (Af × Cu)) (s:Ag) (σ : St) (H:Hp) (x y:V) (v u:Ac) (Q:VK),Inv X pins σ H s->qG x v->qG y u->t x y H Q ->
  Ap (As X.prog X.w) X.A (inplaceOp op v u) (EP X pins σ Q) X.xe s
section
variable {X:Cx}{pos:Fc}
def E1 (i:Ai):TG:=λv σ H Q=>Q (σ.set i (Ab v)) H
theorem B3 (hN:X.N.Nodup)(hi:X.N[i]? = Ab x)(hx:Loc X.env.scope x)(hf:X.fn x=true\/X.env.scope.names.lookup x=Ab .local:=by first|exact .inl rfl|exact .inr rfl|assumption):PG X (.Name x pos) (E1 i):=by
 intro pins s σ H v u Q I r h;exact Yg (jH I hN hi hx r (λs' I'=>⟨_,H,I',h⟩) hf)
def AG:TGs:=λvs σ H Q=>vs=[]/\Q σ H
def E0 (t:TG)(u:TGs):TGs:=λvs σ H Q=>∃ v r,vs=v::r/\t v σ H λσ' H'=>u r σ' H' Q
theorem B4:PGs X [] AG:=by
 intro pins s σ H vs us Q I r h;obtain⟨e,h⟩:=h;subst e;cases r;exact Yh ⟨σ,H,I,h⟩
theorem VW {e:By}{t:TG}{u:TGs}(h1:PG X e t)(h2:PGs X es u)
  (hs:(Hb (e::es) X.env).map (·.2)=assign e X.env::(Hb es X.env).map (·.2):=by rfl):PGs X (e::es) (E0 t u):=by
 intro pins s σ H vs us Q I r h;obtain⟨v,vr,e1,h⟩:=h;subst e1;cases r with
 |cons r rr =>
  rw[hs];refine Qp (thn (h1 pins s σ H _ _ _ I r h) λ_ s1 ⟨σ1,H1,I1,q1⟩=>?_);exact h2 pins s1 σ1 H1 _ _ Q I1 rr q1
def AH (K:Aj)(n:Ai)(t:TGs):TG:=λv σ H Q=>∃ a xs,v=.ref a/\SqT K H a xs/\xs.length=n/\t xs σ H Q
theorem LZ {k:Ai}{t:TGs}{n:Ai}(hc:X.calm=true)(h:PGs X es t)
  (hn:(Hb es X.env).length=n:=by rfl) (hst:(Hb es X.env).findIdx? (·.1)=none:=by rfl):PG X (.Tuple es k pos) (AH X.K n t):=by
 intro pins s σ H v u Q I r hw;obtain⟨a,xs,e1,hq,hl,hw⟩:=hw;subst e1;cases r;obtain⟨its,rv,ht,hz⟩:=I.tuple hq;refine assign_Tuple_tuple (I.ok.hd hc) ht (by simp[hn,<- hl,rv.length]) hst λh' hx=>?_
 have I1:Inv X pins σ H { s with heap:=h' }:=I.kept (t':=s.toks) λb o e=>hx b o (Cw (Ba e)) e
 exact h pins _ σ H xs _ Q I1 (by simpa using rv) hw
def IF (i j:Ai)(ta:TA):TS:=λD σ H=>ta σ H λvs H1=>∃ v w,vs=[v,w]/\D.nx ((σ.set i (Ab v)).set j (Ab w)) H1
theorem D3 {j:Ai}{y:Au}{a b:By}{ta:TA}{px py pt:Fc} {kt k2 pt2} (hc:X.calm=true) (hN:X.N.Nodup) (hi:X.N[i]? = Ab x) (hj:X.N[j]? = Ab y) (hij:i≠j)
  (hx:X.env.scope.names.lookup x=Ab .local) (hy:X.env.scope.names.lookup y=Ab .local) (ha:PA X [a,b] ta)
  (hw:Mf [.Tuple [.Name x px,.Name y py] kt pt] (.Tuple [a,b] k2 pt2) X.env=pure (Ab [x,y]))
  (hs:Mi [.Tuple [.Name x px,.Name y py] kt pt] (.Tuple [a,b] k2 pt2) pos.line X.env=pure false:=by rfl) :
  PS X (.Assign [.Tuple [.Name x px,.Name y py] kt pt] (.Tuple [a,b] k2 pt2) pos) (IF i j ta):=by
 intro pins s σ H D I h;rw[exec_Assign_arm];refine Ad (Mj ?_);rw[hs];refine Ad (Am ?_);rw[Bf (by decide)]
 refine Ad (Tuple_ (thn (ha _ pins s σ H _ I h) λus s1 ⟨vs,H1,I1,r1,q1⟩=>?_));obtain⟨v,w,e1,q1⟩:=q1;subst e1;obtain⟨u1,u2,rfl,rv,rw'⟩:∃ u1 u2,us=[u1,u2]/\qG v u1/\qG w u2:=by
  cases r1 with
  |cons p q =>
   cases q with
   |cons p' q' =>
    cases q';exact⟨_,_,rfl,p,p'⟩
 refine Ee ?_ (by show 2<=sizeLine;decide)
 have I2:Inv X pins σ H1 { s1 with heap:=s1.heap.push { cls:=.type "tuple",data:=.seq [u1,u2].toArray } }:=I1.kept (t':=s1.toks) λb o e=>Ah _ e
 rw[hw];refine Ad (Am ?_);show Ap (As X.prog X.w) X.A (do rule "assign.swapped-stores";let items <- unpackItems (.ref s1.heap.objs.size) 2 none;Wd [λv=>ZB X.env y v,λv=>ZB X.env x v] items.reverse;pure Flow.next) _ _ _
 refine Ad (Go (Ad (unpackItems_tuple (items:=#[u1,u2]) (I.ok.hd hc) (Yi s1.heap _) λh' hx'=>?_)));have I3:=I2.kept (h':=h') (t':=s1.toks) λb o e=>hx' b o (Cw (Ba e)) e;show Ap _ _ (Wd [λv=>ZB X.env y v,λv=>ZB X.env x v] [u2,u1] >>= λ_=>pure Flow.next) _ _ _;refine Ad (Qp (wpAny_bindName (jH I3 hN hj (.inl hy) rw' (λs2 I4=>?_) (.inr hy))));refine Qp (wpAny_bindName (jH I4 hN hi (.inl hx) rv (λs3 I5=>Yh (Am ?_)) (.inr hx)));rw[List.set_comm _ _ (Fb hij)] at I5;exact⟨_,H1,I5,q1⟩
def IA (i:Ai)(te:TE)(ti:TIp):TS:=λD σ H=>∃ x,σ[i]? = Ab (Ab x)/\te σ H λy H1=>ti x y H1 λz H2=>D.nx (σ.set i (Ab z)) H2
theorem D1 {e:By}{te:TE}{op:Oc}{ti:TIp}{pos':Fc}(hN:X.N.Nodup)(hi:X.N[i]? = Ab x)(hx:Loc X.env.scope x)(he:PE X e te)(ho:PIp X op ti)(hf:X.fn x=true\/X.env.scope.names.lookup x=Ab .local:=by first|exact .inl rfl|exact .inr rfl|assumption) :
  PS X (.AugAssign (.Name x pos') op e pos) (IA i te ti):=by
 intro pins s σ H D I h;obtain⟨v,e1,h⟩:=h;obtain⟨m,hn,hl⟩:=I.loc;have vis:Vis X.env.scope x:=by rcases hx with k|k;exact .inl k;exact .inr (.inl k)
 obtain⟨u,r,l⟩:=hl i x v hi e1 vis;refine wpAny_AugAssign_Name ?_;have go:Ap (As X.prog X.w) X.A (eval e X.env) (λw s₂=>Ap (As X.prog X.w) X.A (inplaceOp op u w) (λr s₃=>Ap (As X.prog X.w) X.A (storeName X.env x r) (λ_=>SP X pins D .next) X.xe s₃) X.xe s₂) X.xe s:=by
  refine thn (he pins s σ H _ I h) λw s1 ⟨y,H1,I1,r1,q1⟩=>?_;refine thn (ho pins s1 σ H1 v y u w _ I1 r r1 q1) λz s2 ⟨zv,H2,I2,r2,q2⟩=>?_;exact jH I2 hN hi hx r2 (λs3 I3=>⟨_,H2,I3,q2⟩) hf
 rcases l with⟨hk,hm⟩|⟨hk,c,hc,hcell⟩
 .exact Vr I.ok.kind hk hn hm go
 .rcases hk with hk|hk
  .exact Wc I.ok.kind hk hc hcell go
  .rcases hx with k|k
   .have:X.env.scope.names.lookup x=Ab .free:=hk
    rw[k] at this;cases this
   .have:X.env.scope.names.lookup x=Ab .free:=hk
    rw[k] at this;cases this
def ipI (f:An->An->An):TIp:=λx y H Q=>∃ i j,x=.int i/\y=.int j/\Q (.int (f i j)) H
theorem N6:PIp X .Add (ipI λi j=>i+j):=by
 intro pins s σ H x y v u Q I r1 r2 h;obtain⟨i,j,e1,e2,q⟩:=h;subst e1;subst e2;obtain⟨t,rfl⟩:=r1;obtain⟨t',rfl⟩:=r2;exact iadd_int ⟨.int _,H,I.tok _,⟨_,rfl⟩,q⟩
end
section
variable {X:Cx}{pos:Fc}
def R5 (c:TT)(tb:TS):TS:=λD σ H=>∃ W:Ai->St->Hp->Prop,(∃ m,W m σ H)/\∀ m σ H,W m σ H ->
 c σ H λb H1=>if b=true then ∃ N:St->Hp->Prop,(∀ σ' H',N σ' H'->∃ m',m'<m/\W m' σ' H')/\tb { D with nx:=N,ct:=N,bk:=D.nx } σ H1 else D.nx σ H1
theorem VY {c:By}{body:Aa Gd}{tc:TT}{tb:TS}(hp:Rk (As X.prog X.w) X.A X.env X.xe)(hc:PT X c tc)(hb:PSs X body tb):PS X (.While c body [] pos) (R5 tc tb):=by
 intro pins s σ H D I h;obtain⟨W,⟨m0,w0⟩,turn⟩:=h;refine wpAny_While (codeAny_whileLoop (λn s'=>∃ σ' H',Inv X pins σ' H' s'/\W n σ' H') ?_ m0 ⟨σ,H,I,w0⟩);rintro n s1 ⟨σ1,H1,I1,w1⟩;refine Jq hp (thn (hc pins s1 σ1 H1 _ I1 (turn n σ1 H1 w1)) λb s2 ⟨H2,I2,q2⟩=>?_);cases b with
 |true =>
  obtain⟨N,hN,q2⟩:=q2;rw[Bd rfl];refine Jq hp (thn (hb pins s2 σ1 H2 _ I2 q2) λf s3 q3=>?_);cases f with
  |next =>
   obtain⟨σ3,H3,I3,n3⟩:=q3;obtain⟨m',hm,w3⟩:=hN σ3 H3 n3;exact⟨m',hm,σ3,H3,I3,w3⟩
  |cont =>
   obtain⟨σ3,H3,I3,n3⟩:=q3;obtain⟨m',hm,w3⟩:=hN σ3 H3 n3;exact⟨m',hm,σ3,H3,I3,w3⟩
  |brk=>exact q3
  |ret v=>exact q3
 |false =>
  rw[Bf Ic];exact Pk ⟨σ1,H2,I2,q2⟩
end
structure It where
 go:Ai->Hp->Prop
 yld:Ai->Hp->V->Hp->Prop
 stop:Ai->Hp->Prop
def xC (X:Cx)(pins:Aa (Af × Cu))(H:Hp)(b:Af):Prop:=
 H b=none/\b≠X.env.locals/\b ∉ X.fs/\(b∈X.ex\/X.s₀.heap.objs.size<=b)/\(∀ x c,X.env.cells.lookup x=Ab c->c≠b)/\∀ p∈X.pn++pins,p.1≠b
theorem Inv.fpOk {X:Cx}{pins:Aa (Af × Cu)}{σ:St}{H H':Hp}{s:Ag}{b:Af}(I:Inv X pins σ H s)(hb:s.heap.objs.size<=b)(hn:H' b=none):xC X pins H' b:=by
 refine⟨hn,Gf (Bh I.lt hb),I.nofs hb,.inr (Df I.sz hb),λx c e z=>?_,λp hp z=>?_⟩
 .obtain⟨v,q⟩:=I.cell x c e
  exact absurd (Bh q.lt (by rw[z];exact hb)) (Ei _)
 .exact absurd (Bh (Ba (I.pin p hp).1) (by rw[z];exact hb)) (Ei _)
structure Turn (P:Bg)(w:Ca)(K:Aj)(tg:By)(J:It)(fp:Aa Af)(it:Af)(tn:Ai->Bw->Prop):Prop where
 mem:it∈fp
 obj:∀ i h,tn i h->∀ b∈fp,∃ o,h.get? b=Ab o/\∀ v,o.data≠.cell v
 keep:∀ i h h',tn i h->(∀ b∈fp,∀ o,h.get? b=Ab o->h'.get? b=Ab o)->tn i h'
 item:∀ (X:Cx),X.prog=P->X.w=w->X.K=K->X.calm=true->∀ (i:Ai) (pins:Aa (Af × Cu)) (s:Ag) (σ : St) (H:Hp) (E:Ac->Ag->Prop),Inv X pins σ H s->(∀ b∈fp,xC X pins H b)->tn i s.heap->J.go i H ->
  Ap (As P w) X.A (No (.ref it)) (λr s1=>∃ u,r=Ab u /\
   Ap (As P w) X.A (Kx tg (.ref it) u) (λ_ s2=>∃ x H',Inv X pins σ H' s2/\qG x u/\J.yld i H x H'/\tn (i+1) s2.heap/\∀ b∈fp,H' b=none) E s1) E s
 done:∀ (X:Cx),X.prog=P->X.w=w->X.K=K->X.calm=true->∀ (i:Ai) (pins:Aa (Af × Cu)) (s:Ag) (σ : St) (H:Hp) (E:Ac->Ag->Prop),Inv X pins σ H s->(∀ b∈fp,xC X pins H b)->tn i s.heap->J.stop i H ->
  Ap (As P w) X.A (No (.ref it)) (λr s1=>r=none/\Inv X pins σ H s1) E s
 self:∀ (A:Bt) (i:Ai) (s:Ag) (Q:Ac->Ag->Prop) (E:Ac->Ag->Prop),tn i s.heap->Q (.ref it) s->Ap (As P w) A (Oh (.ref it)) Q E s
abbrev TI:=St->Hp->(It->Hp->Prop)->Prop
inductive PIE (X:Cx)(pins:Aa (Af × Cu))(σ : St)(tg:By)(R:It->Hp->Prop)(itv:Ac)(s2:Ag):Prop
 |mk (it:Af) (fp:Aa Af) (tn:Ai->Bw->Prop) (J:It) (H':Hp) (e:itv=.ref it) (I:Inv X pins σ H' s2) (t:Turn X.prog X.w X.K tg J fp it tn) (z:tn 0 s2.heap) (f:∀ b∈fp,xC X pins H' b) (q:R J H'):PIE X pins σ tg R itv s2
def PI (X:Cx)(tg iter:By)(wi:TI):Prop:=
 ∀ (pins:Aa (Af × Cu)) (s:Ag) (σ : St) (H:Hp) (R:It->Hp->Prop),Inv X pins σ H s->wi σ H R ->
  Ap (As X.prog X.w) X.A (eval iter X.env) (λv s1=>Ap (As X.prog X.w) X.A (Oh v) (PIE X pins σ tg R) X.xe s1) X.xe s
theorem dS {M:Pj}{A:Bt}{E:Ac->Ag->Prop}{s:Ag}{it:Af}{u:Ac}{o:Cu}{n:Ek}{vs:Ax Ac}{Q:Vi->Ag->Prop}(ho:s.heap.get? it=Ab o)(hc:o.cls=.type n)(hd:o.data=.fields vs)
    (hn:["enumerate","zip","dict_itemiterator","dict_reverseitemiterator","odict_iterator","itertools.zip_longest","itertools.pairwise"].contains n=false) (hQ:Q () s):Ap M A (Kx tg (.ref it) u) Q E s:=by
  unfold Kx;cases tg <;> first
    |exact Am hQ
    |(cases u <;> first
        |exact Am hQ
        | (refine Ad (wpAny_load ho ?_)
           rw[hc,hd];show Ap M A (if (["enumerate","zip","dict_itemiterator","dict_reverseitemiterator","odict_iterator","itertools.zip_longest","itertools.pairwise"].contains n&&vs[0]? == Ab (Ol _))=true then _ else _) Q E s
           rw[Bf (by intro h;rw[hn,Hj] at h;cases h)]
           exact Am hQ))
noncomputable def Itl (K:Aj)(a:Af):It:=
 ⟨λi H=>∃ xs x,SqL K H a xs/\xs[i]? = Ab x,λi H x H'=>H'=H/\∀ xs,SqL K H a xs->xs[i]? = Ab x,λi H=>∃ xs,SqL K H a xs/\xs.length<=i⟩
noncomputable def Itt (K:Aj)(a:Af):It:=
 ⟨λi H=>∃ xs x,SqT K H a xs/\xs[i]? = Ab x,λi H x H'=>H'=H/\∀ xs,SqT K H a xs->xs[i]? = Ab x,λi H=>∃ xs,SqT K H a xs/\xs.length<=i⟩
noncomputable def Itr (lo:An)(n:Ai):It:=⟨λi _=>i<n,λi H x H'=>H'=H/\x=.int (lo+i),λi _=>n<=i⟩
theorem d9 (a it:Af):Turn P w K tg (Itl K a) [it] it (λi h=>h.IsListIter it a i) where
 mem:=by simp
 obj:=λi h st b hb=>by
  have e:b=it:=by simpa using hb
  subst e;obtain⟨o,e,c,d⟩:=st;exact⟨o,e,λv z=>by rw[d] at z;cases z⟩
 keep:=λi h h' st k=>st.at λo e=>k it (by simp) o e
 item:=by
  intro X hP hw hK hc i pins s σ H E I hf st hg;subst hP hw hK;obtain⟨xs,x,hq,hx⟩:=hg;obtain⟨its,rv,p,hz⟩:=I.list hq;obtain⟨u,hu,ru⟩:=rv.get hx;obtain⟨f0,f1,f2,f3,f4,f5⟩:=hf it (by simp)
  refine wpAny_pyNext_list_item st p.isList (x:=u) (by simpa using hu) λh' st' sb=>?_
  have I1:Inv X pins σ H { s with heap:=h' }:=I.turned (t':=s.toks) (λb o hb e=>(sb.2 b hb).trans e) f0 f1 f3 f4 f5
  obtain⟨o,e,c,d⟩:=id st';exact⟨u,rfl,dS (s:={ s with heap:=h' }) e c d (by decide) ⟨x,H,I1,ru,⟨rfl,λys hy=>by rw[I.list_inj hy hq];exact hx⟩,st',λb hb=>(hf b hb).1⟩⟩
 done:=by
  intro X hP hw hK hc i pins s σ H E I hf st hg;subst hP hw hK;obtain⟨xs,hq,hx⟩:=hg;obtain⟨its,rv,p,hz⟩:=I.list hq;obtain⟨f0,f1,f2,f3,f4,f5⟩:=hf it (by simp)
  have hl:=rv.length;exact wpAny_pyNext_list_end (I.ok.hd hc) st p.isList (by simp;omega) λh' eb=>⟨rfl,I.turned (t':=s.toks) (λb o hb e=>eb b o hb e) f0 f1 f3 f4 f5⟩
 self:=λ_ _ _ _ _ st h=>wpAny_pyIter_listiter st h
theorem Q3 (a it:Af):Turn P w K tg (Itt K a) [it] it (λi h=>h.IsTupleIter it a i) where
 mem:=by simp
 obj:=λi h st b hb=>by
  have e:b=it:=by simpa using hb
  subst e;obtain⟨o,e,c,d⟩:=st;exact⟨o,e,λv z=>by rw[d] at z;cases z⟩
 keep:=λi h h' st k=>st.at λo e=>k it (by simp) o e
 item:=by
  intro X hP hw hK hc i pins s σ H E I hf st hg;subst hP hw hK;obtain⟨xs,x,hq,hx⟩:=hg;obtain⟨its,rv,p,hz⟩:=I.tuple hq;obtain⟨u,hu,ru⟩:=rv.get hx;obtain⟨f0,f1,f2,f3,f4,f5⟩:=hf it (by simp)
  refine wpAny_pyNext_tuple_item st (show s.heap.IsTuple a its.toArray from p) (x:=u) (by simpa using hu) λh' st' sb=>?_
  have I1:Inv X pins σ H { s with heap:=h' }:=I.turned (t':=s.toks) (λb o hb e=>(sb.2 b hb).trans e) f0 f1 f3 f4 f5
  obtain⟨o,e,c,d⟩:=id st';exact⟨u,rfl,dS (s:={ s with heap:=h' }) e c d (by decide) ⟨x,H,I1,ru,⟨rfl,λys hy=>by rw[I.tuple_inj hy hq];exact hx⟩,st',λb hb=>(hf b hb).1⟩⟩
 done:=by
  intro X hP hw hK hc i pins s σ H E I hf st hg;subst hP hw hK;obtain⟨xs,hq,hx⟩:=hg;obtain⟨its,rv,p,hz⟩:=I.tuple hq;obtain⟨f0,f1,f2,f3,f4,f5⟩:=hf it (by simp)
  have hl:=rv.length;exact wpAny_pyNext_tuple_end (I.ok.hd hc) st (show s.heap.IsTuple a its.toArray from p) (by simp;omega) λh' eb=>⟨rfl,I.turned (t':=s.toks) (λb o hb e=>eb b o hb e) f0 f1 f3 f4 f5⟩
 self:=λ_ _ _ _ _ st h=>wpAny_pyIter_tupleiter st h
theorem Q2 (it:Af)(lo:An)(n:Ai):Turn P w K tg (Itr lo n) [it] it (λi h=>IsRangeIter h it (lo+(i:Ai)*1) ((n:An)-(i:Ai)) 1) where
 mem:=by simp
 obj:=λi h st b hb=>by
  have e:b=it:=by simpa using hb
  subst e;exact⟨_,st,λv z=>by
   have z':Data.fields _=Data.cell v:=z;cases z'⟩
 keep:=λi h h' st k=>k it (by simp) _ st
 item:=by
  intro X hP hw hK hc i pins s σ H E I hf st hg;subst hP hw hK;obtain⟨f0,f1,f2,f3,f4,f5⟩:=hf it (by simp)
  have W:=Walks.range (prog:=X.prog) (w:=X.w) (I.ok.hd hc) it lo 1 n;refine W.item i s _ _ hg st λv h' tk hv st' kk=>?_;obtain⟨t,rfl⟩:=hv;have I1:Inv X pins σ H { s with heap:=h',toks:=tk }:=I.turned (λb o hb e=>kk b o (by simpa using hb) e) f0 f1 f3 f4 f5
  refine⟨_,rfl,dS (s:={ s with heap:=h',toks:=tk }) (n:="range_iterator") st' rfl rfl (by decide) ⟨.int (lo+i),H,I1,⟨t,?_⟩,⟨rfl,rfl⟩,st',λb hb=>(hf b hb).1⟩⟩
  rw[Int.mul_one]
 done:=by
  intro X hP hw hK hc i pins s σ H E I hf st hg;subst hP hw hK;obtain⟨f0,f1,f2,f3,f4,f5⟩:=hf it (by simp)
  exact wpAny_pyNext_range_end (I.ok.hd hc) st (by have:n<=i:=hg;omega) λh' eb=>⟨rfl,I.turned (t':=s.toks) (λb o hb e=>eb b o hb e) f0 f1 f3 f4 f5⟩
 self:=λ_ _ _ _ _ st h=>wpAny_pyIter_rangeiter st h
end _L
namespace _L
open PySem PySem.Spec PyProof.Rows
variable {pins:Aa (Af × Cu)}{fp:Aa Af}{s:Ag}{H:Hp}{σ:St}
section
variable {X:Cx}{tg:By}
theorem eD {R:It->Hp->Prop}{E:Ac->Ag->Prop}{lo hi:An}{t u v:Ti}{tk:Ai}(I:Inv X pins σ H s)(h1 : -(2 ^ 62)<=lo)(h2:lo<2 ^ 62)(h3 : -(2 ^ 62)<=hi)(h4:hi<2 ^ 62)
  (q:R (Itr lo (hi-lo).toNat) H):Ap (As X.prog X.w) X.A (Oh (.ref s.heap.objs.size)) (PIE X pins σ tg R) E { s with heap:=s.heap.push { cls:=.type "range",data:=.fields #[.int lo t,.int hi u,.int 1 v] },toks:=tk }:=by
 refine wpAny_pyIter_range (IsRange.new ..) (small_one h1 h2 h3 h4) ?_;have I1:Inv X pins σ H { s with heap:=s.heap.push { cls:=.type "range",data:=.fields #[.int lo t,.int hi u,.int 1 v] },toks:=tk }:=I.kept λb o e=>Ah _ e
 refine⟨(s.heap.push { cls:=.type "range",data:=.fields #[.int lo t,.int hi u,.int 1 v] }).objs.size,[(s.heap.push { cls:=.type "range",data:=.fields #[.int lo t,.int hi u,.int 1 v] }).objs.size],_,_,H,rfl,
  I1.kept (t':=tk) λb o e=>Ah _ e,Q2 _ lo (hi-lo).toNat,?_,λb hb=>?_,q⟩
 .have e1:lo+((0:Ai):An)*1=lo:=by simp
  have e2:(((hi-lo).toNat:Ai):An)-((0:Ai):An)=Builtin.Range.rangeSize lo hi 1:=by rw[rangeSize_one];split <;> omega
  show IsRangeIter _ _ (lo+((0:Ai):An)*1) ((((hi-lo).toNat:Ai):An)-((0:Ai):An)) 1;rw[e1,e2];exact Ay _ rfl
 .have e:b=(s.heap.push { cls:=.type "range",data:=.fields #[.int lo t,.int hi u,.int 1 v] }).objs.size:=by simpa using hb
  subst e;exact I1.fpOk (Av _) (I1.hok.fresh (Av _))
def IB (wi:TI)(g:TG)(tb:TS):TS:=λD σ H=>wi σ H λJ H1=>∃ W:Ai->Ai->St->Hp->Prop,(∃ m,W 0 m σ H1)/\∀ i m σ H,W i m σ H ->
 (J.stop i H/\D.nx σ H)\/(J.go i H/\∃ N:St->Hp->Prop,(∀ σ' H',N σ' H'->∃ m',m'<m/\W (i+1) m' σ' H')/\∀ x H',J.yld i H x H'->g x σ H' λσ2 H2=>tb { D with nx:=N,ct:=N,bk:=D.nx } σ2 H2)
noncomputable def v8 (fp:Aa Af)(h:Bw):Aa (Af × Cu):=fp.filterMap λb=>(h.get? b).map λo=>(b,o)
theorem uB {h:Bw}{b:Af}{o:Cu}(hb:b∈fp)(e:h.get? b=Ab o):(b,o)∈v8 fp h:=Nd.mpr ⟨b,hb,by rw[e];rfl⟩
theorem lV {h:Bw}{p:Af × Cu}(hp:p∈v8 fp h):p.1∈fp/\h.get? p.1=Ab p.2:=by
 obtain⟨b,hb,e⟩:=Nd.mp hp;cases q:h.get? b with
 |none=>rw[q] at e;cases e
 |some o =>
  rw[q] at e;have e':(b,o)=p:=Dd e;subst e';exact⟨hb,q⟩
theorem Inv.pinned (I:Inv X pins σ H s)(hf:∀ b∈fp,xC X pins H b)(ho:∀ b∈fp,∃ o,s.heap.get? b=Ab o/\∀ v,o.data≠.cell v):Inv X (pins++v8 fp s.heap) σ H s:=
 I.pins_of λp hp=>(Bz.mp hp).elim (λz=>I.pin p (Bu _ z)) λz=>by
  obtain⟨hb,e⟩:=lV z;obtain⟨f0,f1,f2,_⟩:=hf p.1 hb;obtain⟨o,e',d⟩:=ho p.1 hb;rw[e] at e';cases e';exact⟨e,f0,f1,f2,d⟩
theorem Inv.unpinned {pl:Aa (Af × Cu)}(I:Inv X (pins++pl) σ H s):Inv X pins σ H s:=I.pins_of λp hp=>I.pin p (Bu _ (Dc _ hp))
inductive ForI (X:Cx)(pins:Aa (Af × Cu))(fp:Aa Af)(tn:Ai->Bw->Prop)(W:Ai->Ai->St->Hp->Prop)(n:Ai)(s':Ag):Prop
 |mk (i:Ai) (σ' : St) (H':Hp) (I:Inv X pins σ' H' s') (t:tn i s'.heap) (f:∀ b∈fp,H' b=none) (w:W i n σ' H'):ForI X pins fp tn W n s'
theorem D2 {iter:By}{body:Aa Gd}{wi:TI}{g:TG}{tb:TS}{pos:Fc}(hp:Rk (As X.prog X.w) X.A X.env X.xe)(hc:X.calm=true)(hi:PI X tg iter wi)(hg:PG X tg g)(hb:PSs X body tb)
  (hs:∀ x,Ev iter X.env x=pure x:=by intro _;rfl):PS X (.For tg iter body [] pos) (IB wi g tb):=by
 intro pins s σ H D I h;refine wpAny_For (thn (hi pins s σ H _ I h) λv s1 h1=>thn h1 λitv s2 h2=>?_) hs;obtain⟨it,fp,tn,J,H2,e,I2,T,st2,f2,W,⟨m0,w0⟩,turn⟩:=h2;subst e;have stat:∀ {H':Hp},(∀ b∈fp,H' b=none)->∀ b∈fp,xC X pins H' b:=λhn b hb=>⟨hn b hb,(f2 b hb).2⟩;refine codeAny_forLoop_any (ForI X pins fp tn W) ?_ m0 ⟨0,σ,H2,I2,st2,λb hb=>(f2 b hb).1,w0⟩;rintro n s3 ⟨i,σ3,H3,I3,st3,fr3,w3⟩;rcases turn i n σ3 H3 w3 with⟨stop,qn⟩|⟨go,N,hN,step⟩
 .refine Jq hp (thn (T.done X rfl rfl rfl hc i pins s3 σ3 H3 X.xe I3 (stat fr3) st3 stop) λr s4 ⟨hr,I4⟩=>?_)
  subst hr;exact Pk ⟨σ3,H3,I4,qn⟩
 .refine Jq hp (thn (T.item X rfl rfl rfl hc i pins s3 σ3 H3 X.xe I3 (stat fr3) st3 go) λr s4 ⟨u,hr,h4⟩=>?_)
  subst hr;refine Jq hp (thn h4 λ_ s5 ⟨x,H5,I5,r5,y5,st5,fr5⟩=>?_);have I5':=I5.pinned (stat fr5) (T.obj _ _ st5);refine Jq hp (thn (hg _ s5 σ3 H5 x u _ I5' r5 (step x H5 y5)) λ_ s6 ⟨σ6,H6,I6,q6⟩=>?_);refine Jq hp (thn (hb _ s6 σ6 H6 _ I6 q6) λf s7 q7=>?_);have again:∀ {σ7:St} {H7:Hp},Inv X (pins++v8 fp s5.heap) σ7 H7 s7->N σ7 H7->∃ m,m<n/\ForI X pins fp tn W m s7:=λ{σ7 H7} I7 n7=>by
   obtain⟨m',hm,w7⟩:=hN σ7 H7 n7;refine⟨m',hm,i+1,σ7,H7,I7.unpinned,T.keep _ _ _ st5 λb hb o e=>(I7.pin (b,o) (Bu _ (Bu _ (uB hb e)))).1,λb hb=>?_,w7⟩;obtain⟨o,e,d⟩:=T.obj _ _ st5 b hb;exact(I7.pin (b,o) (Bu _ (Bu _ (uB hb e)))).2.1
  cases f with
  |next=>obtain⟨σ7,H7,I7,n7⟩:=q7;exact again I7 n7
  |cont=>obtain⟨σ7,H7,I7,n7⟩:=q7;exact again I7 n7
  |brk=>obtain⟨σ7,H7,I7,q7⟩:=q7;exact⟨σ7,H7,I7.unpinned,q7⟩
  |ret v=>obtain⟨x7,σ7,H7,I7,r7,q7⟩:=q7;exact⟨x7,σ7,H7,I7.unpinned,r7,q7⟩
end
end _L
namespace _L
open PySem PySem.Spec PyProof.Rows
variable {us:Aa Ac}{f:Ac->Ac->Ln Ac}{g:An->An->An}
abbrev R2:=V->V->Hp->VK->Prop
def OpR (X:Cx)(f:Ac->Ac->Ln Ac)(r:R2):Prop:=
 ∀ (pins:Aa (Af × Cu)) (s:Ag) (σ : St) (H:Hp) (x y:V) (v u:Ac) (Q:VK),Inv X pins σ H s->qG x v->qG y u->r x y H Q ->
  Ap (As X.prog X.w) X.A (f v u) (EP X pins σ Q) X.xe s
def UnR (X:Cx)(f:Ac->Ln Ac)(r:V->Hp->VK->Prop):Prop:=
 ∀ (pins:Aa (Af × Cu)) (s:Ag) (σ : St) (H:Hp) (x:V) (v:Ac) (Q:VK),Inv X pins σ H s->qG x v->r x H Q ->
  Ap (As X.prog X.w) X.A (f v) (EP X pins σ Q) X.xe s
def kU (X:Cx)(f:Ac)(r:Aa V->Hp->VK->Prop):Prop:=
 ∀ (pins:Aa (Af × Cu)) (s:Ag) (σ : St) (H:Hp) (xs:Aa V) (us:Aa Ac) (Q:VK),Inv X pins σ H s->qJ xs us->r xs H Q ->
  Ap (As X.prog X.w) X.A (call f us) (EP X pins σ Q) X.xe s
def CZ (X:Cx)(r:V->Hp->(Ar->Hp->Prop)->Prop):Prop:=
 ∀ (pins:Aa (Af × Cu)) (s:Ag) (σ : St) (H:Hp) (x:V) (v:Ac) (Q:Ar->Hp->Prop),Inv X pins σ H s->qG x v->r x H Q ->
  Ap (As X.prog X.w) X.A (truthy v) (TP X pins σ Q) X.xe s
def tOp (r:R2)(ta tb:TE):TE:=λσ H Q=>ta σ H λx H1=>tb σ H1 λy H2=>r x y H2 Q
def rI (C:An->An->Prop)(g:An->An->V):R2:=λx y H Q=>∃ i j,x=.int i/\y=.int j/\C i j/\Q (g i j) H
def rI0 (g:An->An->V):R2:=λx y H Q=>∃ i j,x=.int i/\y=.int j/\Q (g i j) H
def rU (g:An->V):V->Hp->VK->Prop:=λx H Q=>∃ i,x=.int i/\Q (g i) H
section
variable {X:Cx}{a b c:By}{ta tb tc:TE}{pos:Fc}
theorem A6 (ha:PE X a ta)(hb:PE X b tb){pins:Aa (Af × Cu)}{s:Ag}{σ : St}{H:Hp}{R:V->V->Hp->Prop}(I:Inv X pins σ H s)
  (h:ta σ H λx H1=>tb σ H1 λy H2=>R x y H2) {Q:Ac->Ag->Prop} {f:Ac->Ac->Ln Ac}
  (hf:∀ v u s2 x y H2,Inv X pins σ H2 s2->qG x v->qG y u->R x y H2->Ap (As X.prog X.w) X.A (f v u) Q X.xe s2) :
  Ap (As X.prog X.w) X.A (eval a X.env) (λv s₁=>Ap (As X.prog X.w) X.A (eval b X.env) (λu s₂=>Ap (As X.prog X.w) X.A (f v u) Q X.xe s₂) X.xe s₁) X.xe s:=by
 refine thn (ha pins s σ H _ I h) λv s1 ⟨x,H1,I1,r1,q1⟩=>?_;refine thn (hb pins s1 σ H1 _ I1 q1) λu s2 ⟨y,H2,I2,r2,q2⟩=>?_;exact hf v u s2 x y H2 I2 r1 r2 q2
theorem opI {f:Ac->Ac->Ln Ac}{C:An->An->Prop}
  (rule:∀ (i j:An) (t u:Ti) (s:Ag) (Q:Ac->Ag->Prop) (E:Ac->Ag->Prop),C i j->Q (.int (g i j) s.toks) { s with toks:=s.toks+1 } -> Ap (As X.prog X.w) X.A (f (.int i t) (.int j u)) Q E s) :
  OpR X f (rI C λi j=>.int (g i j)):=by
 intro pins s σ H x y v u Q I rx ry h;obtain⟨i,j,rfl,rfl,hc,q⟩:=h;obtain⟨t,rfl⟩:=rx;obtain⟨t',rfl⟩:=ry;exact rule i j t t' s _ _ hc ⟨.int (g i j),H,I.tok _,⟨_,rfl⟩,q⟩
theorem LK {f:Ac->Ac->Ln Ac}
  (rule:∀ (i j:An) (t u:Ti) (s:Ag) (Q:Ac->Ag->Prop) (E:Ac->Ag->Prop),Q (.int (g i j) s.toks) { s with toks:=s.toks+1 } -> Ap (As X.prog X.w) X.A (f (.int i t) (.int j u)) Q E s) :
  OpR X f (rI0 λi j=>.int (g i j)):=by
 intro pins s σ H x y v u Q I rx ry h;obtain⟨i,j,rfl,rfl,q⟩:=h;obtain⟨t,rfl⟩:=rx;obtain⟨t',rfl⟩:=ry;exact rule i j t t' s _ _ ⟨.int (g i j),H,I.tok _,⟨_,rfl⟩,q⟩
theorem oM {g:An->An->Ar}
  (rule:∀ (i j:An) (t u:Ti) (s:Ag) (Q:Ac->Ag->Prop) (E:Ac->Ag->Prop),Q (.bool (g i j)) s->Ap (As X.prog X.w) X.A (f (.int i t) (.int j u)) Q E s) :
  OpR X f (rI0 λi j=>.bl (g i j)):=by
 intro pins s σ H x y v u Q I rx ry h;obtain⟨i,j,rfl,rfl,q⟩:=h;obtain⟨t,rfl⟩:=rx;obtain⟨t',rfl⟩:=ry;exact rule i j t t' s _ _ ⟨.bl (g i j),H,I,rfl,q⟩
def CU (i j:An):Prop:=0<j/\j<1073741824
def CV (i j:An):Prop:=0<=j/\j<=1000000/\i.natAbs<2 ^ 64
def WH (i j:An):Prop:=(-(2 ^ 64)<i/\i<2 ^ 64)\/(-(2 ^ 64)<j/\j<2 ^ 64)
theorem WH.ok {i j:An}(h:WH i j):IntMulOk i j:=by
 rcases h with⟨h1,h2⟩|⟨h1,h2⟩
 .exact .of_left (intBits_le_64 h1 h2)
 .exact .of_right (intBits_le_64 h1 h2)
theorem LL:OpR X (Fm .Add) (rI0 λi j=>.int (i+j)):=LK λ_ _ _ _ _ _ _ q=>add_int q
theorem LQ:OpR X (Fm .Sub) (rI0 λi j=>.int (i-j)):=LK λ_ _ _ _ _ _ _ q=>sub_int q
theorem LO:OpR X (Fm .Mult) (rI WH λi j=>.int (i*j)):=opI λ_ _ _ _ _ _ _ hc q=>mul_int q hc.ok
theorem PV:OpR X (Fm .FloorDiv) (rI CU λi j=>.int (i/j)):=opI λi j _ _ _ _ _ hc q=>by
 have h1:(0:An)<j:=hc.1;have h2:j<1073741824:=hc.2;exact floordiv_int om (by rw[Int.fdiv_eq_ediv_of_nonneg i om];exact q) (.inl (PyProof.noPylong_small om))
theorem LN:OpR X (Fm .Mod) (rI (λ_ j=>0<j) λi j=>.int (i % j)):=opI λi j _ _ _ _ _ hc q=>by
 have h1:(0:An)<j:=hc;exact mod_int' om (by rw[Int.fmod_eq_emod_of_nonneg i om];exact q)
theorem LP:OpR X (Fm .Pow) (rI CV λi j=>.int (i ^ j.toNat)):=opI λ_ _ _ _ _ _ _ hc q=>pow_int_small hc.1 hc.2.1 hc.2.2 q
theorem unI {f:Ac->Ln Ac}{g:An->An}
  (rule:∀ (i:An) (t:Ti) (s:Ag) (Q:Ac->Ag->Prop) (E:Ac->Ag->Prop),Q (.int (g i) s.toks) { s with toks:=s.toks+1 } -> Ap (As X.prog X.w) X.A (f (.int i t)) Q E s) :
  UnR X f (rU λi=>.int (g i)):=by
 intro pins s σ H x v Q I rx h;obtain⟨i,rfl,q⟩:=h;obtain⟨t,rfl⟩:=rx;exact rule i t s _ _ ⟨.int (g i),H,I.tok _,⟨_,rfl⟩,q⟩
theorem RA:UnR X (Zf .USub) (rU λi=>.int (-i)):=unI λ_ _ _ _ _ q=>neg_int q
end
section
variable {X:Cx}{a b c:By}{ta tb tc:TE}{pos:Fc}
theorem ZD {pins:Aa (Af × Cu)}{σ:St}{H:Hp}{s:Ag}{Q:VK}{k k':Ar}(I:Inv X pins σ H s)(q:Q (.bl k) H)(e:k=k'):EP X pins σ Q (.bool k') s:=by
 subst e;exact⟨.bl k,H,I,rfl,q⟩
theorem EY:OpR X (Cc .Lt) (rI0 λi j=>.bl (decide (i<j))):=oM λ_ _ _ _ _ _ _ q=>lt_int q
theorem EW:OpR X (Cc .LtE) (rI0 λi j=>.bl (decide (i<=j))):=oM λ_ _ _ _ _ _ _ q=>le_int q
theorem EV:OpR X (Cc .Gt) (rI0 λi j=>.bl (decide (j<i))):=oM λ_ _ _ _ _ _ _ q=>gt_int q
theorem EU:OpR X (Cc .GtE) (rI0 λi j=>.bl (decide (j<=i))):=oM λ_ _ _ _ _ _ _ q=>ge_int q
theorem LM:OpR X (Cc .Is) (λx y H Q=>y=.non/\Q (.bl (decide (x=.non))) H):=by
 intro pins s σ H x y v u Q I rx ry h;obtain⟨rfl,q⟩:=h;cases ry;refine is_none_gen (ZD I q ?_);cases x <;> first
  |(cases rx;rfl)
  |(obtain⟨t,rfl⟩:=rx;rfl)
theorem PX:OpR X (Cc .IsNot) (λx y H Q=>y=.non/\Q (.bl (!decide (x=.non))) H):=by
 intro pins s σ H x y v u Q I rx ry h;obtain⟨rfl,q⟩:=h;cases ry;refine isnot_none_gen (ZD I q ?_);cases x <;> first
  |(cases rx;rfl)
  |(obtain⟨t,rfl⟩:=rx;rfl)
theorem OpR.or {r r':R2}(h:OpR X f r)(h':OpR X f r'):OpR X f (λx y H Q=>r x y H Q\/r' x y H Q):=by
 intro pins s σ H x y v u Q I rx ry q;rcases q with q|q
 .exact h pins s σ H x y v u Q I rx ry q
 .exact h' pins s σ H x y v u Q I rx ry q
theorem pZ (b:By){op:Ut}(h:op≠.In:=by decide)(h2:op≠.NotIn:=by decide):Mk op b=false:=by
 have e1:(op == CmpOp.In)=false:=by cases op <;> first|rfl|exact absurd rfl h
 have e2:(op == CmpOp.NotIn)=false:=by cases op <;> first|rfl|exact absurd rfl h2
 cases b <;> simp[Mk,e1,e2]
def iE (K:Aj)(x:V)(H:Hp)(k:Ar):Prop:=
 match x with
 |.non=>k=false
 |.bl b=>k=b
 |.int i=>k=(i != 0)
 |.str y=>y.length<=sizeLine/\k=((y.length:An) != 0)
 |.byt y=>y.size<=sizeLine/\k=((y.size:An) != 0)
 |.ref p=>(∃ xs,SqL K H p xs/\k=!xs.isEmpty)\/(∃ xs,SqT K H p xs/\k=!xs.isEmpty)\/∃ kvs,H p=Ab (.dK kvs)/\k=!kvs.isEmpty
 |_=>Fv
theorem o4 {κ:Type}{kvs:Aa (κ × V)}{vs:Aa (κ × Ac)}(r:KV kvs vs):(!vs.isEmpty)=!kvs.isEmpty:=by
 cases r <;> rfl
theorem mL {xs:Aa V}{its:Aa Ac}(r:qJ xs its):(!its.toArray.isEmpty)=!xs.isEmpty:=by
 cases r <;> simp
theorem pY:(sizeLine:Ai)<2 ^ 63:=by rw[Fp];decide
theorem bA:CZ X (λx H Q=>∃ k,iE X.K x H k/\Q k H):=by
 intro pins s σ H x v Q I rx h;obtain⟨k,e,q⟩:=h;have hl:=pY;have hs:sizeLine=16777216:=Fp;cases x with
 |non =>
  cases rx;have e':k=false:=e;subst e';exact truthy_none ⟨H,I,q⟩
 |bl b =>
  cases rx;have e':k=b:=e;subst e';exact Rl ⟨H,I,q⟩
 |int i =>
  obtain⟨t,rfl⟩:=rx;have e':k=(i != 0):=e;subst e';exact PySem.P.truthy_int ⟨H,I,q⟩
 |str y =>
  obtain⟨t,rfl⟩:=rx;obtain⟨hy,e'⟩:y.length<=sizeLine/\k=((y.length:An) != 0):=e;subst e';exact PySem.P.truthy_str om ⟨H,I.tok _,q⟩
 |byt y =>
  obtain⟨t,rfl⟩:=rx;obtain⟨hy,e'⟩:y.size<=sizeLine/\k=((y.size:An) != 0):=e;subst e';exact PySem.W.truthy_bytes om ⟨H,I.tok _,q⟩
 |ref p =>
  cases rx;have e':(∃ xs,SqL X.K H p xs/\k=!xs.isEmpty)\/(∃ xs,SqT X.K H p xs/\k=!xs.isEmpty)\/∃ kvs,H p=Ab (.dK kvs)/\k=!kvs.isEmpty:=e;rcases e' with⟨xs,hx,e'⟩|⟨xs,hx,e'⟩|⟨kvs,hx,e'⟩
  .subst e'
   obtain⟨its,r,pl,hz⟩:=I.list hx;have hlen:=r.length;exact wpAny_truthy_list pl.isList (by simp only[Bj];omega) ⟨H,I.tok _,by rw[mL r];exact q⟩
  .subst e'
   obtain⟨its,r,pl,hz⟩:=I.tuple hx;have hlen:=r.length;exact truthy_tuple pl (by simp only[Bj];omega) ⟨H,I.tok _,by rw[mL r];exact q⟩
  .subst e'
   obtain⟨hz,hS,vs,r,m⟩:kvs.length<=sizeLine/\(p == Ki)=false/\∃ vs,KV kvs vs/\s.heap.DictOf (zK X.prog X.w) p vs:=I.hok p _ hx;have hlen:kvs.length=vs.length:=Paired.length r;exact wpAny_truthy_dict hS m om ⟨H,I.tok _,by rw[o4 r];exact q⟩
 |_=>exact(show Fv from e).elim
theorem oN:OpR X (Fm .Add) (λx y H Q=>∃ i j,x=.str i/\y=.str j/\i.length+j.length<=sizeLine/\Q (.str (i++j)) H):=by
 intro pins s σ H x y v u Q I rx ry h;obtain⟨i,j,rfl,rfl,hz,q⟩:=h;obtain⟨t,rfl⟩:=rx;obtain⟨t',rfl⟩:=ry;exact add_str (λt' tk=>⟨.str (i++j),H,I.tok _,⟨_,rfl⟩,q⟩) hz
theorem p8 {x:V}(r:qJ [x] us):∃ u,us=[u]/\qG x u:=by
 cases r with
 |cons r1 r2=>cases r2;exact⟨_,rfl,r1⟩
theorem Q4 {x y:V}(r:qJ [x,y] us):∃ u w',us=[u,w']/\qG x u/\qG y w':=by
 cases r with
 |cons r1 r2 =>
  cases r2 with
  |cons r3 r4=>cases r4;exact⟨_,_,rfl,r1,r3⟩
theorem lE:kU X (.type "int") (λxs H Q=>(∃ i,xs=[.int i]/\Q (.int i) H)\/∃ k,xs=[.bl k]/\Q (.int (if k then 1 else 0)) H):=by
 intro pins s σ H xs us Q I r h;rcases h with⟨i,rfl,q⟩|⟨k,rfl,q⟩
 .obtain⟨u,rfl,t,rfl⟩:=p8 r
  exact call_int_int ⟨.int i,H,I,⟨_,rfl⟩,q⟩
 .obtain⟨u,rfl,r1⟩:=p8 r
  cases r1;exact call_int_bool ⟨.int (if k then 1 else 0),H,I.tok _,⟨_,rfl⟩,q⟩
def FY (K:Aj)(x:V)(H:Hp)(n:Ai):Prop:=
 match x with
 |.str y=>y.length<=sizeLine/\n=y.length
 |.byt y=>y.size<=sizeLine/\n=y.size
 |.ref p=>(∃ xs,SqL K H p xs/\n=xs.length)\/∃ xs,SqT K H p xs/\n=xs.length
 |_=>Fv
theorem WT:kU X (.builtin "len") (λxs H Q=>∃ x n,xs=[x]/\FY X.K x H n/\Q (.int n) H):=by
 intro pins s σ H xs us Q I r h;obtain⟨x,n,rfl,e,q⟩:=h;obtain⟨u,rfl,rx⟩:=p8 r;have hl:=pY;have hs:sizeLine=16777216:=Fp;cases x with
 |str y =>
  obtain⟨t,rfl⟩:=rx;obtain⟨hy,e'⟩:y.length<=sizeLine/\n=y.length:=e;subst e';exact len_str om ⟨.int _,H,I.tok _,⟨_,rfl⟩,q⟩
 |byt y =>
  obtain⟨t,rfl⟩:=rx;obtain⟨hy,e'⟩:y.size<=sizeLine/\n=y.size:=e;subst e';exact PySem.W.len_bytes om ⟨.int _,H,I.tok _,⟨_,rfl⟩,q⟩
 |ref p =>
  cases rx;have e':(∃ xs,SqL X.K H p xs/\n=xs.length)\/∃ xs,SqT X.K H p xs/\n=xs.length:=e;rcases e' with⟨xs,hx,e'⟩|⟨xs,hx,e'⟩
  .subst e'
   obtain⟨its,r',pl,hz⟩:=I.list hx;have hlen:=r'.length;exact Calls.call_len_list pl.isList (by simp only[Bj];omega) ⟨.int xs.length,H,I.tok _,⟨_,by simp only[Bj];rw[hlen]⟩,q⟩
  .subst e'
   obtain⟨its,r',pl,hz⟩:=I.tuple hx;have hlen:=r'.length;exact len_tuple pl (by simp only[Bj];omega) ⟨.int xs.length,H,I.tok _,⟨_,by simp only[Bj];rw[hlen]⟩,q⟩
 |_=>exact(show Fv from e).elim
end
end _L
namespace _L
open PySem PySem.Spec PyProof.Rows
variable {mA:Au->Al Ac}
structure ObjM (h:Bw)(x dx C:Af)(mA:Au->Al Ac):Prop where
 obj:h.get? x=Ab (Tz C dx)
 ns:h.Ns1 dx mA
 ne:dx≠x
set_option tactic.hygienic true in
theorem ZY {h:Bw}{dx:Af}(n:h.Ns1 dx mA):∃ od,h.get? dx=Ab od/\∀ name,Vj name od=Ab (mA name):=by
 obtain⟨o,es,ep,ho,hd,hk,_,hm⟩:=n;refine⟨o,ho,λname=>?_⟩;have e:=hm name;unfold nsFind findBy at e;rw[<- Array.find?_toList] at e;unfold Vj;rw[hd];dsimp only
 split
 .rename_i y q
  rw[q] at e;exact congrArg Ab e
 .rename_i q
  rw[q] at e;have a:es.toList.any (·.refKey)=false:=by
   rw[List.any_eq_false];intro y hy;obtain⟨z,t,hkey⟩:=hk y (Pd.mp hy);simp[DictEntry.refKey,hkey]
  have a':¬ es.toList.any (·.refKey)=true:=by rw[a];exact Ic
  rw[Bf a'];exact congrArg Ab e
theorem ObjM.look {h:Bw}{x dx C:Af}(I:ObjM h x dx C mA):∃ od,PySem.W.InstAt h x (Tz C dx) C (Ab od)/\∀ name,Vj name od=Ab (mA name):=
 let ⟨od,ho,hl⟩:=ZY I.ns
 ⟨od,⟨I.obj,rfl,rfl,ho⟩,hl⟩
theorem uL.some_of {v:V}{o:Al Ac}(r:uL (Ab v) o):∃ u,o=Ab u/\qG v u:=by
 cases o with
 |none=>exact(show Fv from r).elim
 |some u=>exact⟨u,rfl,r⟩
section
variable {P:Bg}{w:Ca}{H H':Hp}{h h':Bw}{a C dx:Af}{fs fs':Aa (Au × V)}
theorem GM (hok:HOk P w H h)(e:H a=Ab (.ins C dx fs)):∃ mA,ObjM h a dx C mA/\(∀ f,uL (fs.lookup f) (mA f))/\AaJ mA (fs.map (·.1))/\fs.length<=1000/\H dx=Ab (.own a):=by
 obtain⟨d,z,ne,ob,mA,n,r,q⟩:=(show zL P w H h a (.ins C dx fs) from hok a _ e)
 exact⟨mA,⟨ob,n,ne⟩,r,q,z,d⟩
end
structure Cls (K:Aj)(C:Af):Prop where
 pg:Zg K C AaD=true
 hd:PySem.W.hasDictIn K C=true
 po:PySem.W.plainOver K C=true
 sa:Np K (.ref C) "__setattr__" = Ab (Ab (.builtin "object.__setattr__"))
theorem Cls.get {K:Aj}{C:Af}(c:Cls K C)(f:Au):Zg K C f=true:=c.pg
section
variable {X:Cx}{pins:Aa (Af × Cu)}{σ : St}{H:Hp}{s:Ag}{A:Bt}{E:Ac->Ag->Prop}{Q:Ac->Ag->Prop}{c:Ac}{b:Ar}
inductive TyOf (K:Aj)(H:Hp):V->Ac->Prop where
 |non:TyOf K H .non (.type "NoneType")
 |bl (x:Ar):TyOf K H (.bl x) (.type "bool")
 |int (i:An):TyOf K H (.int i) (.type "int")
 |str (x:Au):TyOf K H (.str x) (.type "str")
 |flt (x:UInt64):TyOf K H (.flt x) (.type "float")
 |lst {a:Af} {xs:Aa V} (e:H a=Ab (.lst xs)):TyOf K H (.ref a) (.type "list")
 |frz {a:Af} {o:Cu} {xs:Aa V} (e:H a=Ab (.frz o (.lst xs))):TyOf K H (.ref a) (.type "list")
 |tup {a:Af} {xs:Aa V} (e:H a=Ab (.tup xs)):TyOf K H (.ref a) (.type "tuple")
 |dK {a:Af} {kvs:Aa (Key × V)} (e:H a=Ab (.dK kvs)):TyOf K H (.ref a) (.type "dict")
 |dT {a:Af} {kvs:Aa (Aa Key × V)} (e:H a=Ab (.dT kvs)):TyOf K H (.ref a) (.type "dict")
 |ins {a C dx:Af} {fs:Aa (Au × V)} (e:H a=Ab (.ins C dx fs)) (cl:Cls K C) (ha:Np K (.ref C) "__class__" = Ab (Ab (.builtin "object.__class__")))
   (hn:Yj K (.builtin "object.__class__") "__get__" = Ab (Ab (.builtin "getset_descriptor.__get__"))) (htk:dL K (.builtin "object.__class__")=Ab true)
   (hm:We K C (.type "object")=Ab true):TyOf K H (.ref a) (.ref C)
theorem ZN {x:V}{u t:Ac}(I:Inv X pins σ H s)(rx:qG x u)(ty:TyOf X.K H x t)(e:Lz X.K t c=Ab b)(h:∀ tk,Q (.bool b) { s with toks:=tk }) :
  Ap (As X.prog X.w) A (call (.builtin "isinstance") [u,c]) Q E s:=by
 cases ty with
 |non=>cases (show u=Dq from rx);exact Fd PySem.W.kitx_none I.kIn Iu e (λz=>nomatch z) h
 |bl y=>cases (show u=Ig y from rx);exact Fd PySem.W.kitx_bool I.kIn Iu e (λz=>nomatch z) h
 |int i=>obtain⟨t,q⟩:=(show ∃ t,u=Ri i t from rx);cases q;exact Fd PySem.W.kitx_int I.kIn Iu e (λz=>nomatch z) h
 |str y=>obtain⟨t,q⟩:=(show ∃ t,u=Yf y t from rx);cases q;exact Fd PySem.W.kitx_str I.kIn Iu e (λz=>nomatch z) h
 |flt y=>obtain⟨t,q⟩:=(show ∃ t,u=Value.float y t from rx);cases q;exact Fd PySem.W.kitx_float I.kIn Iu e (λz=>nomatch z) h
 |@lst a xs ea =>
  cases (show u=Dh a from rx)
  obtain⟨_,_,n,_,h1⟩:=(show zL X.prog X.w H s.heap a (.lst xs) from I.hok a _ ea)
  exact Fd Rm I.kIn ⟨_,h1,rfl⟩ e (λz=>nomatch z) h
 |@frz a ob xs ea =>
  cases (show u=Dh a from rx)
  obtain⟨_,_,_,n,_,h1⟩:=(show zL X.prog X.w H s.heap a (.frz ob (.lst xs)) from I.hok a _ ea)
  exact Fd Rm I.kIn ⟨_,h1,rfl⟩ e (λz=>nomatch z) h
 |@tup a xs ea =>
  cases (show u=Dh a from rx)
  obtain⟨_,_,_,p⟩:=(show zL X.prog X.w H s.heap a (.tup xs) from I.hok a _ ea)
  obtain⟨o,h1,h2,_⟩:=p;exact Fd Xe I.kIn ⟨o,h1,h2⟩ e (λz=>nomatch z) h
 |@dK a kvs ea =>
  cases (show u=Dh a from rx)
  obtain⟨_,_,vs,_,p⟩:=(show zL X.prog X.w H s.heap a (.dK kvs) from I.hok a _ ea)
  obtain⟨o,es,ep,h1,h2,_⟩:=p;exact Fd Yk I.kIn ⟨o,h1,h2.1⟩ e (λz=>nomatch z) h
 |@dT a kvs ea =>
  cases (show u=Dh a from rx)
  obtain⟨_,_,xs,_,o,es,ep,h1,h2,_⟩:=(show zL X.prog X.w H s.heap a (.dT kvs) from I.hok a _ ea)
  exact Fd Yk I.kIn ⟨o,h1,h2.1⟩ e (λz=>nomatch z) h
 |@ins a C dx fs ea cl ha hn htk hm =>
  cases (show u=Dh a from rx)
  obtain⟨mA,O,_⟩:=GM I.hok ea;obtain⟨od,J,_⟩:=O.look;exact Fd (PySem.W.kitx_own (cl.get _) cl.hd ha hn htk hm) I.kIn J e (λz=>nomatch z) h
end
end _L
namespace _L
open PySem PySem.Spec PyProof.Rows
variable {ps:Aa Au}{K:Aj}{mg:Au->Al Ac}{kindOf:Au->Al Ik}{A:Bt}{scope:Ey}
structure Room (k:Ai)(A:Bt):Prop where
 hd:A.handled=none
 dp:A.depth+3*k+5<Qg
 un:A.units+16*k+200<Du
 gd:A.guards=Ab []
theorem Room.deeper {k:Ai}(r:Room (k+1) A)(env:Kc):Room k (A.deeper env):=
 ⟨r.hd,by have:=r.dp;show A.depth+1+3*k+5<_;omega,by have:=r.un;show A.units+3+16*k+200<_;omega,r.gd⟩
theorem Room.depth {k:Ai}(r:Room k A):A.depth<Qg:=by have:=r.dp;omega
theorem Room.units {k:Ai}(r:Room k A):A.units+64<Du:=by have:=r.un;omega
def IE:TA:=λ_ H Q=>Q [] H
section
variable {X:Cx}{e:By}{es:Aa By}{te:TE}{t:TA}{pos:Fc}
theorem LR:PA X [] IE:=λ_ _ _ _ H Q I h=>Ro ⟨[],H,I,.nil,h⟩
def IH (t:TA):TE:=λσ H Q=>t σ H λxs H1=>xs.length<=sizeLine/\∀ p,H1 p=none->Q (.ref p) (upd H1 p (.tup xs))
def ID (t:TA):TE:=λσ H Q=>t σ H λxs H1=>xs.length<=sizeLine/\∀ p,H1 p=none->Q (.ref p) (upd H1 p (.lst xs))
theorem LX  (h:PA X es t):PE X (.Tuple es x1 pos) (IH t):=by
 intro pins s σ H Q I hq;refine wpAny_Tuple_spliced (thn (h pos pins s σ H _ I hq) λus s1 ⟨xs,H1,I1,r,z,q⟩=>⟨by rw[<- r.length];exact z,?_⟩)
 have hf:H1 s1.heap.objs.size=none:=I1.hok.fresh (Av _);refine⟨.ref s1.heap.objs.size,upd H1 s1.heap.objs.size (.tup xs),I1.laid (t':=s1.toks) (λb u e=>Ah _ e) (Av _) ?_,rfl,q _ hf⟩;exact⟨z,us,r,⟨_,Ay _ rfl,rfl,_,rfl⟩⟩
theorem XQ (h:PA X es t):PE X (.List es pos) (ID t):=by
 intro pins s σ H Q I hq;refine wpAny_List_spliced (thn (h pos pins s σ H _ I hq) λus s1 ⟨xs,H1,I1,r,z,q⟩=>⟨by rw[<- r.length];exact z,?_⟩)
 have hf:H1 s1.heap.objs.size=none:=I1.hok.fresh (Av _);refine⟨.ref s1.heap.objs.size,upd H1 s1.heap.objs.size (.lst xs),I1.laid (t':=s1.toks) (λb u e=>Ah _ e) (Av _) ?_,rfl,q _ hf⟩;exact⟨z,us,0,r,Ay _ rfl⟩
end
abbrev Sp:=Aa V->Hp->VK->XK->Prop
abbrev CXT:=Aa Kc->Hp->Ag->XK->Ac->Ag->Prop
structure Env0 (P:Bg)(w:Ca)(K:Aj)(mg:Au->Al Ac)(base:Bw)(A:Bt)(outer:Aa Kc)(s:Ag)(H:Hp):Prop where
 frames:A.frames=Ab outer
 mod:Mod K mg base
 bs:∀ b o,base.get? b=Ab o->s.heap.get? b=Ab o/\H b=none
 bsz:base.objs.size<=s.heap.objs.size
 funs:s.heap.FunFrames base outer
 frf:∀ b∈frs outer,H b=none
 hok:HOk P w H s.heap
 bare:Og s.gens
def CE (outer:Aa Kc)(P:Bg)(w:Ca)(H:Hp)(s:Ag)(Q:VK)(u:Ac)(s':Ag):Prop:=
 ∃ v H',s'.os=s.os/\Og s'.gens/\Un (frs outer) [] H H' s.heap s'.heap/\HOk P w H' s'.heap/\qG v u/\Q v H'
def CR (CX:CXT)(outer:Aa Kc)(P:Bg)(w:Ca)(H:Hp)(s:Ag)(Q:VK)(E:XK)(r:Zh)(s':Ag):Prop:=
 match r with
 |.ok (.ret u)=>CE outer P w H s Q u s'
 |.ok _=>Fv
 |.error e=>CX outer H s E e s'
structure FnOk (P:Bg)(w:Ca)(K:Aj)(mg:Au->Al Ac)(base:Bw)(CX:CXT)(k:Ai)(f:Af)(fd:Fx)(ps:Aa Au)(sp:Sp):Prop where
 len:∀ vs H Q E,sp vs H Q E->vs.length=ps.length
 run:∀ (A:Bt) (outer:Aa Kc) (s:Ag) (H:Hp) (args:Args) (us:Aa Ac) (vs:Aa V) (Q:VK) (E:XK),Room k A->Env0 P w K mg base A outer s H->Om s fd args (ps.zip us)->qJ vs us->sp vs H Q E ->
  Iw (As P w) A (.call (.ref f) args) (CR CX outer P w H s Q E) s
section
variable {X:Cx}{pins:Aa (Af × Cu)}{σ : St}{H:Hp}{s s':Ag}
theorem Inv.env0 (I:Inv X pins σ H s):Env0 X.prog X.w X.K X.mg X.base X.A X.stack s H:=
 ⟨I.ok.frames,I.ok.mod,I.bs,Df I.ok.bsz I.sz,I.stack,I.stkFree,I.hok,I.bare⟩
theorem Inv.after {Q:VK}{u:Ac}(I:Inv X pins σ H s)(h:CE X.stack X.prog X.w H s Q u s'):EP X pins σ Q u s':=by
 obtain⟨v,H',os,bare,un,hok,r,q⟩:=h;obtain⟨hh,g,d,t,os'⟩:=s';obtain rfl:os'=s.os:=os;exact⟨v,H',I.call (h':=hh) (g':=g) (d':=d) (t':=t) (ch:=[]) un hok bare (λb z=>absurd z (by simp)),r,q⟩
end
def u7 (K:Aj)(fd:Fx)(ps:Aa Au)(ds:Aa Ac):Prop:=
 ∀ (s:Ag) (us:Aa Ac),K.In s.heap->(us++ds).length=ps.length->Om s fd ⟨us,[]⟩ (ps.zip (us++ds))
theorem u7.all {fd:Fx}(h:∀ us:Aa Ac,us.length=ps.length->f8 fd ⟨us,[]⟩=pure (ps.zip us)):u7 K fd ps []:=λs us _ hl=>by
 rw[Fq] at hl ⊢;exact .of_eq (h us hl)
structure FnScope (N P:Aa Au)(sc:Ey):Prop where
 kind:sc.kind=.function
 co:sc.isCoroutine=false
 gen:sc.isGenerator=false
 nd:N.Nodup
 pre:N.take P.length=P
 par:∀ x∈P,sc.names.lookup x=Ab .local \/ sc.names.lookup x=Ab .cell
 nofree:∀ y∈sc.names,y.2≠.free
theorem lB {x:Au}:∀ {binds:Aa (Au × Ac)} {m:Au->Al Ac},(∀ v,(x,v) ∉ binds)->Wf kindOf binds m x=m x
 |[],_,_=>rfl
 |(n,v)::r,m,h=>by
  unfold Wf;rw[lB λw hw=>h w (Cn _ hw)]
  split
  .have:x≠n:=by rintro rfl;exact h v Dl
   simp[this]
  .rfl
theorem l9 {x:Au}:∀ {binds:Aa (Au × Ac)} {m:Au->Al Ac},(∀ v,(x,v) ∉ binds)->Wg kindOf binds m x=m x
 |[],_,_=>rfl
 |(n,v)::r,m,h=>by
  unfold Wg;rw[l9 λw hw=>h w (Cn _ hw)]
  split
  .rfl
  .have:x≠n:=by rintro rfl;exact h v Dl
   simp[this]
theorem lA {x:Au}{v:Ac}:∀ {P:Aa Au} {vs:Aa Ac} {i:Ai} {m:Au->Al Ac},P.Nodup->P[i]? = Ab x->vs[i]? = Ab v->kindOf x=Ab .local ->
  Wf kindOf (P.zip vs) m x=Ab v
 |[],_,_,_,_,h,_,_=>by simp at h
 |_::_,[],_,_,_,_,h,_=>by simp at h
 |p::P,w::vs,0,m,nd,h1,h2,hk=>by
  simp at h1 h2;subst h1;subst h2;show Wf kindOf ((p,w)::P.zip vs) m p=_;unfold Wf;rw[lB λv hv=>(Il.mp nd).1 (Pl hv).1,Bd hk];simp
 |p::P,w::vs,i+1,m,nd,h1,h2,hk=>by
  show Wf kindOf ((p,w)::P.zip vs) m x=_;unfold Wf;exact lA (i:=i) (Il.mp nd).2 (by simpa using h1) (by simpa using h2) hk
theorem l8 {x:Au}{v:Ac}:∀ {P:Aa Au} {vs:Aa Ac} {i:Ai} {m:Au->Al Ac},P.Nodup->P[i]? = Ab x->vs[i]? = Ab v->kindOf x≠Ab .local ->
  Wg kindOf (P.zip vs) m x=Ab v
 |[],_,_,_,_,h,_,_=>by simp at h
 |_::_,[],_,_,_,_,h,_=>by simp at h
 |p::P,w::vs,0,m,nd,h1,h2,hk=>by
  simp at h1 h2;subst h1;subst h2;show Wg kindOf ((p,w)::P.zip vs) m p=_;unfold Wg;rw[l9 λv hv=>(Il.mp nd).1 (Pl hv).1,Bf hk];simp
 |p::P,w::vs,i+1,m,nd,h1,h2,hk=>by
  show Wg kindOf ((p,w)::P.zip vs) m x=_;unfold Wg;exact l8 (i:=i) (Il.mp nd).2 (by simpa using h1) (by simpa using h2) hk
noncomputable def xT (N:Aa Au)(vs:Aa V):St:=vs.map Ab++Aa4 (N.length-vs.length) none
noncomputable def tM (CX:CXT)(P:Bg)(w:Ca)(K:Aj)(mg:Au->Al Ac)(base:Bw)(N:Aa Au)(qual:Au)(scope:Ey)(f:Af)(cd:Ac)(A:Bt)(outer:Aa Kc)(s:Ag)(H:Hp)(E:XK):Cx where
 prog:=P
 w:=w
 K:=K
 mg:=mg
 base:=base
 A:=A.deeper (Hc qual scope s.heap.objs.size f cd)
 N:=N
 s₀:=s
 H₀:=H
 env:=Hc qual scope s.heap.objs.size f cd
 outer:=outer
 stack:=Hc qual scope s.heap.objs.size f cd::outer
 ex:=[]
 calm:=true
 fn:=λ_=>true
 pn:=[]
 xe:=λe s'=>Ap (As P w) (A.deeper (Hc qual scope s.heap.objs.size f cd)) (leaving (Hc qual scope s.heap.objs.size f cd) e) (λ_ s''=>CX outer H s E e s'') (λe' s''=>CX outer H s E e' s'') s'
theorem sR {sc:Ey}{n:Ai}{x:Au}(h:sc.names.lookup x=Ab .cell):∃ c,(Hx n sc.names []).lookup x=Ab c:=by
 have q:=Ky sc.names n [] (.inl h);exact Nb.mp q
theorem lP {CX:CXT}{P:Bg}{w:Ca}{base:Bw}{N:Aa Au}{qual:Au}{f:Af}{cd:Ac}{outer:Aa Kc}{s s1:Ag}{H:Hp}{E:XK}{us:Aa Ac}{vs:Aa V}
  (S:FnScope N ps scope) (hd:A.handled=none) (e0:Env0 P w K mg base A outer s H) (hl:vs.length=ps.length) (r:qJ vs us)
  (x:InCallC s s.heap.objs.size (Wf (Hc qual scope s.heap.objs.size f cd).kindOf (ps.zip us) λ_=>none) (Hx (s.heap.objs.size+1) scope.names []) (Wg (Hc qual scope s.heap.objs.size f cd).kindOf (ps.zip us) λ_=>none) s1) :
  Inv (tM CX P w K mg base N qual scope f cd A outer s H E) [] (xT N vs) H s1:=by
 have hpl:ps.length<=N.length:=by have:=congrArg Fy S.pre;rw[Eu] at this;omega
 obtain⟨h1,tk,rfl,hk⟩:=x.done;have noA:∀ b:Af,b ∉ (tM CX P w K mg base N qual scope f cd A outer s H E).ex:=λb z=>absurd (show b∈([]:Aa Af) from z) (by simp)
 refine⟨⟨e0.mod,S.kind,rfl,rfl,Av _,λy z c h1 h2=>?_,λy hy=>?_,λy c _ h=>?_,λ_=>hd,Vs e0.frames,.inr ⟨rfl,rfl⟩,λb z=>absurd z (noA b),e0.bs,e0.bsz,λb _ _=>noA b,λb z=>absurd z (noA b),e0.funs,e0.frf⟩,
  rfl,e0.bare,Un.kept hk,⟨_,x.toInCall.ns,λi y v h1 h2 h3=>?_⟩,λy c h=>⟨_,x.cell y c h⟩,e0.hok.fresh (Av _),λy c h=>?_,λp hp=>absurd (show p∈([]:Aa (Af × Cu)) from hp) (by simp),e0.hok.kept hk,?_⟩
 .exact name_of_addr x.apart (Gp h1) (Gp h2)
 .have hy:scope.names.lookup y=Ab .cell\/scope.names.lookup y=Ab .free:=hy
  rcases hy with hy|hy
  .exact sR hy
  .exact absurd rfl (S.nofree _ (Gp hy))
 .exact Fi (x.above y c (Gp h))
 .have hi:i<vs.length:=by
   unfold xT at h2;by_cases hi:i<vs.length
   .exact hi
   .rw[Dg (by simpa using hi)] at h2
    rw[Tj] at h2
    split at h2 <;> cases h2
  have ha:vs[i]? = Ab v:=by
   unfold xT at h2;rw[Bl (by simpa using hi),Dy] at h2
   cases e:vs[i]? with
   |none=>rw[e] at h2;cases h2
   |some a=>rw[e] at h2;cases h2;rfl
  obtain⟨u,hu,rv⟩:=r.get ha;have hp:ps[i]? = Ab y:=by
   rw[<- S.pre,Nc om];exact h1
  have ndP:ps.Nodup:=by rw[<- S.pre];exact S.nd.sublist (List.take_sublist _ _)
  refine⟨u,rv,?_⟩;rcases S.par y (Cy hp) with k|k
  .exact .inl ⟨k,lA ndP hp hu k⟩
  .obtain⟨c,e⟩:=sR (n:=s.heap.objs.size+1) k
   refine .inr ⟨.inl k,c,e,?_⟩;have q:=x.cell y c e;rw[l8 ndP hp hu (by show scope.names.lookup y≠_;rw[k];decide)] at q
   exact q
 .exact e0.hok.fresh (Fi (x.above y c (Gp h)))
 .unfold xT
  show _=N.length;rw[Aw,Ak,List.length_replicate];omega
theorem RZ {CX:CXT}{P:Bg}{w:Ca}{base:Bw}{k:Ai}{f:Af}{name qual:Au}{params:Uu}{body:Aa Gd}{dV kV doc pm cdv ct oc:Ac}{an od:Al Af}
  {osl:Ax (Al Ac)} {N ps:Aa Au} {sp:Sp} (lk:K.lookup f=Ab ⟨oc,od,.func (Gu name qual params body scope dV kV doc pm an cdv ct),osl⟩) (hcd:Ma K cdv qual=true) (S:FnScope N ps scope)
  (len:∀ vs H Q E,sp vs H Q E->vs.length=ps.length)
  (hbody:∀ (A:Bt) (outer:Aa Kc) (s:Ag) (H:Hp) (vs:Aa V) (Q:VK) (E:XK),Room k (A.deeper (Hc qual scope s.heap.objs.size f cdv))->sp vs H Q E ->
   ∃ t,PSs (tM CX P w K mg base N qual scope f cdv A outer s H E) body t/\t { nx:=λ_ H'=>Q .non H',rt:=Q } (xT N vs) H) :
  FnOk P w K mg base CX (k+1) f (Gu name qual params body scope dV kV doc pm an cdv ct) ps sp:=by
 refine⟨len,λA outer s H args us vs Q E hr e0 hb r hsp=>?_⟩;have hl:=len _ _ _ _ hsp;have KX:K.In s.heap:=e0.mod.kin.keeps λb o e=>(e0.bs b o e).1;have lim:s.heap.NoLimit:=e0.mod.nolimit.keeps λb o e=>(e0.bs b o e).1;have hkind:∀ y∈ps.zip us,scope.names.lookup y.1=Ab .local \/ (scope.names.lookup y.1=Ab .cell/\((Hx (s.heap.objs.size+1) scope.names []).lookup y.1).isSome=true):=λ⟨n,v⟩ hy=>by
  rcases S.par n (Pl hy).1 with q|q
  .exact .inl q
  .exact .inr ⟨q,Ky _ _ _ (.inl q)⟩
 refine Uv hr.depth (KX _ _ lk) rfl S.co S.gen rfl (Xf KX hcd) (hb _ _ _ _ ?_);refine Qw S.kind hkind λenv he s1 x=>?_;subst he;refine⟨lim.keeps x.toInCall.keep,codeAny_func ?_⟩;obtain⟨t,ht,hq⟩:=hbody A outer s H vs Q E (hr.deeper _) hsp;have I:Inv (tM CX P w K mg base N qual scope f cdv A outer s H E) [] (xT N vs) H s1:=lP S hr.hd e0 hl r x;refine Hq (ht [] s1 (xT N vs) H _ I hq) (λfl s' hs=>?_) λe s' hs=>hs;have fin:∀ {σ' : St} {H':Hp} {v:V} {u:Ac},Inv (tM CX P w K mg base N qual scope f cdv A outer s H E) [] σ' H' s'->qG v u->Q v H'->CE outer P w H s Q u s':=
  λ{σ' H' v u} J rv q=>⟨v,H',J.os,J.bare,J.base,J.hok,rv,q⟩
 cases fl with
 |ret u =>
  obtain⟨v,σ',H',J,rv,q⟩:=hs;exact fin J rv q
 |next =>
  obtain⟨σ',H',J,q⟩:=hs;exact fin (v:=V.non) (u:=Dq) J rfl q
 |brk =>
  obtain⟨_,_,_,q⟩:=hs;exact Aq q
 |cont =>
  obtain⟨_,_,_,q⟩:=hs;exact Aq q
end _L
namespace _H
open PySem PyProof.Rows
variable {Q:Ac->Ag->Prop}{lo hi:Al An}{items:Ax Ac}
noncomputable def lexLt:Aa An->Aa An->Ar
 |[],[]=>false
 |[],_::_=>true
 |_::_,[]=>false
 |x::xs,y::ys=>if x=y then lexLt xs ys else decide (x<y)
theorem lexLt_cons (x y:An)(xs ys:Aa An):lexLt (x::xs) (y::ys)=if x=y then lexLt xs ys else decide (x<y):=rfl
theorem lexLt_nil_nil:lexLt [] []=false:=rfl
theorem lexLt_nil_cons (y:An)(ys:Aa An):lexLt [] (y::ys)=true:=rfl
theorem lexLt_cons_nil (x:An)(xs:Aa An):lexLt (x::xs) [] = false:=rfl
theorem eqAt_int (A:Bt)(s:Ag)(a:An)(t:Ti)(c:An)(u:Ti):∃ e,SeqAt.EqAt A s (.int a t) (.int c u) e/\(e=true↔a=c):=
 ⟨(a == c),SeqAt.EqAt.int_int a t c u,by simp⟩
theorem UI (A:Bt)(s:Ag)(a:An)(t:Ti)(c:An)(u:Ti)(prog:Bg)(w:Ca)(E:Ac->Ag->Prop)(Q:Ac->Ag->Prop)(h:Q (.bool (decide (a<c))) s) :
  Ap (As prog w) A (Qx .Lt (.int a t) (.int c u)) Q E s:=
 (Pv h:Ap (As prog w) A (Cc .Lt (.int a t) (.int c u)) Q E s)
section
open PySem.SeqAt
open PySem.AutoSeq1 (wpAny_loadPart')
open PySem.MeetsSeq PySem.MeetsSeq2 PySem.MeetsSeq3
theorem dH (l b:Af)(items items2:Ax Ac)(n n2:Ai)(dd dd2:Al Af)(sl sl2:Ax (Al Ac))(ns ms:Aa An)(hi:Fw items.toList ns)(hj:Fw items2.toList ms) :
  Meets (Ih.«tuple.__lt__» ⟨[.ref l,.ref b],[]⟩)
   (λ_ R s=>s.heap.get? l=Ab { cls:=.type "tuple",dict:=dd,data:=.seq items n,slots:=sl } /\ s.heap.get? b=Ab { cls:=.type "tuple",dict:=dd2,data:=.seq items2 n2,slots:=sl2 } /\
    R (.ok (.ret (.bool (lexLt ns ms)))) s):=
 .of_wp λprog w A R s h=>by
  obtain⟨hp,g,d,tk,os⟩:=s;obtain⟨hl,hb,h⟩:=h;have f2:=Ke;have z1:items.size=ns.length:=by rw[<- hi.length];simp
  have z2:items2.size=ms.length:=by rw[<- hj.length];simp
  wp_walk using wpAny_loadPart' hl,wpAny_loadPart' hb,IN _ (λrest b s'=>b.1=none/\s'=⟨hp,g,d,tk,os⟩/\∃ (vs ws:Aa Ac) (ns' ms':Aa An),rest=vs.zip ws /\
   Fw vs ns'/\Fw ws ms'/\ns'.length+items2.size=ms'.length+items.size/\R (.ok (.ret (.bool (lexLt ns' ms')))) ⟨hp,g,d,tk,os⟩) _
  case turn =>
   rintro⟨y,x⟩ rest b s' ⟨hb',rfl,vs,ws,ns',ms',hz,hvi,hwi,hlen,hR⟩;cases hvi with
   |nil=>rw[Rp] at hz;cases hz
   |cons a t hvi' =>
    cases hwi with
    |nil=>rw[Qq] at hz;cases hz
    |cons c u hwi' =>
     rw[Gi] at hz;injection hz with hyx hrest
     injection hyx with hy hx
     subst hy hx;rw[lexLt_cons] at hR;simp only[AT] at hlen;obtain⟨e,he,hiff⟩:=eqAt_int A.in1 ⟨hp,g,d,tk,os⟩ a t c u;refine Ad (he prog w _ _ ?_);cases e with
     |true =>
      rw[Bd (hiff.mp rfl)] at hR
      wp_walk
      exact⟨rfl,rfl,_,_,_,_,hrest,hvi',hwi',by omega,hR⟩
     |false =>
      rw[Bf (λq=>absurd (hiff.mpr q) Ic)] at hR;have hri:=UI A.in1 ⟨hp,g,d,tk,os⟩ a t c u prog w
      wp_walk using hri
      exact⟨_,rfl,by simpa using hR⟩
  case fin =>
   rintro⟨b1,b2⟩ s' ⟨hb',rfl,vs,ws,ns',ms',hz,hvi,hwi,hlen,hR⟩;simp only at hb';subst hb';have hv:lexLt ns' ms'=decide (items.size<items2.size):=by
    cases hvi with
    |nil =>
     cases hwi with
     |nil =>
      simp only[Cd] at hlen;rw[lexLt_nil_nil];exact(Dj om).symm
     |cons c u hw =>
      simp only[Cd,AT] at hlen;rw[lexLt_nil_cons];exact(Cp om).symm
    |cons a t hv =>
     cases hwi with
     |nil =>
      simp only[Cd,AT] at hlen;rw[lexLt_cons_nil];exact(Dj om).symm
     |cons c u hw =>
      rw[Gi] at hz;cases hz
   rw[hv] at hR
   wp_walk
   exact⟨_,rfl,by simpa [Hy] using hR⟩
  case h =>
   exact⟨rfl,rfl,items.toList,items2.toList,ns,ms,rfl,hi,hj,by omega,h⟩
end
section
variable {prog:Bg}{w:Ca}{A:Bt}{E:Ac->Ag->Prop}{s:Ag}
theorem lt_tupInts {l b:Af}{items2:Ax Ac}{ns ms:Aa An}(hl:Of s.heap l items)(hb:Of s.heap b items2)(hi:Fw items.toList ns)(hj:Fw items2.toList ms)
  (hu:A.units<Du) (h:Q (.bool (lexLt ns ms)) s):Ap (As prog w) A (Cc .Lt (.ref l) (.ref b)) Q E s:=by
 obtain⟨⟨cls,dd,data,sl⟩,ho,hc,n,hd⟩:=id hl;obtain⟨⟨cls2,dd2,data2,sl2⟩,ho2,hc2,n2,hd2⟩:=id hb;simp only at hc hd hc2 hd2;subst hc hd hc2 hd2;exact Kz (op:=.Lt) ⟨_,ho,rfl⟩ ⟨_,ho2,rfl⟩ Uw T0 (Tk _ _) (dH l b items items2 n n2 dd dd2 sl sl2 ns ms hi hj)
  ⟨ho,ho2,show Ig (lexLt ns ms)≠Mb/\Q (.bool (lexLt ns ms)) s from⟨(λx=>nomatch x),h⟩⟩ hu
theorem cat_tup {t b:Af}{vs ws:Aa Ac}(ht:Of s.heap t vs.toArray)(hb:Of s.heap b ws.toArray)(hv:vs≠[])
  (h1:ws=[]->Q (.ref t) s) (h2:ws≠[]->Q (.ref s.heap.objs.size) { s with heap:=s.heap.push { cls:=.type "tuple",data:=.seq (vs++ws).toArray } })
  (hsz:vs.length+ws.length<=sizeLine):Ap (As prog w) A (Fm .Add (.ref t) (.ref b)) Q E s:=by
 obtain⟨⟨cls,dd,data,sl⟩,ho,hc,n,hd⟩:=id ht;obtain⟨⟨cls2,dd2,data2,sl2⟩,ho2,hc2,n2,hd2⟩:=id hb;simp only at hc hd hc2 hd2;subst hc hd hc2 hd2;have e:vs.toArray++ws.toArray=(vs++ws).toArray:=by simp
 by_cases hw:ws=[]
 .exact Xv ⟨_,ho,rfl⟩ ⟨_,ho2,rfl⟩ On Rq Hr He (Gy _ _)
   (tuple_addW1 t b vs.toArray ws.toArray n n2 dd dd2 sl sl2 (by simpa using hv) (by simp[hw])) ⟨ho,ho2,h1 hw⟩
 .refine Xv ⟨_,ho,rfl⟩ ⟨_,ho2,rfl⟩ On Rq Hr He (Gy _ _)
   (tuple_addW2 t b vs.toArray ws.toArray n n2 dd dd2 sl sl2 (by simpa using hv) (by simpa using hw) (by rw[Bj,Bj];exact hsz)) ⟨ho,ho2,?_⟩
  rw[e];exact h2 hw
noncomputable def sIx (n d:Ai):Al An->Ai
 |none=>d
 |some v=>if v<0 then (v+(n:An)).toNat else min v.toNat n
theorem sIx_none (n d:Ai):sIx n d none=d:=rfl
theorem sIx_nat (n d k:Ai):sIx n d (Ab (k:An))=min k n:=by
 show (if (k:An)<0 then ((k:An)+(n:An)).toNat else min (k:An).toNat n)=min k n
 rw[Bf om,Gq]
theorem SS (n d:Ai)(hd:d<=n)(o:Al An):sIx n d o<=n:=by
 cases o with
 |none=>exact hd
 |some v =>
  show (if v<0 then (v+(n:An)).toNat else min v.toNat n)<=n
  by_cases hv:v<0
  .rw[Bd hv];omega
  .rw[Bf hv];exact Nat.min_le_right _ _
theorem cE (v:An)(n d:Ai):(if v<0 then max (v+(n:An)) 0 else min v (n:An))=((sIx n d (Ab v):Ai):An):=by
 show (if v<0 then max (v+(n:An)) 0 else min v (n:An))=(((if v<0 then (v+(n:An)).toNat else min v.toNat n):Ai):An)
 by_cases hv:v<0
 .simp only[Bd hv];omega
 .simp only[Bf hv];omega
theorem iG (lo hi:Al An)(n:Ai):Ml lo hi 1 (n:An)=(((sIx n 0 lo:Ai):An),((sIx n n hi:Ai):An)):=by
 have h1:¬ ((1:An)<0):=by omega
 unfold Ml;simp only[h1,Ef];refine WP ?_ ?_
 .cases lo with
  |none=>rfl
  |some v=>exact cE v n 0
 .cases hi with
  |none=>rfl
  |some v=>exact cE v n n
theorem oO (i j:Ai):Jv (i:An) (j:An) 1=j-i:=by
 unfold Jv;have h1:(1:An)>0:=by omega
 simp only[h1,Ds,Int.ediv_one]
 split <;> omega
theorem tF {v:Ac}{o:Al An}{Q:Al An->Ag->Prop}(p:Qy v o)(h:Q o s):Ap (As prog w) A (wT v) Q E s:=by
 cases p with
 |none=>exact slicePart_none h
 |int i t=>exact slicePart_int h
theorem jF {sl:Af}{vl vu:Ac}{n:Ai}{Q:An × An × Ai->Ag->Prop}(hs:s.heap.IsSliceOf sl vl vu .none)(pl:Qy vl lo)(pu:Qy vu hi)
  (h:Q (((sIx n 0 lo:Ai):An),1,sIx n n hi-sIx n 0 lo) s):Ap (As prog w) A (Qz (.ref sl) (pure (n:An))) Q E s:=by
 obtain⟨os,hos,hcs,hds⟩:=id hs;unfold Qz Builtin.Slice.sliceFields;refine Ad (Ad (El hos hds (x:=vl) rfl (Ad (El hos hds (x:=vu) rfl (Ad (El hos hds (x:=.none) rfl (Am ?_)))))));refine Ad (slicePart_none ?_);show Ap _ _ (if ((1:An) == 0)=true then _ else _) _ _ s
 rw[Bf (by decide)]
 refine Ad (tF pl (Ad (tF pu (Ad (Am ?_)))));show Ap _ _ (match Ml lo hi 1 (n:An) with|(lo,hi)=>pure (lo,(1:An),Jv lo hi 1)) _ _ s
 rw[iG lo hi n];show Ap _ _ (pure (((sIx n 0 lo:Ai):An),(1:An),Jv ((sIx n 0 lo:Ai):An) ((sIx n n hi:Ai):An) 1)) _ _ s;rw[oO];exact Am h
theorem VX (xs:Ax Ac)(i k:Ai):((Cz k).filterMap λ(m:Ai)=>xs[((i:An)+(m:An)*1).toNat]?).toArray=((xs.toList.drop i).take k).toArray:=by
 have e:(λ(m:Ai)=>xs[((i:An)+(m:An)*1).toNat]?)=λm=>xs[i+m]?:=by
  funext m
  have:((i:An)+(m:An)*1).toNat=i+m:=by omega
  rw[this]
 rw[e];have:=pick_run xs i k;rw[List.filterMap_map] at this;have e2:((λx=>xs[x]?)∘λx=>i+x)=λm=>xs[i+m]?:=rfl;rw[e2] at this;rw[this]
theorem getItem_tuple_cut {t sl:Af}{vl vu:Ac}(ht:Of s.heap t items)(hs:s.heap.IsSliceOf sl vl vu .none)(pl:Qy vl lo)(pu:Qy vu hi)
  (hw:¬ (sIx items.size 0 lo=0/\sIx items.size items.size hi=items.size))
  (h:Q (.ref s.heap.objs.size) { s with heap:=s.heap.push { cls:=.type "tuple",data:=.seq ((items.toList.drop (sIx items.size 0 lo)).take (sIx items.size items.size hi-sIx items.size 0 lo)).toArray } })
  (hsz:items.size<=sizeLine):Ap (As prog w) A (Nk (.ref t) (.ref sl)) Q E s:=by
 have htake:sizeOk (.seq ((items.toList.drop (sIx items.size 0 lo)).take (sIx items.size items.size hi-sIx items.size 0 lo)).toArray):=by
  show ((items.toList.drop (sIx items.size 0 lo)).take (sIx items.size items.size hi-sIx items.size 0 lo)).toArray.size<=sizeLine;rw[Bj,Eu,Kj,Bm];omega
 have hj:sIx items.size items.size hi<=items.size:=SS _ _ (Av _) hi;obtain⟨os,hos,hcs,hds⟩:=id hs;have hTs:s.TypeIs (.ref sl) "slice":=⟨os,hos,hcs⟩;unfold Nk
 try with_reducible refine Ej ?_
 first|refine Ad (Am ?_)|skip
 refine Ad (Yl ht.typeIs (by decide) ?_)
 refine Ad (Eg (name:=Gg "__getitem__") ht.typeIs Fg
  (Em Fg ht.typeIs Wh ?_ (Xg _ _)))
 show Ap _ _ (Ra (.ref t) >>= _) _ _ s;refine Ad (tupleItemsOf_ ht ?_);refine Ad (Nl hTs ?_);rw[Bd (by decide)]
 refine Ad (jF hs pl pu ?_);have hno:¬ ((((sIx items.size 0 lo:Ai):An) == 0&&(1:An) == 1&&(sIx items.size items.size hi-sIx items.size 0 lo) == items.size)=true):=by
  intro q;rw[Bq,Bq] at q;have q1:((sIx items.size 0 lo:Ai):An)=0:=eq_of_beq q.1.1;have q2:sIx items.size items.size hi-sIx items.size 0 lo=items.size:=eq_of_beq q.2;exact hw ⟨by omega,by omega⟩
 show Ap _ _ (if (((sIx items.size 0 lo:Ai):An) == 0&&(1:An) == 1&&(sIx items.size items.size hi-sIx items.size 0 lo) == items.size)=true then _ else _) _ _ s
 rw[Bf hno,VX]
 first
  |exact Ad (m:=Kg _) (Ee (Am ⟨_,rfl,Am h⟩) htake)
  |exact Ad (m:=Kg _) (Ee (Ad (Am (Am ⟨_,rfl,Am h⟩))) htake)
  |exact Ad (Ad (m:=Kg _) (Ee (Am (Am ⟨_,rfl,Am h⟩)) htake))
  |exact Ad (Ad (m:=Kg _) (Ee (Am ⟨_,rfl,Am h⟩) htake))
end
end _H
namespace _L
open PySem PySem.Spec PyProof.Rows
abbrev TO:=St->Hp->(Al An->Hp->Prop)->Prop
def PO (X:Cx)(e:Al By)(t:TO):Prop:=
 ∀ (pins:Aa (Af × Cu)) (s:Ag) (σ : St) (H:Hp) (Q:Al An->Hp->Prop),Inv X pins σ H s->t σ H Q ->
  Ap (As X.prog X.w) X.A (evalPart e X.env) (λu s'=>∃ o H',Inv X pins σ H' s'/\Qy u o/\Q o H') X.xe s
def FC:TO:=λ_ H Q=>Q none H
def HX (t:TE):TO:=λσ H Q=>t σ H λx H1=>∃ i,x=.int i/\Q (Ab i) H1
theorem gJ {ns:Aa An}:∀ {us:Aa Ac},qJ (ns.map V.int) us->Fw us ns:=by
 induction ns with
 |nil=>intro us r;rw[Xw] at r;cases r;exact .nil
 |cons n ns ih =>
  intro us r;rw[De] at r;cases r with
  |cons r1 r2 =>
   obtain⟨t,e⟩:=r1;subst e;exact .cons n t (ih r2)
section
variable {X:Cx}{e:By}{te:TE}{lo hi:Al By}{tl th:TO}{pos p2:Fc}
theorem B7:PO X none FC:=by
 intro pins s σ H Q I h;rw[evalPart_none];exact Am ⟨none,H,I,.none,h⟩
theorem B8 (h:PE X e te):PO X (Ab e) (HX te):=by
 intro pins s σ H Q I hw;rw[evalPart_some];refine thn (h pins s σ H _ I hw) λu s1 ⟨x,H1,I1,r1,q1⟩=>?_;obtain⟨i,rfl,q⟩:=q1;obtain⟨t,rfl⟩:=r1;exact⟨Ab i,H1,I1,.int i t,q⟩
def SlR (X:Cx)(r:V->Al An->Al An->Hp->VK->Prop):Prop:=
 ∀ (pins:Aa (Af × Cu)) (s:Ag) (σ : St) (H:Hp) (x:V) (v vl vu:Ac) (lo hi:Al An) (sl:Af) (Q:VK),Inv X pins σ H s->qG x v->s.heap.IsSliceOf sl vl vu .none->Qy vl lo->Qy vu hi->r x lo hi H Q ->
  ∃ T id,Wi (.type T) "__getitem__" = pure (Ab (.builtin id))/\s.TypeIs v T/\Ap (As X.prog X.w) X.A (Nk v (.ref sl)) (EP X pins σ Q) X.xe s
theorem SlR.or {r r':V->Al An->Al An->Hp->VK->Prop}(h:SlR X r)(h':SlR X r'):SlR X (λx lo hi H Q=>r x lo hi H Q\/r' x lo hi H Q):=by
 intro pins s σ H x v vl vu lo hi sl Q I rx hs pl pu q;rcases q with q|q
 .exact h pins s σ H x v vl vu lo hi sl Q I rx hs pl pu q
 .exact h' pins s σ H x v vl vu lo hi sl Q I rx hs pl pu q
def tSl (r:V->Al An->Al An->Hp->VK->Prop)(te:TE)(tl th:TO):TE:=λσ H Q=>te σ H λx H1=>tl σ H1 λl H2=>th σ H2 λu H3=>r x l u H3 Q
theorem VV {r:V->Al An->Al An->Hp->VK->Prop}(hr:SlR X r)(he:PE X e te)(hl:PO X lo tl)(hu:PO X hi th):PE X (.Subscript e (.Slice lo hi none p2) pos) (tSl r te tl th):=by
 intro pins s σ H Q I h;refine xL (thn (he pins s σ H _ I h) λv s1 ⟨x,H1,I1,r1,q1⟩=>?_);refine wpAny_Slice (thn (hl pins s1 σ H1 _ I1 q1) λvl s2 ⟨l,H2,I2,pl,q2⟩=>thn (hu pins s2 σ H2 _ I2 q2) λvu s3 ⟨u,H3,I3,pu,q3⟩=>?_);rw[evalPart_none];refine Am ?_;have I4:Inv X pins σ H3 { s3 with heap:=s3.heap.push { cls:=.type "slice",data:=.fields #[vl,vu,.none] } }:=I3.kept (t':=s3.toks) λb ob q=>Ah _ q
 obtain⟨T,id,hT,ht,hg⟩:=hr pins { s3 with heap:=s3.heap.push { cls:=.type "slice",data:=.fields #[vl,vu,.none] } } σ H3 x v vl vu l u s3.heap.objs.size Q I4 r1 (AaM ..) pl pu q3
 show Ap (As X.prog X.w) X.A (Rr e (.Slice lo hi none p2) v (.ref s3.heap.objs.size)) (EP X pins σ Q) X.xe { s3 with heap:=s3.heap.push { cls:=.type "slice",data:=.fields #[vl,vu,.none] } }
 exact tail_any (ops:=[.ref s3.heap.objs.size,v]) ht hT hg (by with_unfolding_all rfl)
noncomputable def pP (xs:Aa V)(lo hi:Al An):Aa V:=(xs.drop (_H.sIx xs.length 0 lo)).take (_H.sIx xs.length xs.length hi-_H.sIx xs.length 0 lo)
theorem f9 (xs:Aa V)(lo hi:Al An):(pP xs lo hi).length<=xs.length:=by
 unfold pP;rw[Eu,Kj];omega
def I8 (K:Aj):V->Al An->Al An->Hp->VK->Prop:=λx lo hi H Q=>∃ a xs,x=.ref a/\SqT K H a xs /\
 ¬ (_H.sIx xs.length 0 lo=0/\_H.sIx xs.length xs.length hi=xs.length)/\∀ p,H p=none->Q (.ref p) (upd H p (.tup (pP xs lo hi)))
theorem SW:SlR X (I8 X.K):=by
 intro pins s σ H x v vl vu lo hi sl Q I rx hs pl pu h;obtain⟨a,xs,rfl,hx,hw,q⟩:=h;cases rx;obtain⟨its,r,ht,hz⟩:=I.tuple hx;have hlen:its.toArray.size=xs.length:=by rw[Bj];exact r.length.symm
 refine⟨"tuple",_,Fg.lookup,ht.typeIs,?_⟩;refine _H.getItem_tuple_cut ht hs pl pu (by rw[hlen];exact hw) ?_ (by rw[hlen];exact hz)
 rw[hlen];refine⟨.ref s.heap.objs.size,_,I.laid (t':=s.toks) (o:=.tup (pP xs lo hi)) (λb ob q=>Ah _ q) (Av _) ?_,rfl,q _ (I.hok.fresh (Av _))⟩;exact⟨Df (f9 xs lo hi) hz,_,(r.drop (_H.sIx xs.length 0 lo)).take (_H.sIx xs.length xs.length hi-_H.sIx xs.length 0 lo),Yi _ _⟩
end
end _L
namespace _L
open PySem PySem.Spec PyProof.Rows
variable {pins:Aa (Af × Cu)}{s:Ag}{H:Hp}{σ:St}
noncomputable def ixN (n:Ai)(i:An):Al Ai:=if 0<=i then (if i<n then Ab i.toNat else none) else if -(n:An)<=i then Ab (i+n).toNat else none
noncomputable def atI {α:Type}(xs:Aa α)(i:An):Al α:=(ixN xs.length i).bind λj=>xs[j]?
theorem cS {n:Ai}{i:An}{j:Ai}(h:ixN n i=Ab j):seqIndex? i n=Ab j/\j<n /\ -(n:An)<=i/\i<n:=by
 unfold ixN at h;by_cases h0:0<=i
 .rw[Bd h0] at h
  by_cases h1:i<n
  .rw[Bd h1] at h
   have e:i.toNat=j:=Dd h;exact⟨by rw[Zi h0 h1,e],by omega,by omega,h1⟩
  .rw[Bf h1] at h;cases h
 .rw[Bf h0] at h
  by_cases h1 : -(n:An)<=i
  .rw[Bd h1] at h
   have e:(i+n).toNat=j:=Dd h;exact⟨by rw[seqIndex_neg om h1,e],by omega,h1,by omega⟩
  .rw[Bf h1] at h;cases h
theorem cA {α:Type}{xs:Aa α}{i:An}{v:α}(h:atI xs i=Ab v):∃ j,seqIndex? i xs.length=Ab j/\xs[j]? = Ab v/\j<xs.length /\ -(xs.length:An)<=i/\i<xs.length:=by
 unfold atI at h;cases e:ixN xs.length i with
 |none=>rw[e] at h;cases h
 |some j =>
  rw[e] at h;obtain⟨h1,h2,h3,h4⟩:=cS e;exact⟨j,h1,h,h2,h3,h4⟩
theorem K7 {α:Type}{xs:Aa α}{j:Ai}{v:α}(h:xs[j]? = Ab v):atI xs (j:An)=Ab v:=by
 have hj:j<xs.length:=(Bi.mp h).1;have e:ixN xs.length (j:An)=Ab j:=by
  unfold ixN;rw[Bd om,Bd om];simp
 unfold atI;rw[e];exact h
def tI (b:By):Prop:=∀ o i,subscripted b false o i=operate [o,i] (Nk o i)
def IxR (X:Cx)(r:R2):Prop:=
 ∀ (value slice:By) (pins:Aa (Af × Cu)) (s:Ag) (σ : St) (H:Hp) (x y:V) (v u:Ac) (Q:VK),Inv X pins σ H s->qG x v->qG y u->r x y H Q ->
  subscripted slice false v u=operate [v,u] (Nk v u)->Ap (As X.prog X.w) X.A (Rr value slice v u) (EP X pins σ Q) X.xe s
def MtR (X:Cx)(id:Ek)(r:V->Aa V->Hp->VK->Prop):Prop:=
 ∀ (pins:Aa (Af × Cu)) (s:Ag) (σ : St) (H:Hp) (x:V) (xs:Aa V) (v:Ac) (us:Aa Ac) (Q:VK),Inv X pins σ H s->qG x v->qJ xs us->r x xs H Q ->
  Ap (As X.prog X.w) X.A (call (.builtin id) (v::us)) (EP X pins σ Q) X.xe s
section
variable {X:Cx}{a b:By}{ta tb:TE}{pos:Fc}
theorem IxR.or {r r':R2}(h:IxR X r)(h':IxR X r'):IxR X (λx y H Q=>r x y H Q\/r' x y H Q):=by
 intro value slice pins s σ H x y v u Q I rx ry q hs;rcases q with q|q
 .exact h value slice pins s σ H x y v u Q I rx ry q hs
 .exact h' value slice pins s σ H x y v u Q I rx ry q hs
theorem MtR.or {id:Ek}{r r':V->Aa V->Hp->VK->Prop}(h:MtR X id r)(h':MtR X id r'):MtR X id (λx xs H Q=>r x xs H Q\/r' x xs H Q):=by
 intro pins s σ H x xs v us Q I rx rs q;rcases q with q|q
 .exact h pins s σ H x xs v us Q I rx rs q
 .exact h' pins s σ H x xs v us Q I rx rs q
theorem H0 {r:R2}(hr:IxR X r)(ha:PE X a ta)(hb:PE X b tb)(hs:tI b):PE X (.Subscript a b pos) (tOp r ta tb):=by
 intro pins s σ H Q I h;exact xL (A6 ha hb I h λv u s2 x y H2 I2 rx ry q=>hr a b pins s2 σ H2 x y v u Q I2 rx ry q (hs _ _))
def AW (K:Aj):R2:=λx y H Q=>∃ p xs i v,x=.ref p/\y=.int i/\SqL K H p xs/\atI xs i=Ab v/\Q v H
def AX (K:Aj):R2:=λx y H Q=>∃ p xs i v,x=.ref p/\y=.int i/\SqT K H p xs/\atI xs i=Ab v/\Q v H
theorem cT:IxR X (AW X.K):=by
 intro value slice pins s σ H x y v u Q I rx ry h hs;obtain⟨p,xs,i,z,rfl,rfl,hq,he,q⟩:=h;cases rx;obtain⟨t,rfl⟩:=ry;obtain⟨its,r,pl,hz⟩:=I.list hq;obtain⟨j,h1,h2,h3,h4,h5⟩:=cA he;obtain⟨w,ew,rw'⟩:=r.get h2;have hl:=r.length;have hn:=pY;have fin:EP X pins σ Q w s:=⟨z,H,I,rw',q⟩;by_cases h0:0<=i
 .have hj:i.toNat=j:=by
   rw[Zi h0 h5] at h1;exact Dd h1
  exact item_listR pl.isList h0 om (by rw[hj];simpa using ew) fin hs
 .have hj:(i+(its.toArray.size:An)).toNat=j:=by
   rw[seqIndex_neg om h4] at h1;rw[Bj,<- hl];exact Dd h1
  exact TD (x:=w) pl.isList.typeIs Ym.lookup
   (wpAny_getItem_list_neg (Q:=λr s'=>r=w/\EP X pins σ Q r s') pl.isList om (by rw[Bj] <;> omega) om (by rw[hj];simpa using ew) ⟨rfl,fin⟩) hs
theorem NC:IxR X (AX X.K):=by
 intro value slice pins s σ H x y v u Q I rx ry h hs;obtain⟨p,xs,i,z,rfl,rfl,hq,he,q⟩:=h;cases rx;obtain⟨t,rfl⟩:=ry;obtain⟨its,r,pl,hz⟩:=I.tuple hq;obtain⟨j,h1,h2,h3,h4,h5⟩:=cA he;obtain⟨w,ew,rw'⟩:=r.get h2;have hl:=r.length;have hn:=pY;have fin:EP X pins σ Q w s:=⟨z,H,I,rw',q⟩;exact TD (x:=w) pl.typeIs slot_tuple_getitem.lookup
  (getItem_tuple (j:=j) (Q:=λr s'=>r=w/\EP X pins σ Q r s') pl om om (by rw[Bj,<- hl];exact h1) (by simpa using ew) ⟨rfl,fin⟩) hs
theorem oC (its:Aa Ac)(n j:Ai)(u:Ac):Ew (·.setIfInBounds j u) { cls:=.type "list",data:=.seq its.toArray n } = { cls:=.type "list",data:=.seq (its.set j u).toArray n }:=by
 simp[Ew]
theorem Inv.lst {p:Af}{xs:Aa V}(I:Inv X pins σ H s)(h:H p=Ab (.lst xs)) :
  ∃ (its:Aa Ac) (n:Ai),qJ xs its/\s.heap.get? p=Ab { cls:=.type "list",data:=.seq its.toArray n } /\ xs.length<=sizeLine:=by
 obtain⟨z,its,n,r,e⟩:=I.hok p _ h;exact⟨its,n,r,e,z⟩
theorem Inv.lstUpd {p:Af}{xs ys:Aa V}{its its':Aa Ac}{n n':Ai}{f:Cu->Cu}(I:Inv X pins σ H s)(h:H p=Ab (.lst xs))
  (ho:s.heap.get? p=Ab { cls:=.type "list",data:=.seq its.toArray n }) (hf:f { cls:=.type "list",data:=.seq its.toArray n } = { cls:=.type "list",data:=.seq its'.toArray n' }) (r:qJ ys its') (hz:ys.length<=sizeLine) (t:Ai) :
  Inv X pins σ (upd H p (.lst ys)) { s with heap:=s.heap.update p f,toks:=t }:=by
 have e:(s.heap.update p f).get? p=Ab { cls:=.type "list",data:=.seq its'.toArray n' }:=by
  rw[Es f ho (by rw[hf] <;> rfl),hf]
 refine I.write (x:=p) (e:=p) (by rw[h];trivial) (.inl rfl) (λb u hb q=>(Cj _ _ (Fb hb)).trans q) ⟨_,e⟩ ?_
 exact⟨hz,its',n',r,e⟩
def HH:V->V->V->Hp->(Hp->Prop)->Prop:=λo i v H Q=>∃ p xs k j,o=.ref p/\i=.int k/\H p=Ab (.lst xs)/\ixN xs.length k=Ab j/\Q (upd H p (.lst (xs.set j v)))
theorem UO:sI X HH:=by
 intro pins s σ H o i v ov iv u Q I ro ri rv h;obtain⟨p,xs,k,j,rfl,rfl,hp,hj,q⟩:=h;cases ro;obtain⟨t,rfl⟩:=ri;obtain⟨its,n,r,ho,hz⟩:=I.lst hp;obtain⟨h1,h2,h3,h4⟩:=cS hj;have hl:=r.length;have hn:=pY;have I':Inv X pins σ (upd H p (.lst (xs.set j v))) { s with heap:=s.heap.update p (Ew (·.setIfInBounds j u)) }:=
  I.lstUpd hp ho (oC its n j u) (r.set rv j) (by rw[List.length_set];exact hz) s.toks
 by_cases h0:0<=k
 .have hk:k.toNat=j:=by
   rw[Zi h0 h4] at h1;exact Dd h1
  exact PySem.W.ki_setAt ho h0 om (by rw[Bj,<- hl];exact h4) (by rw[hk];exact⟨_,I',q⟩)
 .have hk:(k+(its.toArray.size:An)).toNat=j:=by
   rw[seqIndex_neg om h3] at h1;rw[Bj,<- hl];exact Dd h1
  exact PySem.W.ki_setBack ho om (by rw[Bj,<- hl];exact h3) om (by rw[hk];exact⟨_,I',q⟩)
theorem eI (lo hi:Al An)(n:Ai):(Ms lo hi none n).1=((_H.sIx n 0 lo:Ai):An)/\(Ms lo hi none n).2.1=((_H.sIx n n hi:Ai):An)/\(Ms lo hi none n).2.2=1:=by
 refine⟨?_,?_,rfl⟩
 .cases lo with
  |none=>simp[Ms,_H.sIx]
  |some i =>
   simp only[Ms,_H.sIx,Zj,show (1:An)>0 by decide,Ds]
   by_cases h:i<0
   .simp only[h,Ds] <;> omega
   .simp only[h,Ef] <;> omega
 .cases hi with
  |none=>simp[Ms,_H.sIx]
  |some i =>
   simp only[Ms,_H.sIx,Zj,show (1:An)>0 by decide,Ds]
   by_cases h:i<0
   .simp only[h,Ds] <;> omega
   .simp only[h,Ef] <;> omega
theorem dE (its:Aa Ac)(lo hi:Al An):slicePick its.toArray lo hi none=((its.drop (_H.sIx its.length 0 lo)).take (_H.sIx its.length its.length hi-_H.sIx its.length 0 lo)).toArray:=by
 obtain⟨h1,h2,h3⟩:=eI lo hi its.toArray.size;unfold slicePick;rw[h1,h2,h3];simp only[sliceRange_one,pick_run,Bj] <;> rfl
def AZ (K:Aj):V->Al An->Al An->Hp->VK->Prop:=λx lo hi H Q=>∃ a xs,x=.ref a/\SqL K H a xs/\∀ p,H p=none->Q (.ref p) (upd H p (.lst (pP xs lo hi)))
theorem aU:SlR X (AZ X.K):=by
 intro pins s σ H x v vl vu lo hi sl Q I rx hs pl pu h;obtain⟨a,xs,rfl,hx,q⟩:=h;cases rx;obtain⟨its,r,ht,hz⟩:=I.list hx;have hlen:=r.length;refine⟨"list",_,Ym.lookup,ht.isList.typeIs,?_⟩;refine wpAny_getItem_list_slice ht.isList hs pl pu .none (by simp) ?_ (by rw[Bj] <;> omega)
 rw[dE,<- hlen];refine⟨.ref s.heap.objs.size,_,I.laid (t':=s.toks) (o:=.lst (pP xs lo hi)) (λb ob q=>Ah _ q) (Av _) ?_,rfl,q _ (I.hok.fresh (Av _))⟩;exact⟨Df (f9 xs lo hi) hz,_,0,(r.drop (_H.sIx xs.length 0 lo)).take (_H.sIx xs.length xs.length hi-_H.sIx xs.length 0 lo),Ay _ rfl⟩
theorem kU.or {f:Ac}{r r':Aa V->Hp->VK->Prop}(h:kU X f r)(h':kU X f r'):kU X f (λxs H Q=>r xs H Q\/r' xs H Q):=by
 intro pins s σ H xs us Q I rs q;rcases q with q|q
 .exact h pins s σ H xs us Q I rs q
 .exact h' pins s σ H xs us Q I rs q
theorem pH:kU X (.type "tuple") (λxs H Q=>∃ p ys,xs=[.ref p]/\((SqL X.K H p ys/\∀ l,H l=none->Q (.ref l) (upd H l (.tup ys)))\/(SqT X.K H p ys/\Q (.ref p) H))):=by
 intro pins s σ H xs us Q I r h;obtain⟨p,ys,rfl,h⟩:=h;obtain⟨u,rfl,rx⟩:=p8 r;cases rx;rcases h with⟨hq,q⟩|⟨hq,q⟩
 .obtain⟨its,r',pl,hz⟩:=I.list hq
  have hlen:=r'.length;refine call_tuple_list pl.isList (λh' kp=>?_) (by simp only[Bj] <;> omega)
  have I1:Inv X pins σ H { s with heap:=h' }:=I.kept (t':=s.toks) kp
  have I2:Inv X pins σ (upd H h'.objs.size (.tup ys)) { s with heap:=h'.push { cls:=.type "tuple",data:=.seq its.toArray } }:=
   I1.laid (t':=s.toks) (λb o e=>Ah _ e) (Av _) (show zL X.prog X.w _ _ _ (.tup ys) from⟨hz,its,r',Yi _ _⟩)
  exact⟨.ref h'.objs.size,_,I2,rfl,q _ (I1.hok.fresh (Av _))⟩
 .obtain⟨its,r',pl,hz⟩:=I.tuple hq
  exact call_tuple_same pl ⟨.ref p,H,I,rfl,q⟩
def tyV (K:Aj)(T:Ek)(x:V)(H:Hp):Prop:=match x with
 |.str _=>T = "str"
 |.int _=>T = "int"
 |.ref p=>(T = "list" /\ ∃ xs,SqL K H p xs)\/(T = "tuple" /\ ∃ o,K.lookup p=Ab o/\o.cls=.type "tuple" /\ o.dict=none) \/
   (T = "dict" /\ ((∃ kvs,H p=Ab (.dK kvs))\/∃ kvs,H p=Ab (.dT kvs)))\/(T = "set" /\ ∃ S n,H p=Ab (.set S n))
 |_=>Fv
theorem eO {T:Ek}{x:V}{v:Ac}(I:Inv X pins σ H s)(r:qG x v)(ty:tyV X.K T x H) :
  s.TypeIs v T/\∀ a,v=.ref a->∃ ob,s.heap.get? a=Ab ob/\ob.dict=none:=by
 cases x with
 |str z =>
  obtain⟨t,rfl⟩:=r;cases (show T = "str" from ty)
  exact⟨typeIs_str s z t,λ_ e=>nomatch e⟩
 |int i =>
  obtain⟨t,rfl⟩:=r;cases (show T = "int" from ty)
  exact⟨typeIs_int s i t,λ_ e=>nomatch e⟩
 |ref p =>
  cases r;rcases ty with⟨rfl,xs,hq⟩|⟨rfl,o,hk,hc,hd⟩|⟨rfl,hk⟩|⟨rfl,S,n,hk⟩
  .obtain⟨its,_,pl,_⟩:=I.list hq
   refine⟨pl.isList.typeIs,λa e=>?_⟩;cases e;obtain⟨o,n,e,c,hd,_⟩:=pl;exact⟨o,e,hd⟩
  .refine⟨⟨o,I.kIn p o hk,hc⟩,λa e=>?_⟩
   cases e;exact⟨o,I.kIn _ o hk,hd⟩
  .have z:∃ o,s.heap.get? p=Ab o/\o.ExactDict:=by
    rcases hk with⟨kvs,hk⟩|⟨kvs,hk⟩
    .obtain⟨_,_,_,_,o,_,_,e,ex,_⟩:=I.hok p _ hk
     exact⟨o,e,ex⟩
    .obtain⟨_,_,_,_,o,_,_,e,ex,_⟩:=I.hok p _ hk
     exact⟨o,e,ex⟩
   obtain⟨o,e,ex⟩:=z;refine⟨⟨o,e,ex.1⟩,λa e2=>?_⟩;cases e2;exact⟨o,e,ex.2.1⟩
  .obtain⟨o,_,_,_,e,ex,_⟩:=I.hok p _ hk
   refine⟨⟨o,e,ex.1⟩,λa e2=>?_⟩;cases e2;exact⟨o,e,ex.2.1⟩
 |_=>exact Aq ty
variable {o e:By}{es:Aa By}{to:TE}{t:TA}{name:Au}{apos cpos:Fc}{T id:Ek}{r:V->Aa V->Hp->VK->Prop}
/- xs.append(e),list.index on a module's tuple .. are MtR facts of 06m -/
end
end _L
namespace _L
open PySem PySem.Spec PyProof.Rows
def MtM (X:Cx)(id:Ek)(r:V->Aa V->Hp->VK->Prop):Prop:=
 ∀ (pins:Aa (Af × Cu)) (s:Ag) (σ : St) (H:Hp) (x:V) (xs:Aa V) (v:Ac) (us:Aa Ac) (Q:VK),Inv X pins σ H s->qG x v->qJ xs us->r x xs H Q ->
  Ap (As X.prog X.w) X.A (call (.builtin id) (v::us)) (EP X pins σ Q) X.xe s
theorem qJ.one {x:V}{us:Aa Ac}(h:qJ [x] us):∃ u,us=[u]/\qG x u:=p8 h
theorem qJ.two {x y:V}{us:Aa Ac}(h:qJ [x,y] us):∃ u v,us=[u,v]/\qG x u/\qG y v:=Q4 h
section
variable {X:Cx}{pins:Aa (Af × Cu)}{σ : St}{H:Hp}{s:Ag}{l b:Af}{xs ys zs:Aa V}
theorem Inv.lset {its its':Aa Ac}{n:Ai}{f:Ax Ac->Ax Ac}{t':Ai}(I:Inv X pins σ H s)(hH:H l=Ab (.lst xs))
  (e:s.heap.get? l=Ab { cls:=.type "list",data:=.seq its.toArray n }) (hf:f its.toArray=its'.toArray) (hv:qJ ys its') (hz:ys.length<=sizeLine) :
  Inv X pins σ (upd H l (.lst ys)) { s with heap:=s.heap.update l (Ew f),toks:=t' }:=by
 have q:=Zk e f;rw[hf] at q;refine I.write (x:=l) (e:=l) (by rw[hH];exact trivial) (.inl rfl) (λb' u hb hu=>(Cj s.heap (Ew f) (Fb hb)).trans hu) ⟨_,q⟩ ?_
 exact⟨hz,its',_,hv,q⟩
theorem Inv.lstM (I:Inv X pins σ H s)(hH:H l=Ab (.lst xs)):xs.length<=sizeLine/\∃ (its:Aa Ac) (n:Ai),qJ xs its/\xs.length=its.length/\s.heap.get? l=Ab { cls:=.type "list",data:=.seq its.toArray n }:=by
 obtain⟨z,its,n,r,e⟩:=I.hok l _ hH;exact⟨z,its,n,r,r.length,e⟩
end
section
variable {X:Cx}
def BU:V->Aa V->Hp->VK->Prop:=λx vs H Q=>∃ l xs y,x=.ref l/\vs=[y]/\H l=Ab (.lst xs)/\xs.length<sizeLine/\Q .non (upd H l (.lst (xs++[y])))
theorem XB:MtM X "list.append" BU:=by
 intro pins s σ H x vs v us Q I rx rv h;obtain⟨l,xs,y,rfl,rfl,hH,hz,q⟩:=h;cases rx;obtain⟨u,rfl,ru⟩:=rv.one;obtain⟨z,its,n,r,hl,e⟩:=I.lstM hH;refine Sx Xh ⟨_,e,rfl⟩ Wj (Vt _ _) (Yn l its.toArray n u (by rw[Bj];omega)) ⟨e,?_⟩
 refine⟨.non,_,I.lset (its':=its++[u]) hH e (by simp) (r.append (.cons ru .nil)) ?_,rfl,q⟩
 rw[Aw,Dz];omega
end
end _L
namespace _L
open PySem PySem.Spec PyProof.Rows
variable {xs:Aa (Aa Key × Af × Ac)}{kvs:Aa (Aa Key × V)}{Q:Ac->Ag->Prop}{H':Hp}
section
variable {κ : Type}[Qu κ]
noncomputable def yD (kvs:Aa (κ × V))(k:κ):Al V:=(kvs.find? λkv=>decide (kv.1=k)).map (·.2)
noncomputable def yN (kvs:Aa (κ × V))(k:κ)(v:V):Aa (κ × V):=
 if (kvs.any λkv=>decide (kv.1=k))=true then kvs.map (λkv=>if kv.1=k then (kv.1,v) else kv) else kvs++[(k,v)]
theorem m9 {p:κ × V}{r:Aa (κ × V)}{k:κ}(e:p.1=k):yD (p::r) k=Ab p.2:=by simp[yD,Jr,e]
theorem m8 {p:κ × V}{r:Aa (κ × V)}{k:κ}(e:¬ p.1=k):yD (p::r) k=yD r k:=by simp[yD,Jr,e]
theorem eS (k:κ):∀ kvs:Aa (κ × V),(kvs.any λkv=>decide (kv.1=k))=(yD kvs k).isSome
 |[]=>rfl
 |p::r=>by
  rw[La];by_cases e:p.1=k
  .simp only[m9 e,Cp e,Bool.true_or,Xi]
  .rw[m8 e,Dj e,Bool.false_or];exact eS k r
theorem jY (kvs:Aa (κ × V))(k:κ)(v:V):(yN kvs k v).length<=kvs.length+1:=by
 unfold yN
 split
 .rw[Ak];omega
 .rw[Aw,AT,Cd];omega
theorem uL.isSome_eq {o:Al V}{u:Al Ac}(r:uL o u):o.isSome=u.isSome:=by
 cases o with
 |none=>cases u with
  |none=>rfl
  |some _=>exact(show Fv from r).elim
 |some _=>cases u with
  |none=>exact(show Fv from r).elim
  |some _=>rfl
theorem KV.val {kvs:Aa (κ × V)}{vs:Aa (κ × Ac)}(r:KV kvs vs)(k:κ):uL (yD kvs k) (TW vs k):=by
 unfold KV at r
 induction r with
 |nil=>exact Iu
 |@cons p q ps qs h t ih =>
  obtain⟨h1,h2⟩:=h;by_cases e:p.1=k
  .have e':q.1=k:=h1.symm.trans e
   have b:TW (q::qs) k=Ab q.2:=by simp[TW,Jr,e']
   rw[m9 e,b];exact h2
  .have e':¬ q.1=k:=λz=>e (h1.trans z)
   have b:TW (q::qs) k=TW qs k:=by simp[TW,Jr,e']
   rw[m8 e,b];exact ih
theorem KV.any {kvs:Aa (κ × V)}{vs:Aa (κ × Ac)}(r:KV kvs vs)(k:κ):(kvs.any λkv=>decide (kv.1=k))=vs.any λkv=>decide (kv.1=k):=by
 unfold KV at r
 induction r with
 |nil=>rfl
 |cons h t ih=>rw[La,La,ih,h.1]
theorem KV.repl {kvs:Aa (κ × V)}{vs:Aa (κ × Ac)}(r:KV kvs vs)(k:κ){y:V}{u:Ac}(ry:qG y u) :
  KV (kvs.map λkv=>if kv.1=k then (kv.1,y) else kv) (vs.map λkv=>if kv.1=k then (kv.1,u) else kv):=by
 unfold KV at r ⊢
 induction r with
 |nil=>exact .nil
 |@cons p q ps qs h t ih =>
  rw[De,De];refine .cons ?_ ih;obtain⟨h1,h2⟩:=h;by_cases e:p.1=k
  .rw[Bd e,Bd (h1.symm.trans e)];exact⟨h1,ry⟩
  .rw[Bf e,Bf (λz=>e (h1.trans z))];exact⟨h1,h2⟩
theorem KV.put {kvs:Aa (κ × V)}{vs:Aa (κ × Ac)}(r:KV kvs vs)(k:κ){y:V}{u:Ac}(ry:qG y u):KV (yN kvs k y) (stored vs k u):=by
 unfold yN stored;rw[r.any k];by_cases e:(vs.any λkv=>decide (kv.1=k))=true
 .rw[Bd e,Bd e];exact r.repl k ry
 .rw[Bf e,Bf e];exact Paired.snoc r ⟨rfl,ry⟩
theorem KV.length {kvs:Aa (κ × V)}{vs:Aa (κ × Ac)}(r:KV kvs vs):kvs.length=vs.length:=Paired.length r
end
theorem gN {P:Bg}{w:Ca}{k:Key}{u:Ac}(r:qG (kV k) u):(zK P w).is k u=true:=by
 cases k with
 |inl i=>obtain⟨t,e⟩:=(show ∃ t,u=Ri i t from r);subst e;exact h9 P w i t
 |inr x=>obtain⟨t,e⟩:=(show ∃ t,u=Yf x t from r);subst e;exact hJ P w x t
theorem lR {P:Bg}{w:Ca}:∀ {ks:Aa Key} {us:Aa Ac},qJ (ks.map kV) us->ItemsAre (zK P w) ks us
 |[],_,r=>by rw[Xw] at r;cases r;exact .nil
 |k::ks,_,r=>by
  rw[De] at r;cases r with
  |cons h t=>exact .cons (gN h) (lR t)
abbrev KT (H:Hp):Aa (Aa Key × V)->Aa (Aa Key × Af × Ac)->Prop:=Paired λp q=>p.1=q.1/\H q.2.1=Ab (.tup (p.1.map kV))/\qG p.2 q.2.2
theorem KT.val {H:Hp}(r:KT H kvs xs)(k:Aa Key):uL (yD kvs k) ((Wk xs k).map (·.2)):=by
 induction r with
 |nil=>exact Iu
 |@cons p q ps qs h t ih =>
  obtain⟨h1,_,h2⟩:=h;by_cases e:p.1=k
  .have e':q.1=k:=h1.symm.trans e
   have b:Wk (q::qs) k=Ab q.2:=by simp[Wk,Jr,e']
   rw[m9 e,b];exact h2
  .have e':¬ q.1=k:=λz=>e (h1.trans z)
   have b:Wk (q::qs) k=Wk qs k:=by simp[Wk,Jr,e']
   rw[m8 e,b];exact ih
theorem KT.repl {H:Hp}(r:KT H kvs xs)(k:Aa Key){y:V}{u:Ac}(ry:qG y u) :
  KT H (kvs.map λkv=>if kv.1=k then (kv.1,y) else kv) (xs.map (putAt k u)):=by
 induction r with
 |nil=>exact .nil
 |@cons p q ps qs h t ih =>
  rw[De,De];refine .cons ?_ ih;obtain⟨h1,h2,h3⟩:=h;unfold putAt;by_cases e:p.1=k
  .rw[Bd e,Bd (h1.symm.trans e)];exact⟨h1,h2,ry⟩
  .rw[Bf e,Bf (λz=>e (h1.trans z))];exact⟨h1,h2,h3⟩
theorem KT.put {H:Hp}(r:KT H kvs xs)(k:Aa Key){b:Af}{y:V}{u:Ac}(hb:H b=Ab (.tup (k.map kV)))(ry:qG y u) :
  KT H (yN kvs k y) (storedH xs k b u):=by
 have e:(kvs.any λkv=>decide (kv.1=k))=(Wk xs k).isSome:=by
  rw[eS,(r.val k).isSome_eq,Yo]
 unfold yN storedH;rw[e];by_cases q:(Wk xs k).isSome=true
 .rw[Bd q,Bd q];exact r.repl k ry
 .rw[Bf q,Bf q];exact Paired.snoc r ⟨rfl,hb,ry⟩
theorem KT.keeps {H:Hp}(r:KT H kvs xs)(ht:∀ b ys,H b=Ab (.tup ys)->H' b=Ab (.tup ys)):KT H' kvs xs:=
 Paired.mapP r λ_ _ z=>⟨z.1,ht _ _ z.2.1,z.2.2⟩
section
variable {P:Bg}{w:Ca}{H:Hp}{h:Bw}{a:Af}
theorem JZ {u:HO}(ok:HOk P w H h)(e:Rd H a u):zL P w H h a u:=e.ok ok
theorem dQ {kvs:Aa (Key × V)}(ok:HOk P w H h)(e:Rd H a (.dK kvs)):kvs.length<=sizeLine/\(a == Ki)=false/\∃ vs,KV kvs vs/\h.DictOf (zK P w) a vs:=
 show zL P w H h a (.dK kvs) from JZ ok e
theorem dP {kvs:Aa (Key × V)}(ok:HOk P w H h)(e:H a=Ab (.dK kvs)):kvs.length<=sizeLine/\(a == Ki)=false/\∃ vs,KV kvs vs/\h.DictOf (zK P w) a vs:=dQ ok (.inl e)
theorem mR {ks:Aa Key}(ok:HOk P w H h)(e:H a=Ab (.tup (ks.map kV))):(Us (zK P w)).is h ks a:=by
 obtain⟨_,its,r,o,h1,h2,n,h3⟩:=(show zL P w H h a (.tup (ks.map kV)) from ok a _ e)
 exact⟨o,its.toArray,n,h1,h2,h3,by simpa using lR r⟩
theorem dR (ok:HOk P w H h)(e:Rd H a (.dT kvs)):kvs.length<=sizeLine/\(a == Ki)=false /\
  ∃ xs,KT H kvs xs/\h.DictOfH (Us (zK P w)) a xs:=by
 obtain⟨z,y,xs,r,o,es,ep,h1,h2,h3,h4,h5⟩:=(show zL P w H h a (.dT kvs) from JZ ok e)
 refine⟨z,y,xs,r,o,es,ep,h1,h2,h3,h4,λx hx=>?_,h5⟩;have all:∀ {l:Aa (Aa Key × V)} {m:Aa (Aa Key × Af × Ac)},KT H l m->∀ x∈m,(Us (zK P w)).is h x.1 x.2.1:=by
  intro l m q
  induction q with
  |nil=>intro x hx;exact nomatch hx
  |@cons p q ps qs hq t ih =>
   intro x hx;rcases Az.mp hx with e|hx
   .subst e
    exact mR ok (by rw[<- hq.1];exact hq.2.1)
   .exact ih x hx
 exact all r x hx
theorem RW (ok:HOk P w H h)(e:H a=Ab (.dT kvs)):kvs.length<=sizeLine/\(a == Ki)=false /\
  ∃ xs,KT H kvs xs/\h.DictOfH (Us (zK P w)) a xs:=dR ok (.inl e)
end
def kW (H:Hp)(a:Af)(y:V)(r:Al V):Prop:=
 (∃ kvs k,Rd H a (.dK kvs)/\y=kV k/\r=yD kvs k)\/∃ kvs k b,Rd H a (.dT kvs)/\y=.ref b/\H b=Ab (.tup (k.map kV))/\r=yD kvs k
def tH (H:Hp)(a:Af)(y v:V)(H':Hp):Prop:=
 (∃ kvs k,H a=Ab (.dK kvs)/\y=kV k/\kvs.length<sizeLine/\H'=upd H a (.dK (yN kvs k v))) \/
 ∃ kvs k b,H a=Ab (.dT kvs)/\y=.ref b/\H b=Ab (.tup (k.map kV))/\kvs.length<sizeLine/\H'=upd H a (.dT (yN kvs k v))
theorem kW.k {H:Hp}{a:Af}{kvs:Aa (Key × V)}{k:Key}(e:H a=Ab (.dK kvs)):kW H a (kV k) (yD kvs k):=.inl ⟨kvs,k,.inl e,rfl,rfl⟩
theorem kW.t {H:Hp}{a b:Af}{k:Aa Key}(e:H a=Ab (.dT kvs))(eb:H b=Ab (.tup (k.map kV))):kW H a (.ref b) (yD kvs k):=.inr ⟨kvs,k,b,.inl e,rfl,eb,rfl⟩
theorem tH.k {H:Hp}{a:Af}{kvs:Aa (Key × V)}{k:Key}{v:V}(e:H a=Ab (.dK kvs))(hl:kvs.length<sizeLine):tH H a (kV k) v (upd H a (.dK (yN kvs k v))):=.inl ⟨kvs,k,e,rfl,hl,rfl⟩
theorem tH.t {H:Hp}{a b:Af}{k:Aa Key}{v:V}(e:H a=Ab (.dT kvs))(eb:H b=Ab (.tup (k.map kV)))(hl:kvs.length<sizeLine) :
  tH H a (.ref b) v (upd H a (.dT (yN kvs k v))):=.inr ⟨kvs,k,b,e,rfl,eb,hl,rfl⟩
section
variable {X:Cx}{pins:Aa (Af × Cu)}{σ : St}{H:Hp}{s:Ag}{a:Af}{y v:V}{u r:Ac}{o:Al V}{A:Bt}{E:Ac->Ag->Prop}
theorem Inv.big (I:Inv X pins σ H s):Ki<s.heap.objs.size:=by
 have h:Di<s.heap.objs.size:=(I.mod.glob.keeps I.bk).lt;exact Io (by decide) h
theorem QY (hu:A.units+1<Du)(I:Inv X pins σ H s)(g:kW H a y (Ab v))(ry:qG y u)(h:∀ w' s',Inv X pins σ H s'->qG v w'->Q w' s') :
  Ap (As X.prog X.w) A (Nk (.ref a) u) Q E s:=by
 rcases g with⟨kvs,k,e,ey,l⟩|⟨kvs,k,b,e,ey,eb,l⟩
 .subst ey
  obtain⟨z,hd,vs,rel,dd⟩:=dQ I.hok e;obtain⟨w',hw,rw'⟩:=uL.some_of (v:=v) (o:=TW vs k) (by rw[l];exact rel.val k)
  exact wpAny_getItem_of (gN ry) dd.mapOf hw (h w' _ (I.tok _) rw')
 .subst ey
  cases (show u=Dh b from ry)
  obtain⟨z,hd,xs,rel,dd⟩:=dR I.hok e;obtain⟨w',hw,rw'⟩:=uL.some_of (v:=v) (o:=(Wk xs k).map (·.2)) (by rw[l];exact rel.val k)
  obtain⟨p,hp,hp2⟩:=Gm.mp hw;refine wpAny_getItem_heap (Qr hu) (mR I.hok eb) dd hp ?_;rw[hp2];exact h w' _ (I.tok _) rw'
theorem AB (hu:A.units+1<Du)(I:Inv X pins σ H s)(g:kW H a y o)(ry:qG y u)(h:∀ s',Inv X pins σ H s'->Q (.bool o.isSome) s') :
  Ap (As X.prog X.w) A (Cc .In u (.ref a)) Q E s:=by
 rcases g with⟨kvs,k,e,ey,l⟩|⟨kvs,k,b,e,ey,eb,l⟩
 .subst ey
  obtain⟨z,hd,vs,rel,dd⟩:=dQ I.hok e;refine wpAny_in_of (gN ry) hd dd.mapOf ?_;rw[<- (rel.val k).isSome_eq,<- l];exact h _ (I.tok _)
 .subst ey
  cases (show u=Dh b from ry)
  obtain⟨z,hd,xs,rel,dd⟩:=dR I.hok e;refine wpAny_in_heap (Qr hu) (mR I.hok eb) hd dd ?_;have q:=(rel.val k).isSome_eq;rw[Yo] at q;rw[<- q,<- l];exact h _ (I.tok _)
theorem tN {h':Bw}{t':Ai}{ob:HO}(I:Inv X pins σ H s)(mu:Mut (H a))(hs:Ez a s.heap h')(he:∃ q,h'.get? a=Ab q)(new:zL X.prog X.w (upd H a ob) h' a ob) :
  Inv X pins σ (upd H a ob) { s with heap:=h',toks:=t' }:=
 I.write (x:=a) (e:=a) mu (.inl rfl) (λb q hb z=>(hs.2 b hb).trans z) he new
theorem Z4 {P:Bg}{w:Ca}{h':Bw}{kvs:Aa (Key × V)}{vs:Aa (Key × Ac)}(z:kvs.length<=sizeLine)(hd:(a == Ki)=false)(rel:KV kvs vs)(dd:h'.DictOf (zK P w) a vs) :
  zL P w H' h' a (.dK kvs):=⟨z,hd,vs,rel,dd⟩
theorem QZ {Q:Vi->Ag->Prop}(hu:A.units+1<Du)(I:Inv X pins σ H s)(g:tH H a y v H')(ry:qG y u)(rv:qG v r)(h:∀ s',Inv X pins σ H' s'->Q () s') :
  Ap (As X.prog X.w) A (setItem (.ref a) u r) Q E s:=by
 rcases g with⟨kvs,k,e,ey,l,eH⟩|⟨kvs,k,b,e,ey,eb,l,eH⟩
 .subst ey eH
  obtain⟨z,hd,vs,rel,dd⟩:=dP I.hok e;have hz:vs.length<=sizeLine:=by rw[<- rel.length];exact z
  have hl:(yN kvs k v).length<=sizeLine:=by have:=jY kvs k v;omega
  refine wpAny_setItem_pairs (hsz:=hz) (gN ry) dd λh' dd' hs=>h _ ?_;have he:∃ q,h'.get? a=Ab q:=let ⟨q,_,_,hq,_⟩:=dd';⟨q,hq⟩
  exact tN I (by rw[e];exact Iu) hs he (Z4 hl hd (rel.put k rv) dd')
 .subst ey eH
  cases (show u=Dh b from ry)
  obtain⟨z,hd,xs,rel,dd⟩:=RW I.hok e;have hz:xs.length<=sizeLine:=by rw[<- Paired.length rel];exact z
  have hl:(yN kvs k v).length<=sizeLine:=by have:=jY kvs k v;omega
  refine wpAny_setItem_heap (hsz:=hz) (Qr hu) (mR I.hok eb) dd λh' dd' hs=>h _ ?_;obtain⟨q,es,ep,hq,h2,h3,h4,_,h5⟩:=dd';refine tN I (by rw[e];exact Iu) hs ⟨q,hq⟩ ⟨hl,hd,_,(rel.put k eb rv).keeps λc ys ec=>?_,q,es,ep,hq,h2,h3,h4,h5⟩
  rw[qP (EG ec e (λz=>nomatch z))];exact ec
end
def WL (i:By):Prop:=∀ ov iv,subscripted i false ov iv=operate [ov,iv] (Nk ov iv)
theorem FB {prog:Bg}{w:Ca}{A:Bt}{E:Ac->Ag->Prop}{s:Ag}{env:Kc}{value slice:By}{pos:Fc}{T id:Ek}
  (hl:Wi (.type T) "__getitem__" = pure (Ab (.builtin id))) (hs:WL slice)
  (h:Ap (As prog w) A (eval value env) (λo s₁=>Ap (As prog w) A (eval slice env) (λi s₂=>s₂.TypeIs o T/\Ap (As prog w) A (Nk o i) Q E s₂) E s₁) E s) :
  Ap (As prog w) A (eval (.Subscript value slice pos) env) Q E s:=by
 refine xL (Hq h (λo s₁ h₁=>Hq h₁ (λi s₂ h₂=>?_) λ_ _ x=>x) λ_ _ x=>x);obtain⟨hT,h₂⟩:=h₂;unfold Rr;refine Ad ?_;rw[getitemInPython_of_ne hT.not_modules];refine Ad (Ua hT hl ?_);have fin:Ap (As prog w) A (subscripted slice false o i) (λr s₃=>Ap (As prog w) A (letTemporaryGo value o r >>= λ_=>pure r) Q E s₃) E s₂:=by
  rw[hs o i];exact wpAny_operating (Hq h₂ (λr s₃ h₃=>Ad (wpAny_letTemporaryGo (Am h₃))) λ_ _ x=>x)
 first
  |exact Am (Ad fin)
  |exact Ad (Am (Ad fin))
  |exact Ad fin
theorem eZ {X:Cx}{pins:Aa (Af × Cu)}{σ:St}{H:Hp}{s:Ag}{a:Af}{y:V}{o:Al V}(I:Inv X pins σ H s)(g:kW H a y o):s.TypeIs (.ref a) "dict":=by
 rcases g with⟨kvs,k,e,_,_⟩|⟨kvs,k,b,e,_,_,_⟩
 .obtain⟨_,_,vs,_,dd⟩:=dQ I.hok e
  exact dd.typeIs
 .obtain⟨_,_,xs,_,dd⟩:=dR I.hok e
  exact dd.typeIs
theorem YC {P:Bg}{w:Ca}{H:Hp}(h:Bw)(hb:Ki<h.objs.size):zL P w H (h.push { cls:=.type "dict",data:=.dict #[] }) h.objs.size (.dK []):=
 ⟨Fh _,Kh.mpr (Fb (Cw hb)),[],.nil,Heap.DictOf.new h⟩
def R0:TE:=λ_ H Q=>∀ p,H p=none->Q (.ref p) (upd H p (.dK []))
section
variable {X:Cx}{pos:Fc}
theorem VU:PE X (.Dict [] [] pos) R0:=λpins s σ H Q I h =>
 wpAny_Dict_empty ⟨.ref s.heap.objs.size,_,I.laid (a:=s.heap.objs.size) (o:=.dK []) (t':=s.toks) (λ_ _ q=>Ah _ q) (Av _) (YC s.heap I.big),rfl,h _ (I.hok.fresh (Av _))⟩
end
end _L
namespace _A
open PySem PySem.W PySem.Calls PyProof.Rows
theorem mK {P:Params}{h:Bw}:∀ (ns:Aa An) (vs:Aa Ac),WellAll P h vs (ns.map WData.int)->Fw vs ns:=by
 intro ns
 induction ns with
 |nil =>
  intro vs w;rw[Xw] at w;cases w;exact .nil
 |cons n ns ih =>
  intro vs w;rw[De] at w;cases w with
  |cons a b =>
   cases a;exact .cons _ _ (ih _ b)
theorem W6 {l:OpenLaw}{n:Ai}(hn:l.most=Ab n){P:Params}{h:Bw}{args:Aa WData}{vals:Aa Ac}
  (hpre:l.row.toRowW.claim.pre args=true) (hwl:WellAll P h vals args) :
  ∃ a vs ns,vals=[Dh a]/\args=[WData.list (ns.map WData.int)]/\h.get? a=Ab { cls:=.type "list",data:=.seq vs.toArray } /\ Fw vs ns/\ns.length<=n:=by
 have hsh:WShape.hasAll [] args [.list .int]=true:=(pre_splitW hpre).1;have hc:l.pre.holds [] { args:=args } = true:=(pre_splitW hpre).2;obtain⟨d,r,rfl,h1,h2⟩:=hasAllW_cons hsh;obtain rfl:=hasAllW_nil h2;obtain⟨xs,rfl,h3⟩:=hasW_list h1;obtain⟨ns,rfl⟩:=items_int h3;have hlen:ns.length<=n:=by
  unfold OpenLaw.pre at hc;have h4:(WTm.not (.lt (.lit (.int (n:An))) (.len (.arg 0)))).holds [] { args:=[.list (ns.map .int)] } = true:=by
   have h4:=(holds_andW hc).1;rw[hn] at h4;exact h4
  have h5:=condW_of h4 (w_not (w_lt w_lit (w_len_list (w_arg rfl))));rw[Ak] at h5;refine Sy λq=>?_;have q':(n:An)<((ns.length:Ai):An):=by omega
  first
   |(rw[Cp q'] at h5;exact absurd h5 (by decide))
   |(simp at h5;omega)
 cases hwl with
 |cons w1 w2 =>
  cases w2;cases w1 with
  |list ho hall=>exact⟨_,_,ns,rfl,rfl,ho,mK ns _ hall,hlen⟩
theorem XU (l:OpenLaw)(args:Aa WData):l.row.toRowW.claim.post args (.bool true) args=true:=
 postW_of (r:=l.row.toRowW) (X:=(true == true))
  (show WShape.has [] (.bool true) .bool=true by first|rfl|decide|simp[WShape.has,WShape.arms,WShape.armsAll])
  (show (WTm.eq .res (.lit (.bool true))).value [] { args:=args,res:=Ab (.bool true),after:=args } = Ab (.bool (true == true)) from w_eq_bool (w_res rfl) w_lit) rfl
theorem attach_call {l:OpenLaw}{n:Ai}{q:Bg}{loose:Aa Au}{XP:(Au->Al Ac)->Bw->Prop}{YP:Ca->Bw->Prop}{d:DefRec}
  (hn:l.most=Ab n) (hdf:d.params.defaults=[])
  (call:∀ (w:Ca) (s₀ s₁:Ag) (mg mb:Au->Al Ac) (fa:Af) (o:Cu) (pm cd doc:Ac) (a:Af) (vs:Aa Ac) (ns:Aa An),
   Ground q loose [] XP w s₀ mg mb s₁.heap->YP w s₁.heap ->
   s₁.heap.get? fa=Ab o->o.data=.func (docDef d.name d.params d.body d.scope pm cd doc)->s₁.heap.CodeRec cd d.name->mg d.name=Ab (.ref fa) ->
   s₁.heap.get? a=Ab { cls:=.type "list",data:=.seq vs.toArray } -> Fw vs ns->ns.length<=n->s₁.gens=#[] ->
   Iw (As l.prog w) Ru (.call (.ref fa) ⟨[.ref a],[]⟩) (λr s'=>r=.ok (.ret (.bool true))/\OldK s₁.heap s'.heap/\s'.os=s₁.os/\Og s'.gens) s₁) :
  WalkO q loose XP YP l.row.toRowW d [] (λf vs=>x0 f vs):=by
 intro w s₀ s₁ mg mb G Y fa o pm cd doc dV kV ho hd hcd hD hmg hg args vals as hpre hlay hrd hwl hlo;obtain rfl:dV=.none:=Dflts.none hD hdf;obtain rfl:kV=.none:=Dflts.noKw hD;obtain⟨a,vs,ns,rfl,rfl,hobj,hints,hlen⟩:=W6 hn hpre hwl;refine enter_call (Jm (call w s₀ s₁ mg mb fa o pm cd doc a vs ns G Y ho (fd_plain hd) hcd hmg hobj hints hlen hg) λr s' hq=>?_);obtain⟨rfl,h2,h3,h4⟩:=hq;exact⟨.inl ⟨.bool true,.bool true,[],rfl,λ_=>rfl,.bool true,XU l _,λ_=>⟨Nv,λ_ hm=>(nomatch hm)⟩⟩,h2,h3,h4⟩
end _A
namespace _L
open PySem PySem.Spec PyProof.Rows
theorem WB {vs:Aa Ac}{ns:Aa An}(h:Fw vs ns):qJ (ns.map V.int) vs:=by
 induction h with
 |nil=>exact .nil
 |cons n t h ih=>exact .cons ⟨t,rfl⟩ ih
def SqX (K:Aj)(H:Hp)(a:Af)(xs:Aa V):Prop:=
 Rd H a (.lst xs)\/∃ (its:Aa Ac) (n:Ai),K.lookup a=Ab { cls:=.type "list",data:=.seq its.toArray n } /\ xs.length<=sizeLine/\qJ xs its
theorem SqX.l {K:Aj}{H:Hp}{a:Af}{xs:Aa V}(h:SqX K H a xs):SqL K H a xs:=by
 rcases h with h|⟨its,n,e,l,v⟩
 .exact .inl h
 .exact .inr ⟨_,its.toArray,n,e,rfl,rfl,rfl,by rw[Bj,<- v.length];exact l,by simpa using v⟩
end _L
namespace _L
open PySem PySem.Spec PyProof.Rows
variable {ps:Aa Au}{f:Af}{x qual:Au}{H:Hp}
noncomputable def y7 (s:Gd):Uu:=match s with
 |.FunctionDef _ a _ _ _ _ _ _ _ _=>a
 |_=>{ posonlyargs:=[],args:=[],vararg:=none,kwonlyargs:=[],kw_defaults:=[],kwarg:=none,defaults:=[] }
noncomputable def zU (s:Gd):Aa Gd:=match s with
 |.FunctionDef _ _ b _ _ _ _ _ _ _=>b
 |_=>[]
noncomputable def qK (s:Gd):Ey:=match s with
 |.FunctionDef _ _ _ _ _ _ sc _ _ _=>sc
 |_=>{ kind:=.function,names:=[],isGenerator:=false,isCoroutine:=false }
abbrev CX0:CXT:=λ_ _ _ _ _ _=>Fv
structure Fun (K:Aj)(x qual:Au)(st:Gd)(f:Af)(fd:Fx):Prop where
 ex:∃ (oc:Ac) (od:Al Af) (kV doc pm:Ac) (an:Al Af) (cdv ct:Ac) (osl:Ax (Al Ac)),
  fd=Gu x qual (y7 st) (zU st) (qK st) .none kV doc pm an cdv ct/\K.lookup f=Ab ⟨oc,od,.func fd,osl⟩/\Ma K cdv qual=true
 kp:Gv K (.ref f)=true
section
variable {P:Bg}{w:Ca}{K:Aj}{mg:Au->Al Ac}{base:Bw}
theorem Fun.ok {st:Gd}{fd:Fx}{N:Aa Au}{k:Ai}{sp:Sp}(F:Fun K x qual st f fd)(S:FnScope N ps (qK st))(len:∀ vs H Q E,sp vs H Q E->vs.length=ps.length)
  (hbody:∀ (cdv:Ac) (A:Bt) (outer:Aa Kc) (s:Ag) (H:Hp) (vs:Aa V) (Q:VK) (E:XK),Room k (A.deeper (Hc qual (qK st) s.heap.objs.size f cdv))->sp vs H Q E ->
   ∃ t,PSs (tM CX0 P w K mg base N qual (qK st) f cdv A outer s H E).nox (zU st) t/\t { nx:=λ_ H'=>Q .non H',rt:=Q } (xT N vs) H):FnOk P w K mg base CX0 (k+1) f fd ps sp:=by
 obtain⟨oc,od,kV,doc,pm,an,cdv,ct,osl,rfl,lk,hcd⟩:=F.ex;refine RZ lk hcd S len λA outer s H vs Q E hr hsp=>?_;obtain⟨t,h,q⟩:=hbody cdv A outer s H vs Q E hr hsp;exact⟨t,h.nox,q⟩
theorem Fun.binds {st:Gd}{fd:Fx}(F:Fun K x qual st f fd)
  (h:∀ (kV doc pm:Ac) (an:Al Af) (cdv ct:Ac) (us:Aa Ac),us.length=ps.length->f8 (Gu x qual (y7 st) (zU st) (qK st) .none kV doc pm an cdv ct) ⟨us,[]⟩=pure (ps.zip us)):u7 K fd ps []:=by
 obtain⟨oc,od,kV,doc,pm,an,cdv,ct,osl,rfl,lk,hcd⟩:=F.ex;exact .all (h kV doc pm an cdv ct)
theorem N2 {st:Gd}{oc:Ac}{od an:Al Af}{osl:Ax (Al Ac)}{kV doc pm cdv ct:Ac}(l:K.lookup f=Ab ⟨oc,od,.func (Gu x qual (y7 st) (zU st) (qK st) .none kV doc pm an cdv ct),osl⟩)
  (c:Ma K cdv qual=true) (k:Gv K (.ref f)=true):Fun K x qual st f (Gu x qual (y7 st) (zU st) (qK st) .none kV doc pm an cdv ct):=⟨⟨oc,od,kV,doc,pm,an,cdv,ct,osl,rfl,l,c⟩,k⟩
end
def qF (H H':Hp):Prop:=∀ b o,H b=Ab o->H' b=Ab o
theorem qF.refl (H:Hp):qF H H:=λ_ _ h=>h
theorem qF.trans {H1 H2:Hp}(a:qF H H1)(b:qF H1 H2):qF H H2:=λc o h=>b c o (a c o h)
theorem qF.free {H':Hp}(e:qF H H'){l:Af}(h:H' l=AaL):H l=AaL:=by
 cases q:H l with
 |none=>rfl
 |some o =>
  rw[e l o q] at h;cases h
theorem qF.seq {K:Aj}{H':Hp}{a:Af}{xs:Aa V}(e:qF H H')(h:SqL K H a xs):SqL K H' a xs:=by
 rcases h with (h|⟨o,h⟩)|h
 .exact .inl (.inl (e _ _ h))
 .exact .inl (.inr ⟨o,e _ _ h⟩)
 .exact .inr h
end _L
end
section
namespace _D
open PySem PySem.Spec PyProof.Rows _L
inductive D where
 |non|bl (b:Ar)|int (i:An)|str (x:Au)|ty (n:Ek)|obj (a:Af)|tup (xs:Aa D)|lst (xs:Aa D)|dct0|loc (i:Ai)|exn (c:Ac)|fd (ks:Aa Key) (ds:Aa D)|clo (a:Af) (vs:Aa V) (ds:Aa D)
noncomputable def AF (a:Af)(c:Ac):HO:=.ext λh=>∃ ob,h.get? a=Ab ob/\ob.cls=c
inductive MO where
 |dead|lst (xs:Aa D)|dct (kvs:Aa (Key × D))|ins (C:Af) (fs:Aa (Au × D))
abbrev Sto:=Aa MO
inductive Res (β : Type) where
 |ok (d:β) (S:Sto)|ex (c:Ac) (x:D) (S:Sto)|bad
@[inline] def Res.bind {β γ:Type}(r:Res β)(f:β->Sto->Res γ) : Res γ:=
 match r with
 |.ok d S=>f d S
 |.ex c x S=>.ex c x S
 |.bad=>.bad
theorem Res.bind_ok {β γ:Type}(d:β)(S:Sto)(f:β->Sto->Res γ) : (Res.ok d S).bind f=f d S:=rfl
section
variable (K:Aj)(P:Hp)(α : Aa Af)
mutual
def Rep:D->V->Prop
 |.non,v=>v=.non
 |.bl b,v=>v=.bl b
 |.int i,v=>v=.int i
 |.str x,v=>v=.str x
 |.ty n,v=>v=.ty n
 |.obj a,v=>v=.ref a/\Gv K (.ref a)=true
 |.tup ds,v=>∃ a vs,v=.ref a/\SqT K P a vs/\qC ds vs
 |.lst ds,v=>∃ a vs,v=.ref a/\SqX K P a vs/\qC ds vs
 |.dct0,v=>∃ a,v=.ref a/\P a=Ab (.dK [])
 |.loc i,v=>∃ a,v=.ref a/\α[i]? = Ab a
 |.exn c,v=>∃ a,v=.ref a/\P a=Ab (AF a c)
 |.fd ks ds,v=>∃ a o vs,v=.ref a/\P a=Ab (.frz o (.dK (ks.zip vs)))/\ks.length=vs.length/\qC ds vs
 |.clo a vs ds,v=>v=.ref a/\qC ds vs
def qC:Aa D->Aa V->Prop
 |[],vs=>vs=[]
 |d::ds,vs=>∃ w ws,vs=w::ws/\Rep d w/\qC ds ws
end
end
section
variable {K:Aj}{P P':Hp}{α α':Aa Af}
theorem vF (e:qF P P'){a:Af}{xs:Aa V}(h:SqT K P a xs):SqT K P' a xs:=by
 rcases h with (h|⟨o,h⟩)|h
 .exact .inl (.inl (e _ _ h))
 .exact .inl (.inr ⟨o,e _ _ h⟩)
 .exact .inr h
theorem aM (e:qF P P'){a:Af}{u:HO}(h:Rd P a u):Rd P' a u:=by
 rcases h with h|⟨o,h⟩
 .exact .inl (e _ _ h)
 .exact .inr ⟨o,e _ _ h⟩
theorem xU (e:qF P P'){a:Af}{xs:Aa V}(h:SqX K P a xs):SqX K P' a xs:=by
 rcases h with h|h
 .exact .inl (aM e h)
 .exact .inr h
theorem bS {i:Ai}{a:Af}(h:α<+:α')(e:α[i]? = Ab a):α'[i]? = Ab a:=by
 obtain⟨r,rfl⟩:=h;rw[Bl (Bi.mp e).1];exact e
mutual
theorem Rep.mono (e:qF P P')(h:α<+:α'):∀ (d:D) (v:V),Rep K P α d v->Rep K P' α' d v
 |.non,_,r=>by simpa only [Rep] using r
 |.bl _,_,r=>by simpa only [Rep] using r
 |.int _,_,r=>by simpa only [Rep] using r
 |.str _,_,r=>by simpa only [Rep] using r
 |.ty _,_,r=>by simpa only [Rep] using r
 |.obj _,_,r=>by simpa only [Rep] using r
 |.tup ds,v,r=>by
  simp only[Rep] at r ⊢;obtain⟨a,vs,rfl,q,t⟩:=r;exact⟨a,vs,rfl,vF e q,qC.mono e h ds vs t⟩
 |.lst ds,v,r=>by
  simp only[Rep] at r ⊢;obtain⟨a,vs,rfl,q,t⟩:=r;exact⟨a,vs,rfl,xU e q,qC.mono e h ds vs t⟩
 |.dct0,v,r=>by
  simp only[Rep] at r ⊢;obtain⟨a,rfl,q⟩:=r;exact⟨a,rfl,e _ _ q⟩
 |.loc i,v,r=>by
  simp only[Rep] at r ⊢;obtain⟨a,rfl,q⟩:=r;exact⟨a,rfl,bS h q⟩
 |.exn c,v,r=>by
  simp only[Rep] at r ⊢;obtain⟨a,rfl,q⟩:=r;exact⟨a,rfl,e _ _ q⟩
 |.fd ks ds,v,r=>by
  simp only[Rep] at r ⊢;obtain⟨a,o,vs,rfl,q,hl,t⟩:=r;exact⟨a,o,vs,rfl,e _ _ q,hl,qC.mono e h ds vs t⟩
 |.clo a vs ds,v,r=>by
  simp only[Rep] at r ⊢;exact⟨r.1,qC.mono e h ds vs r.2⟩
theorem qC.mono (e:qF P P')(h:α<+:α'):∀ (ds:Aa D) (vs:Aa V),qC K P α ds vs->qC K P' α' ds vs
 |[],vs,r=>by simpa only [qC] using r
 |d::ds,vs,r=>by
  simp only[qC] at r ⊢;obtain⟨w,ws,rfl,r1,r2⟩:=r;exact⟨w,ws,rfl,Rep.mono e h d w r1,qC.mono e h ds ws r2⟩
end
theorem qC.nil:qC K P α [] []:=by simp only[qC]
theorem qC.cons {d:D}{v:V}{ds:Aa D}{vs:Aa V}(r:Rep K P α d v)(t:qC K P α ds vs):qC K P α (d::ds) (v::vs):=by
 simp only[qC];exact⟨v,vs,rfl,r,t⟩
theorem qC.nil_inv {vs:Aa V}(r:qC K P α [] vs):vs=[]:=by simpa only [qC] using r
theorem qC.cons_inv {d:D}{ds:Aa D}{vs:Aa V}(r:qC K P α (d::ds) vs):∃ w ws,vs=w::ws/\Rep K P α d w/\qC K P α ds ws:=by simpa only [qC] using r
theorem qC.length:∀ {ds:Aa D} {vs:Aa V},qC K P α ds vs->ds.length=vs.length
 |[],vs,r=>by rw[r.nil_inv];rfl
 |d::ds,vs,r=>by
  obtain⟨w,ws,rfl,_,t⟩:=r.cons_inv;rw[AT,AT,t.length]
theorem qC.append:∀ {ds es:Aa D} {vs ws:Aa V},qC K P α ds vs->qC K P α es ws->qC K P α (ds++es) (vs++ws)
 |[],es,vs,ws,r,t=>by rw[r.nil_inv];exact t
 |d::ds,es,vs,ws,r,t=>by
  obtain⟨w,us,rfl,r1,r2⟩:=r.cons_inv;exact .cons r1 (r2.append t)
theorem qC.get:∀ {ds:Aa D} {vs:Aa V} {i:Ai} {d:D},qC K P α ds vs->ds[i]? = Ab d->∃ v,vs[i]? = Ab v/\Rep K P α d v
 |[],_,_,_,_,e=>by simp at e
 |d::ds,vs,i,d',r,e=>by
  obtain⟨w,ws,rfl,r1,r2⟩:=r.cons_inv;cases i with
  |zero=>simp at e;subst e;exact⟨w,rfl,r1⟩
  |succ i =>
   obtain⟨v,h1,h2⟩:=r2.get (i:=i) (d:=d') (by simpa using e)
   exact⟨v,by simpa using h1,h2⟩
theorem qC.drop:∀ {ds:Aa D} {vs:Aa V} (n:Ai),qC K P α ds vs->qC K P α (ds.drop n) (vs.drop n)
 |ds,vs,0,r=>by simpa using r
 |[],vs,n+1,r=>by rw[r.nil_inv];exact .nil
 |d::ds,vs,n+1,r=>by
  obtain⟨w,ws,rfl,_,r2⟩:=r.cons_inv;simpa using r2.drop n
theorem qC.take:∀ {ds:Aa D} {vs:Aa V} (n:Ai),qC K P α ds vs->qC K P α (ds.take n) (vs.take n)
 |ds,vs,0,r=>by simpa using qC.nil
 |[],vs,n+1,r=>by rw[r.nil_inv];exact .nil
 |d::ds,vs,n+1,r=>by
  obtain⟨w,ws,rfl,r1,r2⟩:=r.cons_inv;simpa using qC.cons r1 (r2.take n)
theorem qC.set {d:D}{v:V}(q:Rep K P α d v):∀ {ds:Aa D} {vs:Aa V} (n:Ai),qC K P α ds vs->qC K P α (ds.set n d) (vs.set n v)
 |[],vs,n,r=>by rw[r.nil_inv];exact .nil
 |e::ds,vs,0,r=>by
  obtain⟨w,ws,rfl,r1,r2⟩:=r.cons_inv;exact .cons q r2
 |e::ds,vs,n+1,r=>by
  obtain⟨w,ws,rfl,r1,r2⟩:=r.cons_inv;exact .cons r1 (r2.set q n)
end
abbrev qB:=Aa (Al D)
def zG (K:Aj)(P:Hp)(α : Aa Af)(σ : _L.St)(env:qB):Prop:=env.length=σ.length/\∀ (i:Ai) (d:D),env[i]? = Ab (Ab d)->∃ v,σ[i]? = Ab (Ab v)/\Rep K P α d v
def KVs (K:Aj)(P:Hp)(α : Aa Af){κ : Type}:Aa (κ × D)->Aa (κ × V)->Prop:=Paired λ(p:κ × D) (q:κ × V)=>p.1=q.1/\Rep K P α p.2 q.2
def MOk (K:Aj)(H P:Hp)(α : Aa Af)(a:Af):MO->Prop
 |.dead=>Pc
 |.lst ds=>∃ vs,H a=Ab (.lst vs)/\qC K P α ds vs
 |.dct kvs=>∃ vs,H a=Ab (.dK vs)/\KVs K P α kvs vs
 |.ins C fs=>∃ dx vs,H a=Ab (.ins C dx vs)/\KVs K P α fs vs
inductive TbAt (x:Au)(H P:Hp)(α : Aa Af)(T:Af):Prop
 |mk (ps:Ax Ac) (e:H T=Ab (.tbl ps)) (pn:P T=none) (an:T ∉ α) (ok:TriplesOk ps.toList) (cd:∀ pos cv,codeAmong pos ps.toList=Ab cv->∃ c oc vs t,cv=.ref c/\H c=Ab (.frz oc (.frz oc (.own 0)))/\oc.data=.fields vs/\vs[1]? = Ab (.str (x ++ ".<locals>." ++ "<lambda>") t)):TbAt x H P α T
def iC (K:Aj)(H P:Hp)(α : Aa Af):Prop:=∀ x∈yZ,∀ c T,Ep K x=Ab (c,T)->TbAt x H P α T
def NA (u:HO):Prop:=(∃ ps,u=.tbl ps)\/∃ o,u=.frz o (.frz o (.own 0))
theorem iC.keep {K:Aj}{H H' P P':Hp}{α α':Aa Af}(r:iC K H P α)(e:∀ b u,H b=Ab u->NA u->H' b=Ab u)(hp:∀ b u,H b=Ab u->NA u->P b=none->b ∉ α->P' b=none/\b ∉ α'):iC K H' P' α':=λx hx c T h =>
 let ⟨ps,e1,pn,an,ok,cd⟩:=r x hx c T h
 let z:=hp _ _ e1 (.inl ⟨_,rfl⟩) pn an
 ⟨ps,e _ _ e1 (.inl ⟨_,rfl⟩),z.1,z.2,ok,λpos cv q=>let ⟨c,oc,vs,t,a,b,d⟩:=cd pos cv q;⟨c,oc,vs,t,a,e _ _ b (.inr ⟨_,rfl⟩),d⟩⟩
structure Rel (K:Aj)(H P:Hp)(α : Aa Af)(S:Sto):Prop where
 tb:iC K H P α
 sub:qF P H
 len:α.length=S.length
 nd:α.Nodup
 sep:∀ (i:Ai) (a:Af) (o:MO),α[i]? = Ab a->S[i]? = Ab o->o≠.dead->P a=none
 at':∀ (i:Ai) (a:Af) (o:MO),α[i]? = Ab a->S[i]? = Ab o->MOk K H P α a o
 own:∀ (i:Ai) (a:Af),α[i]? = Ab a->H a≠none
section
variable {K:Aj}{H P P':Hp}{α α':Aa Af}{S:Sto}
theorem zG.mono {σ : _L.St}{env:qB}(e:qF P P')(h:α<+:α')(r:zG K P α σ env):zG K P' α' σ env:=
 ⟨r.1,λi d q=>let ⟨v,h1,h2⟩:=r.2 i d q;⟨v,h1,Rep.mono e h d v h2⟩⟩
theorem KVs.mono {κ : Type}(e:qF P P')(h:α<+:α'){kvs:Aa (κ × D)}{vs:Aa (κ × V)}(r:KVs K P α kvs vs):KVs K P' α' kvs vs:=by
 refine Paired.mapP r λp q z=>⟨z.1,Rep.mono e h _ _ z.2⟩
theorem MOk.mono {a:Af}(e:qF P P')(h:α<+:α'):∀ {o:MO},MOk K H P α a o->MOk K H P' α' a o
 |.dead,_=>trivial
 |.lst _,⟨vs,q,r⟩=>⟨vs,q,qC.mono e h _ _ r⟩
 |.dct _,⟨vs,q,r⟩=>⟨vs,q,r.mono e h⟩
 |.ins _ _,⟨dx,vs,q,r⟩=>⟨dx,vs,q,r.mono e h⟩
theorem Rel.grow {H':Hp}(r:Rel K H P α S)(e:qF H H'):Rel K H' P α S where
 tb:=r.tb.keep (λb u q _=>e _ _ q) λ_ _ _ _ p n=>⟨p,n⟩
 sub:=r.sub.trans e
 len:=r.len
 nd:=r.nd
 sep:=r.sep
 at':=λi a o q1 q2=>by
  have m:=r.at' i a o q1 q2;cases o with
  |dead=>trivial
  |lst ds=>obtain⟨vs,q,t⟩:=m;exact⟨vs,e _ _ q,t⟩
  |dct kvs=>obtain⟨vs,q,t⟩:=m;exact⟨vs,e _ _ q,t⟩
  |ins C fs=>obtain⟨dx,vs,q,t⟩:=m;exact⟨dx,vs,e _ _ q,t⟩
 own:=λi a q=>by
  have m:=r.own i a q;cases z:H a with
  |none=>exact absurd z m
  |some o=>rw[e _ _ z];intro w;cases w
theorem gZ {H:Hp}{a:Af}{o:HO}(h:H a=none):qF H (upd H a o):=λb u e=>by rw[qP (zF e h)];exact e
theorem Rel.pure {a:Af}{o:HO}(r:Rel K H P α S)(h:H a=none):Rel K (upd H a o) (upd P a o) α S/\qF P (upd P a o):=by
 have hP:P a=none:=by
  cases z:P a with
  |none=>rfl
  |some u=>rw[r.sub _ _ z] at h;cases h
 have sP:qF P (upd P a o):=gZ hP;have r1:=r.grow (gZ (o:=o) h);refine⟨⟨r.tb.keep (λb u q _=>(qP (zF q h)).trans q) λb u q _ p n=>⟨(qP (zF q h)).trans p,n⟩,λb u e=>?_,r.len,r.nd,λi b u q1 q2 q3=>?_,λi b u q1 q2=>(r1.at' i b u q1 q2).mono sP (Be _),r1.own⟩,sP⟩
 .by_cases hb:b=a
  .subst hb;rw[zD] at e ⊢;exact e
  .rw[qP hb] at e ⊢;exact r.sub _ _ e
 .have hb:b≠a:=by rintro rfl;exact r.own i b q1 h
  rw[qP hb];exact r.sep i b u q1 q2 q3
theorem Rel.new {a:Af}{o:HO}{m:MO}(r:Rel K H P α S)(h:H a=none)(hm:MOk K (upd H a o) P (α ++ [a]) a m):Rel K (upd H a o) P (α ++ [a]) (S++[m]):=by
 have hP:P a=none:=by
  cases z:P a with
  |none=>rfl
  |some u=>rw[r.sub _ _ z] at h;cases h
 have r1:=r.grow (gZ (o:=o) h);have hp:α<+:α++[a]:=Ng _ _;have split:∀ (i:Ai) (b:Af),(α++[a])[i]? = Ab b->(i<α.length/\α[i]? = Ab b)\/(i=α.length/\b=a):=λi b q=>by
  by_cases hi:i<α.length
  .rw[Bl hi] at q;exact .inl ⟨hi,q⟩
  .rw[Dg om] at q
   cases hk:i-α.length with
   |zero=>rw[hk] at q;simp at q;exact .inr ⟨by omega,q.symm⟩
   |succ k=>rw[hk] at q;simp at q
 refine⟨r.tb.keep (λb u q _=>(qP (zF q h)).trans q) λb u q _ p n=>⟨p,λz=>(Bz.mp z).elim n λw=>zF q h (by simpa using w)⟩,r1.sub,by simp[r.len],?_,λi b u q1 q2 q3=>?_,λi b u q1 q2=>?_,λi b q=>?_⟩
 .rw[Jw]
  refine⟨r.nd,by simp,λb hb c hc e=>?_⟩
  simp at hc;subst hc;subst e;obtain⟨i,hi,e⟩:=Cs.mp hb;exact r.own i b (by rw[Ao hi,e]) h
 .rcases split i b q1 with⟨hi,z⟩|⟨hi,rfl⟩
  .rw[Bl (by rw[<- r.len];exact hi)] at q2
   exact r.sep i b u z q2 q3
  .exact hP
 .rcases split i b q1 with⟨hi,z⟩|⟨hi,rfl⟩
  .rw[Bl (by rw[<- r.len];exact hi)] at q2
   exact(r1.at' i b u z q2).mono (qF.refl _) hp
  .rw[hi,r.len,Dg (Av _)] at q2
   simp at q2;subst q2;exact hm
 .rcases split i b q with⟨_,z⟩|⟨_,rfl⟩
  .exact r1.own i b z
  .rw[zD];intro z;cases z
theorem lU {N:Aa Af}(hN:N.Nodup){i j:Ai}{x:Af}(a:N[i]? = Ab x)(b:N[j]? = Ab x):i=j:=by
 obtain⟨h1,e1⟩:=Bi.mp a;obtain⟨h2,e2⟩:=Bi.mp b;exact(Sw hN).mp (e1.trans e2.symm)
theorem Rel.put {a:Af}{i:Ai}{o:HO}{m m':MO}(r:Rel K H P α S)(ha:α[i]? = Ab a)(hs:S[i]? = Ab m)(hd:m≠.dead)(hm:MOk K (upd H a o) P α a m'):Rel K (upd H a o) P α (S.set i m'):=by
 have hP:=r.sep i a m ha hs hd;have hi:i<S.length:=(Bi.mp hs).1;refine⟨r.tb.keep (λb u q hu=>?_) λ_ _ _ _ p n=>⟨p,n⟩,λb u e=>?_,by simp[r.len],r.nd,λj b u q1 q2 q3=>?_,λj b u q1 q2=>?_,λj b q=>?_⟩
 .refine(qP ?_).trans q
  rintro rfl;have z:=r.at' i _ m ha hs;cases m with
  |dead=>exact hd rfl
  |lst ds=>obtain⟨vs,z,_⟩:=z;rw[q] at z;rcases hu with⟨_,rfl⟩|⟨_,rfl⟩ <;> cases z
  |dct kvs=>obtain⟨vs,z,_⟩:=z;rw[q] at z;rcases hu with⟨_,rfl⟩|⟨_,rfl⟩ <;> cases z
  |ins C fs=>obtain⟨dx,vs,z,_⟩:=z;rw[q] at z;rcases hu with⟨_,rfl⟩|⟨_,rfl⟩ <;> cases z
 .have hb:b≠a:=by rintro rfl;rw[hP] at e;cases e
  rw[qP hb];exact r.sub _ _ e
 .by_cases hj:j=i
  .subst hj;rw[ha] at q1;cases q1;exact hP
  .rw[Ce (Fb hj)] at q2;exact r.sep j b u q1 q2 q3
 .by_cases hj:j=i
  .subst hj;rw[ha] at q1;cases q1
   rw[Ed hi] at q2;cases q2;exact hm
  .rw[Ce (Fb hj)] at q2
   have hb:b≠a:=by rintro rfl;exact hj (lU r.nd q1 ha)
   have z:=r.at' j b u q1 q2;cases u with
   |dead=>trivial
   |lst ds=>obtain⟨vs,q,t⟩:=z;exact⟨vs,by rw[qP hb];exact q,t⟩
   |dct kvs=>obtain⟨vs,q,t⟩:=z;exact⟨vs,by rw[qP hb];exact q,t⟩
   |ins C fs=>obtain⟨dx,vs,q,t⟩:=z;exact⟨dx,vs,by rw[qP hb];exact q,t⟩
 .by_cases hb:b=a
  .subst hb;rw[zD];intro z;cases z
  .rw[qP hb];exact r.own j b q
end
theorem nn {β : Type}{a:β}{p:Prop}(h:(none:Al β) = Ab a):p:=by cases h
theorem j8 {β : Type}{c:Prop}[Ju c]{a b:β}(h:(if c then Ab a else none)=Ab b):c/\a=b:=by
 by_cases z:c
 .rw[Bd z] at h;exact⟨z,Dd h⟩
 .rw[Bf z] at h;exact nn h
end _D
end
namespace _D
open PySem PySem.Spec PyProof.Rows _L
variable {us:Aa Ac}{body:Aa Gd}{vs:Aa V}{u vv:Ac}{p C:Af}{od:Al Af}{sl:Ax (Al Ac)}{R:It->Hp->Prop}{sp:Sp}{S:Sto}{Q:VK}
abbrev DE:=qB->Sto->Res D
abbrev DT:=qB->Sto->Res Ar
abbrev DA:=qB->Sto->Res (Aa D)
inductive Out where
 |nx (env:qB) (S:Sto)|rt (d:D) (S:Sto)|bk (env:qB) (S:Sto)|ct (env:qB) (S:Sto)|ex (c:Ac) (x:D) (env:qB) (S:Sto)|bad
abbrev DS:=qB->Sto->Out
def Old (X:Cx)(pins:Aa (Af × Cu))(H:Hp)(b:Af):Prop:=
 (∃ o,X.s₀.heap.get? b=Ab o)\/H b≠none\/(∃ p∈X.pn++pins,p.1=b)\/∃ x,X.env.cells.lookup x=Ab b
def Cv (X:Cx)(pins:Aa (Af × Cu))(H:Hp)(B h:Bw):Prop:=∀ b o,h.get? b=Ab o->Old X pins H b->b ∉ frs X.stack->B.get? b=Ab o
inductive FlyX (X:Cx)(pins:Aa (Af × Cu))(H:Hp)(c:Ac)(e:Af)(h:Bw):Prop where
 |new (g:Bw) (args:Aa Ac):Aa5 g h e c args->g.FunFrames X.base X.stack->(∀ b o,h.get? b=Ab o->Old X pins H b->g.get? b=Ab o)->FlyX X pins H c e h
 |fly (B:Bw) (a0:Ac):Xx B X.stack e c a0 h->Cv X pins H B h->FlyX X pins H c e h
inductive XOk (X:Cx)(P:Hp)(α : Aa Af)(c:Ac)(x:D)(S:Sto)(u:Ac)(s:Ag):Prop
 |mk (e:Af) (pins:Aa (Af × Cu)) (σ : _L.St) (H:Hp) (P':Hp) (α' : Aa Af) (e1:u=.ref e) (I:Inv X pins σ H s) (r:Rel X.K H P' α' S) (q1:qF P P') (q2:α<+:α') (q3:X.ex=[]/\X.stack=X.env::X.outer/\X.env.frame=Ab X.env.locals) (q4:FlyX X pins H c e s.heap):XOk X P α c x S u s
theorem XOk.base {X:Cx}{P P1:Hp}{α α1:Aa Af}{c:Ac}{x:D}{s:Ag}(e:qF P P1)(h:α<+:α1)(k:XOk X P1 α1 c x S u s):XOk X P α c x S u s:=by
 obtain⟨a,pins,σ,H,P',α',e1,I,r,q1,q2,q3,q4⟩:=k;exact⟨a,pins,σ,H,P',α',e1,I,r,e.trans q1,h.trans q2,q3,q4⟩
section
variable (X:Cx)
def qI {β:Type}(P:Hp)(α : Aa Af)(r:Res β)(Ok:β->Sto->Prop):Prop:=
 match r with
 |.ok d S'=>Ok d S'
 |.ex c x S'=>∀ u s',XOk X P α c x S' u s'->X.xe u s'
 |.bad=>Fv
def OkV (P:Hp)(α : Aa Af)(Q:VK)(d:D)(S':Sto):Prop:=∀ v H' P' α',Rel X.K H' P' α' S'->qF P P'->α<+:α'->Rep X.K P' α' d v->Q v H'
def OkT (P:Hp)(α : Aa Af)(Q:Ar->Hp->Prop)(b:Ar)(S':Sto):Prop:=∀ H' P' α',Rel X.K H' P' α' S'->qF P P'->α<+:α'->Q b H'
def OkA (P:Hp)(α : Aa Af)(Q:Aa V->Hp->Prop)(ds:Aa D)(S':Sto):Prop:=∀ vs H' P' α',Rel X.K H' P' α' S'->qF P P'->α<+:α'->qC X.K P' α' ds vs->Q vs H'
abbrev qV (P:Hp)(α : Aa Af)(r:Res D)(Q:VK):Prop:=qI X P α r (OkV X P α Q)
abbrev wI (P:Hp)(α : Aa Af)(r:Res Ar)(Q:Ar->Hp->Prop):Prop:=qI X P α r (OkT X P α Q)
abbrev pL (P:Hp)(α : Aa Af)(r:Res (Aa D))(Q:Aa V->Hp->Prop):Prop:=qI X P α r (OkA X P α Q)
def z9 (P:Hp)(α : Aa Af)(r:Out)(D:Ends):Prop:=
 match r with
 |.nx env' S'=>∀ σ' H' P' α',Rel X.K H' P' α' S'->zG X.K P' α' σ' env'->qF P P'->α<+:α'->D.nx σ' H'
 |.bk env' S'=>∀ σ' H' P' α',Rel X.K H' P' α' S'->zG X.K P' α' σ' env'->qF P P'->α<+:α'->D.bk σ' H'
 |.ct env' S'=>∀ σ' H' P' α',Rel X.K H' P' α' S'->zG X.K P' α' σ' env'->qF P P'->α<+:α'->D.ct σ' H'
 |.rt d S'=>∀ v H' P' α',Rel X.K H' P' α' S'->qF P P'->α<+:α'->Rep X.K P' α' d v->D.rt v H'
 |.ex c x _ S'=>∀ u s',XOk X P α c x S' u s'->X.xe u s'
 |.bad=>Fv
inductive tD (f:DE)(σ : _L.St)(H:Hp)(Q:VK):Prop
 |mk (P:Hp) (α : Aa Af) (env:qB) (S:Sto) (r:Rel X.K H P α S) (re:zG X.K P α σ env) (af:qV X P α (f env S) Q):tD f σ H Q
inductive tDT (f:DT)(σ : _L.St)(H:Hp)(Q:Ar->Hp->Prop):Prop
 |mk (P:Hp) (α : Aa Af) (env:qB) (S:Sto) (r:Rel X.K H P α S) (re:zG X.K P α σ env) (af:wI X P α (f env S) Q):tDT f σ H Q
inductive tDA (f:DA)(σ : _L.St)(H:Hp)(Q:Aa V->Hp->Prop):Prop
 |mk (P:Hp) (α : Aa Af) (env:qB) (S:Sto) (r:Rel X.K H P α S) (re:zG X.K P α σ env) (af:pL X P α (f env S) Q):tDA f σ H Q
inductive tDS (f:DS)(D:Ends)(σ : _L.St)(H:Hp):Prop
 |mk (P:Hp) (α : Aa Af) (env:qB) (S:Sto) (r:Rel X.K H P α S) (re:zG X.K P α σ env) (af:z9 X P α (f env S) D):tDS f D σ H
end
section
variable {X:Cx}{P P1:Hp}{α α1:Aa Af}
theorem qV.base {r:Res D}(e:qF P P1)(h:α<+:α1)(k:qV X P α r Q):qV X P1 α1 r Q:=by
 cases r with
 |ok d S=>exact λv H' P' α' r q1 q2 q3=>k v H' P' α' r (e.trans q1) (h.trans q2) q3
 |ex c x S=>exact λu s' q=>k u s' (q.base e h)
 |bad=>exact k
theorem wI.base {r:Res Ar}{Q:Ar->Hp->Prop}(e:qF P P1)(h:α<+:α1)(k:wI X P α r Q):wI X P1 α1 r Q:=by
 cases r with
 |ok d S=>exact λH' P' α' r q1 q2=>k H' P' α' r (e.trans q1) (h.trans q2)
 |ex c x S=>exact λu s' q=>k u s' (q.base e h)
 |bad=>exact k
theorem pL.base {r:Res (Aa D)}{Q:Aa V->Hp->Prop}(e:qF P P1)(h:α<+:α1)(k:pL X P α r Q):pL X P1 α1 r Q:=by
 cases r with
 |ok d S=>exact λv H' P' α' r q1 q2 q3=>k v H' P' α' r (e.trans q1) (h.trans q2) q3
 |ex c x S=>exact λu s' q=>k u s' (q.base e h)
 |bad=>exact k
theorem z9.base {r:Out}{D:Ends}(e:qF P P1)(h:α<+:α1)(k:z9 X P α r D):z9 X P1 α1 r D:=by
 cases r with
 |nx env S=>exact λv H' P' α' r q0 q1 q2=>k v H' P' α' r q0 (e.trans q1) (h.trans q2)
 |bk env S=>exact λv H' P' α' r q0 q1 q2=>k v H' P' α' r q0 (e.trans q1) (h.trans q2)
 |ct env S=>exact λv H' P' α' r q0 q1 q2=>k v H' P' α' r q0 (e.trans q1) (h.trans q2)
 |rt d S=>exact λv H' P' α' r q1 q2 q3=>k v H' P' α' r (e.trans q1) (h.trans q2) q3
 |ex c x env S=>exact λu s' q=>k u s' (q.base e h)
 |bad=>exact k
theorem xr {v:V}{H:Hp}{d:D}(k:OkV X P α Q d S)(r:Rel X.K H P α S)(q:Rep X.K P α d v):Q v H:=k v H P α r (qF.refl _) (Be _) q
end
section
variable {X:Cx}{a b e:By}{pos:Fc}
theorem peW {t t':TE}(h:PE X e t)(w:∀ σ H Q,t' σ H Q->t σ H Q):PE X e t':=λpins s σ H Q I q=>h pins s σ H Q I (w σ H Q q)
theorem psW {st:Gd}{t t':TS}(h:PS X st t)(w:∀ D σ H,t' D σ H->t D σ H):PS X st t':=λpins s σ H D I q=>h pins s σ H D I (w D σ H q)
theorem D4 {st:Aa Gd}{t t':TS}(h:PSs X st t)(w:∀ D σ H,t' D σ H->t D σ H):PSs X st t':=λpins s σ H D I q=>h pins s σ H D I (w D σ H q)
theorem paW {es:Aa By}{t t':TA}(h:PA X es t)(w:∀ σ H Q,t' σ H Q->t σ H Q):PA X es t':=λpos pins s σ H Q I q=>h pos pins s σ H Q I (w σ H Q q)
structure Got (X:Cx)(pins:Aa (Af × Cu))(σ : _L.St)(env:qB)(P:Hp)(α : Aa Af)(u:Ac)(s1:Ag)(v:V)(H1 P1:Hp)(α1:Aa Af)(d:D)(S1:Sto):Prop where
 inv:Inv X pins σ H1 s1
 val:qG v u
 rel:Rel X.K H1 P1 α1 S1
 env:zG X.K P1 α1 σ env
 rep:Rep X.K P1 α1 d v
 same:qF P P1
 pre:α<+:α1
inductive GotG (X:Cx)(pins:Aa (Af × Cu))(σ : _L.St)(env:qB)(P:Hp)(α : Aa Af)(u:Ac)(s1:Ag){γ : Type}(g:D->Sto->Res γ)(Ok:γ->Sto->Prop):Prop
 |mk (v:V) (H1 P1:Hp) (α1:Aa Af) (d:D) (S1:Sto) (G:Got X pins σ env P α u s1 v H1 P1 α1 d S1) (q:qI X P α (g d S1) Ok):GotG X pins σ env P α u s1 g Ok
inductive GotAG (X:Cx)(pins:Aa (Af × Cu))(σ : _L.St)(env:qB)(P:Hp)(α : Aa Af)(us:Aa Ac)(s1:Ag){γ : Type}(g:Aa D->Sto->Res γ)(Ok:γ->Sto->Prop):Prop
 |mk (vs:Aa V) (H1 P1:Hp) (α1:Aa Af) (ds:Aa D) (S1:Sto) (I:Inv X pins σ H1 s1) (rv:qJ vs us) (r:Rel X.K H1 P1 α1 S1) (re:zG X.K P1 α1 σ env) (rp:qC X.K P1 α1 ds vs) (e1:qF P P1) (e2:α<+:α1) (q:qI X P α (g ds S1) Ok):GotAG X pins σ env P α us s1 g Ok
inductive GotT (X:Cx)(pins:Aa (Af × Cu))(σ : _L.St)(env:qB)(P:Hp)(α : Aa Af)(b:Ar)(s1:Ag){γ : Type}(g:Ar->Sto->Res γ)(Ok:γ->Sto->Prop):Prop
 |mk (H1 P1:Hp) (α1:Aa Af) (S1:Sto) (I:Inv X pins σ H1 s1) (r:Rel X.K H1 P1 α1 S1) (re:zG X.K P1 α1 σ env) (e1:qF P P1) (e2:α<+:α1) (q:qI X P α (g b S1) Ok):GotT X pins σ env P α b s1 g Ok
theorem zO {γ:Type}{f:DE}{g:D->Sto->Res γ}{Ok:γ->Sto->Prop}{pins:Aa (Af × Cu)}{s:Ag}{σ:_L.St}{H P:Hp}{α:Aa Af}{env:qB}(he:PE X e (tD X f))(I:Inv X pins σ H s)(r:Rel X.K H P α S)
  (re:zG X.K P α σ env) (af:qI X P α ((f env S).bind g) Ok) :
  Ap (As X.prog X.w) X.A (eval e X.env) (λu s1=>GotG X pins σ env P α u s1 g Ok) X.xe s:=by
 refine thn (he pins s σ H (λv H1=>∃ P1 α1 d S1,Rel X.K H1 P1 α1 S1/\zG X.K P1 α1 σ env/\Rep X.K P1 α1 d v/\qF P P1/\α<+:α1/\qI X P α (g d S1) Ok) I ⟨P,α,env,S,r,re,?_⟩) λu s1 ⟨v,H1,I1,rv,P1,α1,d,S1,q1,q2,q3,q4,q5,q6⟩=>⟨v,H1,P1,α1,d,S1,⟨I1,rv,q1,q2,q3,q4,q5⟩,q6⟩;cases q:f env S with
 |bad=>rw[q] at af;exact af
 |ex c x S'=>rw[q] at af;exact af
 |ok d S' =>
  rw[q] at af;exact λv H' P' α' r' e1 e2 rp=>⟨P',α',d,S',r',re.mono e1 e2,rp,e1,e2,af⟩
theorem wL {γ:Type}{es:Aa By}{f:DA}{g:Aa D->Sto->Res γ}{Ok:γ->Sto->Prop}{pins:Aa (Af × Cu)}{s:Ag}{σ:_L.St}{H P:Hp}{α:Aa Af}{env:qB}(he:PA X es (tDA X f))(I:Inv X pins σ H s)(r:Rel X.K H P α S)
  (re:zG X.K P α σ env) (af:qI X P α ((f env S).bind g) Ok) (pos:Fc) :
  Ap (As X.prog X.w) X.A (spliced (Gw pos (Bo es X.env))) (λus s1=>GotAG X pins σ env P α us s1 g Ok) X.xe s:=by
 refine thn (he pos pins s σ H (λvs H1=>∃ P1 α1 ds S1,Rel X.K H1 P1 α1 S1/\zG X.K P1 α1 σ env/\qC X.K P1 α1 ds vs/\qF P P1/\α<+:α1/\qI X P α (g ds S1) Ok) I ⟨P,α,env,S,r,re,?_⟩) λu s1 ⟨v,H1,I1,rv,P1,α1,d,S1,q1,q2,q3,q4,q5,q6⟩=>⟨v,H1,P1,α1,d,S1,I1,rv,q1,q2,q3,q4,q5,q6⟩;cases q:f env S with
 |bad=>rw[q] at af;exact af
 |ex c x S'=>rw[q] at af;exact af
 |ok d S' =>
  rw[q] at af;exact λv H' P' α' r' e1 e2 rp=>⟨P',α',d,S',r',re.mono e1 e2,rp,e1,e2,af⟩
theorem pR {γ:Type}{f:DT}{g:Ar->Sto->Res γ}{Ok:γ->Sto->Prop}{pins:Aa (Af × Cu)}{s:Ag}{σ:_L.St}{H P:Hp}{α:Aa Af}{env:qB}{m:Ln Ar}
  (he:∀ (Q:Ar->Hp->Prop),tDT X f σ H Q->Ap (As X.prog X.w) X.A m (TP X pins σ Q) X.xe s) (r:Rel X.K H P α S) (re:zG X.K P α σ env) (af:qI X P α ((f env S).bind g) Ok) :
  Ap (As X.prog X.w) X.A m (λb s1=>GotT X pins σ env P α b s1 g Ok) X.xe s:=by
 refine thn (he (λb H1=>∃ P1 α1 S1,Rel X.K H1 P1 α1 S1/\zG X.K P1 α1 σ env/\qF P P1/\α<+:α1/\qI X P α (g b S1) Ok) ⟨P,α,env,S,r,re,?_⟩) λb s1 ⟨H1,I1,P1,α1,S1,q1,q2,q4,q5,q6⟩=>⟨H1,P1,α1,S1,I1,q1,q2,q4,q5,q6⟩;cases q:f env S with
 |bad=>rw[q] at af;exact af
 |ex c x S'=>rw[q] at af;exact af
 |ok d S' =>
  rw[q] at af;exact λH' P' α' r' e1 e2=>⟨P',α',S',r',re.mono e1 e2,e1,e2,af⟩
noncomputable def dC (d:D):DE:=λ_ S=>.ok d S
noncomputable def q9 (i:Ai):DE:=λenv S=>match env[i]? with
 |some (Ab d)=>.ok d S
 |_=>.bad
theorem MT:PE X (.Constant (.int i) j pos) (tD X (dC (.int i))):=peW LS λσ H Q ⟨P,α,env,S,r,re,af⟩=>xr af r (by simp only[Rep])
theorem RN:PE X (.Constant (.bool i) j pos) (tD X (dC (.bl i))):=peW EZ λσ H Q ⟨P,α,env,S,r,re,af⟩=>xr af r (by simp only[Rep])
theorem MZ:PE X (.Constant (.str i) j pos) (tD X (dC (.str i))):=peW LW λσ H Q ⟨P,α,env,S,r,re,af⟩=>xr af r (by simp only[Rep])
theorem MW:PE X (.Constant .none j pos) (tD X (dC .non)):=peW LU λσ H Q ⟨P,α,env,S,r,re,af⟩=>xr af r (by simp only[Rep])
set_option tactic.hygienic true in
theorem FD {i:Ai}{σ:_L.St}{H:Hp}(h:tD X (q9 i) σ H Q):R4 i σ H Q:=by
 obtain⟨P,α,env,S,r,re,af⟩:=h;unfold q9 at af
 split at af
 .rename_i d q
  obtain⟨v,h1,h2⟩:=re.2 i d q;exact⟨v,h1,xr af r h2⟩
 .exact Aq af
theorem dv (i:Ai){x:Au}(hN:X.N[i]? = Ab x:=by rfl)(hv:Vis X.env.scope x:=by first|exact Zl rfl|exact Xa (Zl rfl)|exact Xa (Xa rfl))(hd:(x == ("__debug__" : Au))=false:=by decide)
  (hcd:(x == ("__classdict__" : Au))=false:=by decide):PE X (.Name x pos) (tD X (q9 i)):=peW (LY hN hv hd hcd) λσ H Q h=>FD h
theorem KH {x:Au}{d:D}{v:V}(hg:Gl X x)(hm:X.mg x=Ab u)(r:qG v u)(q:∀ P α,Rep X.K P α d v)(hd:(x == ("__debug__" : Au))=false:=by decide):PE X (.Name x pos) (tD X (dC d)):=
 peW (B0 hg hm r hd) λσ H Q ⟨P,α,env,S,r,re,af⟩=>xr af r (q _ _)
theorem KF {x:Au}{n:Ek}(hg:Gl X x)(hm:X.mg x=none)(hv:Ge x=Ab (.type n))(hn:x ≠ "__name__":=by decide)(hd:(x == ("__debug__" : Au))=false:=by decide):PE X (.Name x pos) (tD X (dC (.ty n))):=
 peW (PZ (v:=.ty n) hg hm hv rfl hn hd) λσ H Q ⟨P,α,env,S,r,re,af⟩=>xr af r (by simp only[Rep])
abbrev G2:=D->D->Sto->Res D
def OpD (X:Cx)(f:Ac->Ac->Ln Ac)(g:G2):Prop:=
 ∀ (pins:Aa (Af × Cu)) (σ : _L.St) (H:Hp) (s:Ag) (P:Hp) (α : Aa Af) (S:Sto) (v u:V) (vv uu:Ac) (a b:D) (Q:VK),Inv X pins σ H s->Rel X.K H P α S->qG v vv->qG u uu->Rep X.K P α a v->Rep X.K P α b u->qV X P α (g a b S) Q ->
  Ap (As X.prog X.w) X.A (f vv uu) (EP X pins σ Q) X.xe s
theorem OpD.of {f:Ac->Ac->Ln Ac}{r:R2}{g:G2}(h:OpR X f r)(w:∀ H P α S v u a b Q,Rel X.K H P α S->Rep X.K P α a v->Rep X.K P α b u->qV X P α (g a b S) Q->r v u H Q):OpD X f g:=
 λpins σ H s P α S v u vv uu a b Q I rl r1 r2 p1 p2 af=>h pins s σ H v u vv uu Q I r1 r2 (w H P α S v u a b Q rl p1 p2 af)
def UnD (X:Cx)(f:Ac->Ln Ac)(g:D->Sto->Res D):Prop:=
 ∀ (pins:Aa (Af × Cu)) (σ : _L.St) (H:Hp) (s:Ag) (P:Hp) (α : Aa Af) (S:Sto) (v:V) (vv:Ac) (a:D) (Q:VK),Inv X pins σ H s->Rel X.K H P α S->qG v vv->Rep X.K P α a v->qV X P α (g a S) Q ->
  Ap (As X.prog X.w) X.A (f vv) (EP X pins σ Q) X.xe s
def IxD (X:Cx)(g:G2):Prop:=
 ∀ (value slice:By) (pins:Aa (Af × Cu)) (σ : _L.St) (H:Hp) (s:Ag) (P:Hp) (α : Aa Af) (S:Sto) (v u:V) (vv uu:Ac) (a b:D) (Q:VK),Inv X pins σ H s->Rel X.K H P α S->qG v vv->qG u uu->Rep X.K P α a v->Rep X.K P α b u->qV X P α (g a b S) Q ->
  subscripted slice false vv uu=operate [vv,uu] (Nk vv uu)->Ap (As X.prog X.w) X.A (Rr value slice vv uu) (EP X pins σ Q) X.xe s
def yV (X:Cx)(f:Ac)(g:Aa D->Sto->Res D):Prop:=
 ∀ (pins:Aa (Af × Cu)) (σ : _L.St) (H:Hp) (s:Ag) (P:Hp) (α : Aa Af) (S:Sto) (vs:Aa V) (us:Aa Ac) (ds:Aa D) (Q:VK),Inv X pins σ H s->Rel X.K H P α S->qJ vs us->qC X.K P α ds vs->qV X P α (g ds S) Q ->
  Ap (As X.prog X.w) X.A (call f us) (EP X pins σ Q) X.xe s
noncomputable def d2 (g:G2)(fa fb:DE):DE:=λenv S=>(fa env S).bind λx S1=>(fb env S1).bind λy S2=>g x y S2
noncomputable def d1 (g:D->Sto->Res D)(fa:DE):DE:=λenv S=>(fa env S).bind g
variable {fa fb:DE}
theorem sY {g:G2}{f:Ac->Ac->Ln Ac}{pins:Aa (Af × Cu)}{s:Ag}{σ:_L.St}{H:Hp}(ho:OpD X f g)(ha:PE X a (tD X fa))(hb:PE X b (tD X fb))(I:Inv X pins σ H s)(h:tD X (d2 g fa fb) σ H Q) :
  Ap (As X.prog X.w) X.A (eval a X.env) (λv s₁=>Ap (As X.prog X.w) X.A (eval b X.env) (λu s₂=>Ap (As X.prog X.w) X.A (f v u) (EP X pins σ Q) X.xe s₂) X.xe s₁) X.xe s:=by
 obtain⟨P,α,env,S,r,re,af⟩:=h;refine thn (zO ha I r re af) λvv s1 ⟨v,H1,P1,α1,d,S1,G1,af1⟩=>?_;refine thn (zO hb G1.inv G1.rel G1.env (P:=P1) (α:=α1) (Ok:=OkV X P1 α1 Q) (g:=λy S2=>g d y S2) ?_) λuu s2 ⟨u,H2,P2,α2,d',S2,G2,af2⟩=>?_
 .exact qV.base G1.same G1.pre af1
 .exact ho pins σ H2 s2 P2 α2 S2 v u vv uu d d' Q G2.inv G2.rel G1.val G2.val (Rep.mono G2.same G2.pre _ _ G1.rep) G2.rep (qV.base G2.same G2.pre af2)
theorem RQ {op:Oc}{g:G2}(ho:OpD X (Fm op) g)(ha:PE X a (tD X fa))(hb:PE X b (tD X fb)):PE X (.BinOp a op b pos) (tD X (d2 g fa fb)):=
 λpins s σ H Q I h=>wpAny_BinOp (sY ho ha hb I h)
theorem MQ {op:Ut}{g:G2}(ho:OpD X (Cc op) g)(ha:PE X a (tD X fa))(hb:PE X b (tD X fb))(hm:Mk op b=false:=by first|exact pZ _|with_unfolding_all rfl):PE X (.Compare a [op] [b] pos) (tD X (d2 g fa fb)):=
 λpins s σ H Q I h=>wpAny_Compare1 (sY ho ha hb I h) hm
theorem RS {op:UnaryOp}{g:D->Sto->Res D}(ho:UnD X (Zf op) g)(ha:PE X a (tD X fa)):PE X (.UnaryOp op a pos) (tD X (d1 g fa)):=by
 intro pins s σ H Q I h;obtain⟨P,α,env,S,r,re,af⟩:=h;exact UnaryOp_ (thn (zO ha I r re af) λvv s1 ⟨v,H1,P1,α1,d,S1,G1,af1⟩=>ho pins σ H1 s1 P1 α1 S1 v vv d Q G1.inv G1.rel G1.val G1.rep (qV.base G1.same G1.pre af1))
theorem RP {g:G2}(ho:IxD X g)(ha:PE X a (tD X fa))(hb:PE X b (tD X fb))(hs:tI b:=by intro _ _;rfl):PE X (.Subscript a b pos) (tD X (d2 g fa fb)):=by
 intro pins s σ H Q I h;obtain⟨P,α,env,S,r,re,af⟩:=h;have IxR':IxR X (λx y H Q=>∃ P α S a b,Rel X.K H P α S/\Rep X.K P α a x/\Rep X.K P α b y/\qV X P α (g a b S) Q):=λvalue slice pins s σ H x y v u Q I rx ry ⟨P,α,S,a,b,r,p1,p2,af⟩ hsl =>
  ho value slice pins σ H s P α S x y v u a b Q I r rx ry p1 p2 af hsl
 refine peW (H0 IxR' ha hb hs) (t':=tD X (d2 g fa fb)) (λσ H Q h=>?_) pins s σ H Q I ⟨P,α,env,S,r,re,af⟩;obtain⟨P,α,env,S,r,re,af⟩:=h;refine⟨P,α,env,S,r,re,?_⟩;unfold d2 at af;cases q:fa env S with
 |bad=>rw[q] at af;exact af
 |ex c x S'=>rw[q] at af;exact af
 |ok d S1 =>
  rw[q] at af;intro v H1 P1 α1 r1 e1 e2 rp;refine⟨P1,α1,env,S1,r1,re.mono e1 e2,?_⟩;have af':qV X P α ((fb env S1).bind λy S2=>g d y S2) Q:=af;cases q2:fb env S1 with
  |bad=>rw[q2] at af';exact af'
  |ex c x S'=>rw[q2] at af';exact λu s' z=>af' u s' (z.base e1 e2)
  |ok d' S2 =>
   rw[q2] at af';intro u H2 P2 α2 r2 e3 e4 rp2;exact⟨P2,α2,S2,d,d',r2,Rep.mono e3 e4 _ _ rp,rp2,qV.base (e1.trans e3) (e2.trans e4) af'⟩
noncomputable def qA:DA:=λ_ S=>.ok [] S
noncomputable def q8 (f:DE)(g:DA):DA:=λenv S=>(f env S).bind λx S1=>(g env S1).bind λxs S2=>.ok (x::xs) S2
theorem ML:PA X [] (tDA X qA):=paW LR λσ H Q ⟨P,α,env,S,r,re,af⟩=>af [] H P α r (qF.refl _) (Be _) .nil
theorem KE {es:Aa By}{g:DA}(ha:PE X e (tD X fa))(hr:PA X es (tDA X g))(hs:Bo (e::es) X.env=(false,eval e X.env)::Bo es X.env:=by rfl):PA X (e::es) (tDA X (q8 fa g)):=by
 intro pos pins s σ H Q I h;obtain⟨P,α,env,S,r,re,af⟩:=h;rw[hs];show Ap _ _ (spliced ((false,eval e X.env)::Gw pos (Bo es X.env))) _ _ s;refine Qs (thn (zO ha I r re af) λu s1 ⟨x,H1,P1,α1,d,S1,G1,af1⟩=>?_);refine thn (wL hr G1.inv G1.rel G1.env (P:=P1) (α:=α1) (Ok:=OkA X P1 α1 Q) (pL.base G1.same G1.pre af1) pos) λus s2 ⟨xs,H2,P2,α2,ds,S2,I2,rv,r2,re2,rp2,e1,e2,af2⟩=>?_;exact⟨x::xs,H2,I2,.cons G1.val rv,af2 _ _ _ _ r2 e1 e2 (.cons (Rep.mono e1 e2 _ _ G1.rep) rp2)⟩
noncomputable def lim:Ai:=16777216
theorem zX:lim=sizeLine:=Fp.symm
noncomputable def zP (f:DA):DE:=λenv S=>(f env S).bind λxs S1=>if xs.length<=lim then .ok (.tup xs) S1 else .bad
noncomputable def pQ (f:DA):DE:=λenv S=>(f env S).bind λxs S1=>if xs.length<=lim then .ok (.lst xs) S1 else .bad
noncomputable def bI (f:DA):DE:=λenv S=>(f env S).bind λxs S1=>if xs.length<=lim then .ok (.loc S1.length) (S1++[.lst xs]) else .bad
theorem bU {K:Aj}{P:Hp}{α:Aa Af}{a:Af}{ds:Aa D}(h:SqT K P a vs)(r:qC K P α ds vs):Rep K P α (.tup ds) (.ref a):=by simp only[Rep];exact⟨a,vs,rfl,h,r⟩
theorem nP {K:Aj}{P:Hp}{α:Aa Af}{a:Af}{ds:Aa D}(h:SqX K P a vs)(r:qC K P α ds vs):Rep K P α (.lst ds) (.ref a):=by simp only[Rep];exact⟨a,vs,rfl,h,r⟩
theorem gU {H P:Hp}{α:Aa Af}{ds:Aa D}(r:Rel X.K H P α S)(hp:H p=none)(rp:qC X.K P α ds vs)(af:OkV X P α Q (.tup ds) S):Q (.ref p) (upd H p (.tup vs)):=by
 obtain⟨r1,e1⟩:=r.pure (o:=.tup vs) hp;exact af _ _ _ α r1 e1 (Be _) (bU (.of zD) (qC.mono e1 (Be _) _ _ rp))
theorem yM {H P:Hp}{α:Aa Af}{ds:Aa D}(r:Rel X.K H P α S)(hp:H p=none)(rp:qC X.K P α ds vs)(af:OkV X P α Q (.lst ds) S):Q (.ref p) (upd H p (.lst vs)):=by
 obtain⟨r1,e1⟩:=r.pure (o:=.lst vs) hp;exact af _ _ _ α r1 e1 (Be _) (nP (.inl (.inl zD)) (qC.mono e1 (Be _) _ _ rp))
theorem nH {H P:Hp}{α:Aa Af}{ds:Aa D}(r:Rel X.K H P α S)(hp:H p=none)(rp:qC X.K P α ds vs)(af:OkV X P α Q (.loc S.length) (S++[.lst ds])):Q (.ref p) (upd H p (.lst vs)):=by
 have hpre:α<+:α++[p]:=Ng _ _;have r1:=r.new (o:=.lst vs) (m:=.lst ds) hp ⟨vs,zD,qC.mono (qF.refl _) hpre _ _ rp⟩;refine af _ _ _ _ r1 (qF.refl _) hpre ?_;simp only[Rep];exact⟨p,rfl,by rw[<- r.len];simp⟩
theorem tO {f:DA}{σ:_L.St}{H:Hp}{G:Aa D->Sto->Res D}{mk:Aa V->HO}(h:tD X (λenv S=>(f env S).bind λxs S1=>if xs.length<=lim then G xs S1 else .bad) σ H Q)
  (k:∀ H1 P1 α1 S1 ds vs p,Rel X.K H1 P1 α1 S1->H1 p=none->qC X.K P1 α1 ds vs->qV X P1 α1 (G ds S1) Q->Q (.ref p) (upd H1 p (mk vs))) :
  tDA X f σ H λvs H1=>vs.length<=sizeLine/\∀ p,H1 p=none->Q (.ref p) (upd H1 p (mk vs)):=by
 obtain⟨P,α,env,S,r,re,af⟩:=h;refine⟨P,α,env,S,r,re,?_⟩;have af':qV X P α ((f env S).bind λxs S1=>if xs.length<=lim then G xs S1 else .bad) Q:=af
 cases q:f env S with
 |bad=>rw[q] at af';exact af'
 |ex c x S'=>rw[q] at af';exact af'
 |ok ds S1 =>
  rw[q] at af';intro vs H1 P1 α1 r1 e1 e2 rp;have af2:qV X P α (if ds.length<=lim then G ds S1 else .bad) Q:=af'
  by_cases hl:ds.length<=lim
  .rw[Bd hl] at af2
   exact⟨by rw[<- rp.length,<- zX];exact hl,λp hp=>k H1 P1 α1 S1 ds vs p r1 hp rp (qV.base e1 e2 af2)⟩
  .rw[Bf hl] at af2;exact Aq af2
theorem T1 {es:Aa By}{f:DA} {x1} (h:PA X es (tDA X f)):PE X (.Tuple es x1 pos) (tD X (zP f)):=
 peW (LX h) λσ H Q q=>tO (G:=λxs S1=>.ok (.tup xs) S1) (mk:=.tup) q λH1 P1 α1 S1 ds vs p r hp rp af=>gU r hp rp af
theorem MV {es:Aa By}{f:DA}(h:PA X es (tDA X f)):PE X (.List es pos) (tD X (pQ f)):=
 peW (XQ h) λσ H Q q=>tO (G:=λxs S1=>.ok (.lst xs) S1) (mk:=.lst) q λH1 P1 α1 S1 ds vs p r hp rp af=>yM r hp rp af
theorem KL {es:Aa By}{f:DA}(h:PA X es (tDA X f)):PE X (.List es pos) (tD X (bI f)):=
 peW (XQ h) λσ H Q q=>tO (G:=λxs S1=>.ok (.loc S1.length) (S1++[MO.lst xs])) (mk:=.lst) q λH1 P1 α1 S1 ds vs p r hp rp af=>nH r hp rp af
end
section
variable {X:Cx}{a b c e:By}{pos:Fc}{fa fb fc:DE}{ta tb:DT}
noncomputable def xP:D->Sto->Al Ar
 |.non,_=>Ab false
 |.bl b,_=>Ab b
 |.int i,_=>Ab (i != 0)
 |.str x,_=>if x.length<=lim then Ab ((x.length:An) != 0) else none
 |.tup xs,_=>Ab (!xs.isEmpty)
 |.lst xs,_=>Ab (!xs.isEmpty)
 |.dct0,_=>Ab false
 |.loc i,S=>match S[i]? with
  |some (.lst xs)=>Ab (!xs.isEmpty)
  |some (.dct kvs)=>Ab (!kvs.isEmpty)
  |_=>none
 |_,_=>none
theorem qC.isEmpty {K:Aj}{P:Hp}{α:Aa Af}{ds:Aa D}(r:qC K P α ds vs):(!ds.isEmpty)=!vs.isEmpty:=by
 cases ds with
 |nil=>rw[r.nil_inv];rfl
 |cons d ds=>obtain⟨w,ws,rfl,_,_⟩:=r.cons_inv;rfl
theorem w4 {K:Aj}{H P:Hp}(e:qF P H){a:Af}{xs:Aa V}(h:SqT K P a xs):SqT K H a xs:=vF e h
theorem uJ {H P:Hp}{α:Aa Af}{v:V}{d:D}{k:Ar}(r:Rel X.K H P α S)(p:Rep X.K P α d v)(h:xP d S=Ab k):iE X.K v H k:=by
 cases d with
 |non=>simp only[Rep] at p;subst p;cases h;rfl
 |bl b=>simp only[Rep] at p;subst p;cases h;rfl
 |int i=>simp only[Rep] at p;subst p;cases h;rfl
 |str x =>
  simp only[Rep] at p;subst p;obtain⟨hl,rfl⟩:=j8 h;exact⟨by rw[<- zX];exact hl,rfl⟩
 |tup xs =>
  simp only[Rep] at p;obtain⟨a,vs,rfl,q,t⟩:=p;cases h;exact .inr (.inl ⟨vs,w4 r.sub q,t.isEmpty⟩)
 |lst xs =>
  simp only[Rep] at p;obtain⟨a,vs,rfl,q,t⟩:=p;cases h;exact .inl ⟨vs,(xU r.sub q).l,t.isEmpty⟩
 |dct0 =>
  simp only[Rep] at p;obtain⟨a,rfl,q⟩:=p;cases h;exact .inr (.inr ⟨[],r.sub _ _ q,rfl⟩)
 |loc i =>
  simp only[Rep] at p;obtain⟨a,rfl,q⟩:=p;have h:(match S[i]? with|some (.lst xs)=>Ab (!xs.isEmpty)|some (.dct kvs)=>Ab (!kvs.isEmpty)|_=>none)=Ab k:=h
  cases hs:S[i]? with
  |none=>rw[hs] at h;exact nn h
  |some m =>
   rw[hs] at h;cases m with
   |lst xs =>
    cases h;obtain⟨vs,z,t⟩:=r.at' i a _ q hs;exact .inl ⟨vs,.of z,t.isEmpty⟩
   |dct kvs =>
    cases h;obtain⟨vs,z,t⟩:=r.at' i a _ q hs;refine .inr (.inr ⟨vs,z,?_⟩);cases t <;> rfl
   |_=>exact nn h
 |ty n=>exact nn h
 |obj a=>exact nn h
 |exn c=>exact nn h
 |fd ks ds=>exact nn h
 |clo a vs ds=>exact nn h
theorem K5 {pins:Aa (Af × Cu)}{s:Ag}{σ:_L.St}{H P:Hp}{α:Aa Af}{v:V}{d:D}{k:Ar}{Q:Ar->Hp->Prop}(I:Inv X pins σ H s)(r:Rel X.K H P α S)(rv:qG v vv)(p:Rep X.K P α d v)(h:xP d S=Ab k)(q:Q k H) :
  Ap (As X.prog X.w) X.A (truthy vv) (TP X pins σ Q) X.xe s:=bA pins s σ H v vv Q I rv ⟨k,uJ r p h,q⟩
noncomputable def k9 (o:Al Ar)(S:Sto):Res Ar:=match o with
 |some b=>.ok b S
 |none=>.bad
noncomputable def dTr (f:DE):DT:=λenv S=>(f env S).bind λd S1=>k9 (xP d S1) S1
theorem nR {o:Al Ar}{P:Hp}{α:Aa Af}{Ok:Ar->Sto->Prop}(h:qI X P α (k9 o S) Ok):∃ b,o=Ab b/\Ok b S:=by
 cases o with
 |none=>exact Aq h
 |some b=>exact⟨b,rfl,h⟩
theorem TU (ha:PE X a (tD X fa))(he:∀ whole,isTrue a X.env whole=(do let v <- whole;Rv a.pos;holding [v] (truthy v)):=by intro _;rfl):PT X a (tDT X (dTr fa)):=by
 intro pins s σ H Q I h;obtain⟨P,α,env,S,r,re,af⟩:=h;refine isTrue_plain (thn (zO ha I r re af) λvv s1 ⟨v,H1,P1,α1,d,S1,G1,af1⟩=>?_) (he _);obtain⟨k,e1,q⟩:=nR af1;exact K5 G1.inv G1.rel G1.val G1.rep e1 (q H1 P1 α1 G1.rel G1.same G1.pre)
theorem TQ {op:Ut}{g:G2}(ho:OpD X (Cc op) g)(ha:PE X a (tD X fa))(hb:PE X b (tD X fb))(hm:Mk op b=false:=by first|exact pZ _|with_unfolding_all rfl):PT X (.Compare a [op] [b] pos) (tDT X (dTr (d2 g fa fb))):=by
 intro pins s σ H Q I h;obtain⟨P,α,env,S,r,re,af⟩:=h;refine wpAny_isTrue_Compare1 ?_ hm;have key:tD X (d2 g fa fb) σ H (λv H1=>∃ k,iE X.K v H1 k/\Q k H1):=by
  refine⟨P,α,env,S,r,re,?_⟩;have af':qI X P α ((d2 g fa fb env S).bind λd S1=>k9 (xP d S1) S1) (OkT X P α Q):=af;cases q:d2 g fa fb env S with
  |bad=>rw[q] at af';exact af'
  |ex c x S'=>rw[q] at af';exact af'
  |ok d S1 =>
   rw[q] at af';obtain⟨k,e1,qk⟩:=nR (X:=X) af';exact λv H1 P1 α1 r1 e3 e4 rp=>⟨k,uJ r1 rp e1,qk H1 P1 α1 r1 e3 e4⟩
 exact thn (sY ho ha hb I key) λv s1 h1=>thn h1 λu s2 h2=>thn h2 λx s3 ⟨y,H3,I3,r3,k,tk,qk⟩=>bA pins s3 σ H3 y x Q I3 r3 ⟨k,tk,qk⟩
noncomputable def wK (g g':G2)(fa fb fc:DE):DE:=λenv S=>(fa env S).bind λx S1=>(fb env S1).bind λy S2=>(g x y S2).bind λz S3 =>
 match xP z S3 with
 |some true=>(fc env S3).bind λw S4=>g' y w S4
 |some false=>.ok z S3
 |none=>.bad
inductive GotO (X:Cx)(pins:Aa (Af × Cu))(σ : _L.St)(P:Hp)(α : Aa Af)(w:Ac)(s1:Ag){γ : Type}(k:D->Sto->Res γ)(Ok:γ->Sto->Prop):Prop
 |mk (y:V) (H1 P1:Hp) (α1:Aa Af) (d:D) (S1:Sto) (I:Inv X pins σ H1 s1) (rv:qG y w) (r:Rel X.K H1 P1 α1 S1) (rp:Rep X.K P1 α1 d y) (e1:qF P P1) (e2:α<+:α1) (q:qI X P α (k d S1) Ok):GotO X pins σ P α w s1 k Ok
theorem eA {γ:Type}{f:Ac->Ac->Ln Ac}{g:G2}{k:D->Sto->Res γ}{Ok:γ->Sto->Prop}{pins:Aa (Af × Cu)}{σ:_L.St}{H:Hp}{s:Ag}{P:Hp}{α:Aa Af}{v u:V}{uu:Ac}{a b:D}(ho:OpD X f g)(I:Inv X pins σ H s)(r:Rel X.K H P α S)
  (rv:qG v vv) (ru:qG u uu) (pa:Rep X.K P α a v) (pb:Rep X.K P α b u) (af:qI X P α ((g a b S).bind k) Ok) :
  Ap (As X.prog X.w) X.A (f vv uu) (λw s1=>GotO X pins σ P α w s1 k Ok) X.xe s:=by
 refine thn (ho pins σ H s P α S v u vv uu a b (λy H1=>∃ P1 α1 d S1,Rel X.K H1 P1 α1 S1/\Rep X.K P1 α1 d y/\qF P P1/\α<+:α1/\qI X P α (k d S1) Ok) I r rv ru pa pb ?_) λw s1 ⟨y,H1,I1,r1,P1,α1,d,S1,q1,q2,q3,q4,q5⟩=>⟨y,H1,P1,α1,d,S1,I1,r1,q1,q2,q3,q4,q5⟩;cases q:g a b S with
 |bad=>rw[q] at af;exact af
 |ex c x S'=>rw[q] at af;exact af
 |ok d S' =>
  rw[q] at af;exact λv H' P' α' r' e1 e2 rp=>⟨P',α',d,S',r',rp,e1,e2,af⟩
theorem qI.base' {β:Type}{P P1:Hp}{α α1:Aa Af}{r:Res β}{Ok Ok1:β->Sto->Prop}(e:qF P P1)(h:α<+:α1)(ho:∀ d S,Ok d S->Ok1 d S)(k:qI X P α r Ok):qI X P1 α1 r Ok1:=by
 cases r with
 |ok d S=>exact ho d S k
 |ex c x S=>exact λu s' q=>k u s' (q.base e h)
 |bad=>exact k
theorem Y5 {op op':Ut}{g g':G2}(ho:OpD X (Cc op) g)(ho':OpD X (Cc op') g')(ha:PE X a (tD X fa))(hb:PE X b (tD X fb))(hc:PE X c (tD X fc))
  (hm:Yp [op,op'] [b,c]=false:=by with_unfolding_all rfl):PE X (.Compare a [op,op'] [b,c] pos) (tD X (wK g g' fa fb fc)):=by
 intro pins s σ H Q I h;obtain⟨P,α,env,S,r,re,af⟩:=h;refine Compare_chain (thn (zO ha I r re af) λvv s1 ⟨v,H1,P1,α1,d,S1,G1,af1⟩=>chain_link (thn (zO hb G1.inv G1.rel G1.env (qV.base G1.same G1.pre af1)) λuu s2 ⟨u,H2,P2,α2,d',S2,G2,af2⟩ =>
  thn (eA ho G2.inv G2.rel G1.val G2.val (Rep.mono G2.same G2.pre _ _ G1.rep) G2.rep (qV.base G2.same G2.pre af2)) λw s3 ⟨y,H3,P3,α3,z,S3,I3,r3,rl3,rp3,e3,e4,af3⟩=>?_)) hm
 cases ht:xP z S3 with
 |none=>simp only[ht] at af3;exact Aq af3
 |some k =>
  simp only[ht] at af3;have tv:=uJ rl3 rp3 ht;refine thn (bA pins s3 σ H3 y w (λk' H'=>k'=k/\H'=H3) I3 r3 ⟨k,tv,rfl,rfl⟩) λk' s4 ⟨H4,I4,hk,hH⟩=>?_;subst hk;subst hH;cases k' with
  |false=>exact ite_ff ⟨y,H4,I4,r3,af3 y H4 P3 α3 rl3 e3 e4 rp3⟩
  |true =>
   refine ite_tt (chain_last (thn (zO hc I4 rl3 (G2.env.mono e3 e4) (qV.base e3 e4 af3)) λww s5 ⟨w',H5,P5,α5,d5,S5,G5,af5⟩=>?_));exact ho' pins σ H5 s5 P5 α5 S5 u w' uu ww d' d5 Q G5.inv G5.rel G2.val G5.val (Rep.mono (e3.trans G5.same) (e4.trans G5.pre) _ _ G2.rep) G5.rep (qV.base G5.same G5.pre af5)
theorem YH {op op':Ut}{g g':G2}(ho:OpD X (Cc op) g)(ho':OpD X (Cc op') g')(ha:PE X a (tD X fa))(hb:PE X b (tD X fb))(hc:PE X c (tD X fc))
  (hm:Yp [op,op'] [b,c]=false:=by with_unfolding_all rfl):PT X (.Compare a [op,op'] [b,c] pos) (tDT X (dTr (wK g g' fa fb fc))):=by
 intro pins s σ H Q I h;obtain⟨P,α,env,S,r,re,af⟩:=h;have af':qI X P α ((wK g g' fa fb fc env S).bind λd S1=>k9 (xP d S1) S1) (OkT X P α Q):=af;have assoc:(wK g g' fa fb fc env S).bind (λd S1=>k9 (xP d S1) S1)=(fa env S).bind λx S1=>(fb env S1).bind λy S2=>(g x y S2).bind λz S3 =>
   match xP z S3 with
   |some true=>((fc env S3).bind λw S4=>g' y w S4).bind λd S1=>k9 (xP d S1) S1
   |some false=>.ok false S3
   |none=>.bad:=by
  unfold wK;cases fa env S with
  |bad=>rfl
  |ex _ _ _=>rfl
  |ok x S1 =>
   show Res.bind (Res.bind (fb env S1) _) _=Res.bind (fb env S1) _;cases fb env S1 with
   |bad=>rfl
   |ex _ _ _=>rfl
   |ok y S2 =>
    show Res.bind (Res.bind (g x y S2) _) _=Res.bind (g x y S2) _;cases g x y S2 with
    |bad=>rfl
    |ex _ _ _=>rfl
    |ok z S3 =>
     show Res.bind (match xP z S3 with|some true=>(fc env S3).bind λw S4=>g' y w S4|some false=>.ok z S3|none=>.bad) _=_
     cases ht:xP z S3 with
     |none=>simp only[ht,Res.bind]
     |some k=>cases k <;> simp only[ht,Res.bind,k9]
 rw[assoc] at af';refine isTrue_chain (thn (zO ha I r re af') λvv s1 ⟨v,H1,P1,α1,d,S1,G1,af1⟩=>test_link (thn (zO hb G1.inv G1.rel G1.env (wI.base G1.same G1.pre af1)) λuu s2 ⟨u,H2,P2,α2,d',S2,G2,af2⟩ =>
  thn (eA ho G2.inv G2.rel G1.val G2.val (Rep.mono G2.same G2.pre _ _ G1.rep) G2.rep (wI.base G2.same G2.pre af2)) λw s3 ⟨y,H3,P3,α3,z,S3,I3,r3,rl3,rp3,e3,e4,af3⟩=>?_)) hm
 cases ht:xP z S3 with
 |none=>simp only[ht] at af3;exact Aq af3
 |some k =>
  simp only[ht] at af3;have tv:=uJ rl3 rp3 ht;refine thn (bA pins s3 σ H3 y w (λk' H'=>k'=k/\H'=H3) I3 r3 ⟨k,tv,rfl,rfl⟩) λk' s4 ⟨H4,I4,hk,hH⟩=>?_;subst hk;subst hH;cases k' with
  |false=>exact ite_ff ⟨H4,I4,af3 H4 P3 α3 rl3 e3 e4⟩
  |true =>
   have af4:qI X P2 α2 ((fc env S3).bind λw S4=>(g' d' w S4).bind λd S1=>k9 (xP d S1) S1) (OkT X P2 α2 Q):=by
    have e:((fc env S3).bind λw S4=>(g' d' w S4).bind λd S1=>k9 (xP d S1) S1)=(((fc env S3).bind λw S4=>g' d' w S4).bind λd S1=>k9 (xP d S1) S1):=by
     cases fc env S3 <;> rfl
    rw[e];exact af3
   refine ite_tt (test_last (thn (zO hc I4 rl3 (G2.env.mono e3 e4) (wI.base e3 e4 af4)) λww s5 ⟨w',H5,P5,α5,d5,S5,G5,af5⟩ =>
    thn (eA ho' G5.inv G5.rel G2.val G5.val (Rep.mono (e3.trans G5.same) (e4.trans G5.pre) _ _ G2.rep) G5.rep (wI.base G5.same G5.pre af5)) λx6 s6 ⟨y6,H6,P6,α6,d6,S6,I6,r6,rl6,rp6,e5,e6,af6⟩=>?_))
   obtain⟨k6,q6,z6⟩:=nR af6;exact K5 I6 rl6 r6 rp6 q6 (z6 H6 P6 α6 rl6 e5 e6)
noncomputable def wH (t:DT):DT:=λenv S=>(t env S).bind λb S1=>.ok (!b) S1
noncomputable def wG (t u:DT):DT:=λenv S=>(t env S).bind λb S1=>if b then u env S1 else .ok false S1
noncomputable def vX (t u:DT):DT:=λenv S=>(t env S).bind λb S1=>if b then .ok true S1 else u env S1
theorem TR (ha:PT X a (tDT X ta)):PT X (.UnaryOp .Not a pos) (tDT X (wH ta)):=by
 intro pins s σ H Q I h;obtain⟨P,α,env,S,r,re,af⟩:=h;refine isTrue_not (thn (pR (λQ' q=>ha pins s σ H Q' I q) r re af) λb s1 ⟨H1,P1,α1,S1,I1,r1,re1,e1,e2,af1⟩=>⟨H1,I1,af1 H1 P1 α1 r1 e1 e2⟩)
def PWD (X:Cx)(e:By)(t:DT):Prop:=PW X e (tDT X t)
theorem PWD.pt {t:DT}(h:PWD X e t):PT X e (tDT X t):=h _
theorem G9 (ha:PT X a (tDT X ta)):PWD X (.BoolOp .And [a] pos) ta:=BC ha
theorem TX (ha:PT X a (tDT X ta)):PWD X (.BoolOp .Or [a] pos) ta:=D6 ha
theorem TV {rest:Aa By}(ha:PT X a (tDT X ta))(hb:PWD X (.BoolOp .And (b::rest) pos) tb):PWD X (.BoolOp .And (a::b::rest) pos) (wG ta tb):=by
 intro wh pins s σ H Q I h;obtain⟨P,α,env,S,r,re,af⟩:=h;refine isTrue_and (thn (pR (λQ' q=>ha pins s σ H Q' I q) r re af) λk s1 ⟨H1,P1,α1,S1,I1,r1,re1,e1,e2,af1⟩=>?_);cases k with
 |true=>exact hb wh pins s1 σ H1 Q I1 ⟨P1,α1,env,S1,r1,re1,wI.base e1 e2 af1⟩
 |false=>exact⟨H1,I1,af1 H1 P1 α1 r1 e1 e2⟩
theorem RX {rest:Aa By}(ha:PT X a (tDT X ta))(hb:PWD X (.BoolOp .Or (b::rest) pos) tb):PWD X (.BoolOp .Or (a::b::rest) pos) (vX ta tb):=by
 intro wh pins s σ H Q I h;obtain⟨P,α,env,S,r,re,af⟩:=h;refine isTrue_or (thn (pR (λQ' q=>ha pins s σ H Q' I q) r re af) λk s1 ⟨H1,P1,α1,S1,I1,r1,re1,e1,e2,af1⟩=>?_);cases k with
 |true=>exact⟨H1,I1,af1 H1 P1 α1 r1 e1 e2⟩
 |false=>exact hb wh pins s1 σ H1 Q I1 ⟨P1,α1,env,S1,r1,re1,wI.base e1 e2 af1⟩
noncomputable def vW (f g:DE):DE:=λenv S=>(f env S).bind λx S1=>match xP x S1 with
 |some true=>g env S1
 |some false=>.ok x S1
 |none=>.bad
noncomputable def Y3 (f:DE):DE:=λenv S=>(f env S).bind λx S1=>match xP x S1 with
 |some b=>.ok (.bl (!b)) S1
 |none=>.bad
theorem MY  (h:PE X a (tD X fa)):PE X (.BoolOp op [a] pos) (tD X fa):=LV h
theorem R6 {pins:Aa (Af × Cu)}{s:Ag}{σ:_L.St}{H:Hp}{v:V}{k:Ar}{R:Ar->Ag->Prop}(I:Inv X pins σ H s)(rv:qG v vv)(t:iE X.K v H k)(h:∀ s',Inv X pins σ H s'->R k s') :
  Ap (As X.prog X.w) X.A (truthy vv) R X.xe s:=thn (bA pins s σ H v vv (λk' H'=>k'=k/\H'=H) I rv ⟨k,t,rfl,rfl⟩) λk' s4 ⟨H4,I4,hk,hH⟩=>by subst hk;subst hH;exact h s4 I4
theorem MP {rest:Aa By}(ha:PE X a (tD X fa))(hb:PE X (.BoolOp .And (b::rest) pos) (tD X fb)):PE X (.BoolOp .And (a::b::rest) pos) (tD X (vW fa fb)):=by
 intro pins s σ H Q I h;obtain⟨P,α,env,S,r,re,af⟩:=h;refine BoolOp_and (thn (zO ha I r re af) λvv s1 ⟨v,H1,P1,α1,d,S1,G1,af1⟩=>?_);cases ht:xP d S1 with
 |none=>simp only[ht] at af1;exact Aq af1
 |some k =>
  simp only[ht] at af1;refine R6 G1.inv G1.val (uJ G1.rel G1.rep ht) λs2 I2=>?_;cases k with
  |true=>exact hb pins s2 σ H1 Q I2 ⟨P1,α1,env,S1,G1.rel,G1.env,qV.base G1.same G1.pre af1⟩
  |false=>exact⟨v,H1,I2,G1.val,af1 v H1 P1 α1 G1.rel G1.same G1.pre G1.rep⟩
theorem MX (ha:PE X a (tD X fa)):PE X (.UnaryOp .Not a pos) (tD X (Y3 fa)):=by
 intro pins s σ H Q I h;obtain⟨P,α,env,S,r,re,af⟩:=h;refine UnaryOp_ (thn (zO ha I r re af) λvv s1 ⟨v,H1,P1,α1,d,S1,G1,af1⟩=>?_);cases ht:xP d S1 with
 |none=>simp only[ht] at af1;exact Aq af1
 |some k =>
  simp only[ht] at af1;exact not_of (R6 G1.inv G1.val (uJ G1.rel G1.rep ht) λs2 I2=>⟨.bl (!k),H1,I2,rfl,af1 (.bl (!k)) H1 P1 α1 G1.rel G1.same G1.pre (by simp only[Rep])⟩)
end
@[inline] def Res.toS {β:Type}(env:qB)(r:Res β)(k:β->Sto->Out):Out:=
 match r with
 |.ok d S=>k d S
 |.ex c x S=>.ex c x env S
 |.bad=>.bad
section
variable {X:Cx}{a b c e:By}{pos:Fc}{fa fb fc:DE}{ta tb:DT}{f g:DS}{st:Gd}{rest:Aa Gd}
noncomputable def zN:DS:=λenv S=>.nx env S
noncomputable def qM (f g:DS):DS:=λenv S=>match f env S with
 |.nx env1 S1=>g env1 S1
 |o=>o
theorem TJ:PSs X [] (tDS X zN):=D4 B9 λD σ H ⟨P,α,env,S,r,re,af⟩=>af σ H P α r re (qF.refl _) (Be _)
theorem KY (h1:PS X st (tDS X f))(h2:PSs X rest (tDS X g)):PSs X (st::rest) (tDS X (qM f g)):=D4 (VZ h1 h2) λD σ H ⟨P,α,env,S,r,re,af⟩=>by
 refine⟨P,α,env,S,r,re,?_⟩;unfold qM at af;cases q:f env S with
 |nx env1 S1 =>
  rw[q] at af;exact λσ' H' P' α' r' re' e1 e2=>⟨P',α',env1,S1,r',re',z9.base e1 e2 af⟩
 |rt d S1=>rw[q] at af;exact af
 |bk env1 S1=>rw[q] at af;exact af
 |ct env1 S1=>rw[q] at af;exact af
 |ex c x env1 S1=>rw[q] at af;exact af
 |bad=>rw[q] at af;exact af
theorem TK (h1:PS X st (tDS X f)):PSs X [st] (tDS X f):=BA h1
theorem xH {β:Type}{P:Hp}{α:Aa Af}{env:qB}{r:Res β}{k:β->Sto->Out}{D:Ends}(h:z9 X P α (r.toS env k) D):qI X P α r λd S=>z9 X P α (k d S) D:=by
 cases r with
 |ok d S=>exact h
 |ex c x S=>exact h
 |bad=>exact h
inductive GotS (X:Cx)(pins:Aa (Af × Cu))(σ : _L.St)(env:qB)(P:Hp)(α : Aa Af)(u:Ac)(s1:Ag)(k:D->Sto->Out)(E:Ends):Prop
 |mk (v:V) (H1 P1:Hp) (α1:Aa Af) (d:D) (S1:Sto) (G:Got X pins σ env P α u s1 v H1 P1 α1 d S1) (q:z9 X P1 α1 (k d S1) E):GotS X pins σ env P α u s1 k E
theorem mG {k:D->Sto->Out}{pins:Aa (Af × Cu)}{s:Ag}{σ:_L.St}{H P:Hp}{α:Aa Af}{env:qB}{D:Ends}(he:PE X e (tD X fa))(I:Inv X pins σ H s)(r:Rel X.K H P α S)
  (re:zG X.K P α σ env) (af:z9 X P α ((fa env S).toS env k) D) :
  Ap (As X.prog X.w) X.A (eval e X.env) (λu s1=>GotS X pins σ env P α u s1 k D) X.xe s:=by
 have af1:qI X P α ((fa env S).bind λd S=>.ok d S) λd S=>z9 X P α (k d S) D:=by
  have:=xH af;cases q:fa env S <;> rw[q] at this <;> exact this
 exact thn (zO he I r re af1) λu s1 ⟨v,H1,P1,α1,d,S1,G,q⟩=>⟨v,H1,P1,α1,d,S1,G,z9.base G.same G.pre q⟩
noncomputable def xM (f:DE):DS:=λenv S=>(f env S).toS env λ_ S1=>.nx env S1
theorem KZ (he:PE X e (tD X fa))(hs:Nw e none pos.line X.env=pure false:=by rfl):PS X (.Expr e pos) (tDS X (xM fa)):=by
 intro pins s σ H D I h;obtain⟨P,α,env,S,r,re,af⟩:=h;exact wpAny_Expr_any (thn (mG he I r re af) λv s1 ⟨x,H1,P1,α1,d,S1,G,q⟩=>⟨σ,H1,G.inv,q σ H1 P1 α1 G.rel G.env (qF.refl _) (Be _)⟩) I.quiet hs
noncomputable def qY (f:DE):DS:=λenv S=>(f env S).toS env λd S1=>.rt d S1
theorem TM (he:PE X e (tD X fa)):PS X (.Return (Ab e) pos) (tDS X (qY fa)):=by
 intro pins s σ H D I h;obtain⟨P,α,env,S,r,re,af⟩:=h;exact wpAny_Return_some (thn (mG he I r re af) λv s1 ⟨x,H1,P1,α1,d,S1,G,q⟩=>⟨x,σ,H1,G.inv,G.val,q x H1 P1 α1 G.rel (qF.refl _) (Be _) G.rep⟩)
noncomputable def sIf (t:DT)(f g:DS):DS:=λenv S=>(t env S).toS env λb S1=>if b then f env S1 else g env S1
theorem RV {as bs:Aa Gd}(hc:PT X c (tDT X ta))(ha:PSs X as (tDS X f))(hb:PSs X bs (tDS X g)):PS X (.If c as bs pos) (tDS X (sIf ta f g)):=by
 intro pins s σ H D I h;obtain⟨P,α,env,S,r,re,af⟩:=h;have af1:qI X P α ((ta env S).bind λd S=>.ok d S) λb S=>z9 X P α (if b then f env S else g env S) D:=by
  have:=xH af;cases q:ta env S <;> rw[q] at this <;> exact this
 refine wpAny_If (thn (pR (λQ' q=>hc pins s σ H Q' I q) r re af1) λk s1 ⟨H1,P1,α1,S1,I1,r1,re1,e1,e2,af2⟩=>?_);cases k with
 |true=>exact ha pins s1 σ H1 D I1 ⟨P1,α1,env,S1,r1,re1,z9.base e1 e2 af2⟩
 |false=>exact hb pins s1 σ H1 D I1 ⟨P1,α1,env,S1,r1,re1,z9.base e1 e2 af2⟩
abbrev DG:=D->qB->Sto->Res qB
abbrev DGs:=Aa D->qB->Sto->Res qB
def OkE (X:Cx)(P:Hp)(α : Aa Af)(Q:_L.St->Hp->Prop)(env':qB)(S':Sto):Prop:=∀ σ' H' P' α',Rel X.K H' P' α' S'->zG X.K P' α' σ' env'->qF P P'->α<+:α'->Q σ' H'
def tDG (X:Cx)(g:DG):TG:=λv σ H Q=>∃ P α env S d,Rel X.K H P α S/\zG X.K P α σ env/\Rep X.K P α d v/\qI X P α (g d env S) (OkE X P α Q)
def eK (X:Cx)(g:DGs):TGs:=λvs σ H Q=>∃ P α env S ds,Rel X.K H P α S/\zG X.K P α σ env/\qC X.K P α ds vs/\qI X P α (g ds env S) (OkE X P α Q)
theorem zG.set {K:Aj}{P:Hp}{α:Aa Af}{σ:_L.St}{env:qB}{d:D}{v:V}(re:zG K P α σ env)(i:Ai)(rp:Rep K P α d v):zG K P α (σ.set i (Ab v)) (env.set i (Ab d)):=by
 refine⟨by simp[re.1],λj d' e=>?_⟩
 by_cases hj:i=j
 .subst hj
  by_cases hi:i<env.length
  .rw[Ed hi] at e
   cases e;exact⟨v,by rw[Ed (by rw[<- re.1];exact hi)],rp⟩
  .rw[List.getElem?_eq_none (by simp;omega)] at e;cases e
 .rw[Ce hj] at e ⊢
  exact re.2 j d' e
noncomputable def gNm (i:Ai):DG:=λd env S=>.ok (env.set i (Ab d)) S
theorem KO {i:Ai}{x:Au}(hN:X.N.Nodup)(hi:X.N[i]? = Ab x:=by rfl)(hx:Loc X.env.scope x:=by first|exact Zl rfl|exact Xa rfl)(hf:X.fn x=true\/X.env.scope.names.lookup x=Ab .local:=by first|exact .inl rfl|exact .inr rfl|assumption):PG X (.Name x pos) (tDG X (gNm i)):=by
 intro pins s σ H v u Q I rv h;obtain⟨P,α,env,S,d,r,re,rp,af⟩:=h;exact B3 hN hi hx hf pins s σ H v u Q I rv (af _ H P α r (re.set i rp) (qF.refl _) (Be _))
noncomputable def xJ:DGs:=λds env S=>match ds with
 |[]=>.ok env S
 |_=>.bad
noncomputable def qX (g:DG)(gs:DGs):DGs:=λds env S=>match ds with
 |d::r=>(g d env S).bind λenv1 S1=>gs r env1 S1
 |[]=>.bad
theorem KP:PGs X [] (eK X xJ):=by
 intro pins s σ H vs us Q I rv h;obtain⟨P,α,env,S,ds,r,re,rp,af⟩:=h;cases ds with
 |nil=>exact B4 pins s σ H vs us Q I rv ⟨rp.nil_inv,af σ H P α r re (qF.refl _) (Be _)⟩
 |cons d ds=>exact Aq af
theorem Y9 {es:Aa By}{g:DG}{gs:DGs}(h1:PG X e (tDG X g))(h2:PGs X es (eK X gs))(hs:(Hb (e::es) X.env).map (·.2)=assign e X.env::(Hb es X.env).map (·.2):=by rfl):PGs X (e::es) (eK X (qX g gs)):=by
 intro pins s σ H vs us Q I rv h;obtain⟨P,α,env,S,ds,r,re,rp,af⟩:=h;cases ds with
 |nil=>exact Aq af
 |cons d ds =>
  obtain⟨w,ws,rfl,p1,p2⟩:=rp.cons_inv;refine VW h1 h2 hs pins s σ H _ us Q I rv ⟨w,ws,rfl,P,α,env,S,d,r,re,p1,?_⟩;have af':qI X P α ((g d env S).bind λenv1 S1=>gs ds env1 S1) (OkE X P α Q):=af;cases q:g d env S with
  |bad=>rw[q] at af';exact af'
  |ex c x S'=>rw[q] at af';exact af'
  |ok env1 S1 =>
   rw[q] at af';intro σ' H' P' α' r' re' e1 e2;refine⟨P',α',env1,S1,ds,r',re',qC.mono e1 e2 _ _ p2,qI.base' e1 e2 (λenv' S' ok σ2 H2 P2 α2 r2 re2 e3 e4=>ok σ2 H2 P2 α2 r2 re2 (e1.trans e3) (e2.trans e4)) af'⟩
noncomputable def gTp (n:Ai)(gs:DGs):DG:=λd env S=>match d with
 |.tup xs=>if xs.length=n then gs xs env S else .bad
 |_=>.bad
set_option tactic.hygienic true in
theorem T6 {es:Aa By}{k:Ai}{gs:DGs}{n:Ai}(hc:X.calm=true)(h:PGs X es (eK X gs))(hn:(Hb es X.env).length=n:=by rfl)(hst:(Hb es X.env).findIdx? (·.1)=none:=by rfl):PG X (.Tuple es k pos) (tDG X (gTp n gs)):=by
 intro pins s σ H v u Q I rv hw;obtain⟨P,α,env,S,d,r,re,rp,af⟩:=hw;cases d with
 |tup xs =>
  simp only[Rep] at rp;obtain⟨a,vs,rfl,q,t⟩:=rp;simp only[gTp] at af
  split at af
  .rename_i hl
   exact LZ hc h hn hst pins s σ H _ u Q I rv ⟨a,vs,rfl,w4 r.sub q,by rw[<- t.length];exact hl,P,α,env,S,xs,r,re,t,af⟩
  .exact Aq af
 |_=>exact Aq af
abbrev G3:=D->D->D->Sto->Res Vi
def OkU (X:Cx)(P:Hp)(α : Aa Af)(Q:Hp->Prop)(_:Vi)(S':Sto):Prop:=∀ H' P' α',Rel X.K H' P' α' S'->qF P P'->α<+:α'->Q H'
def sE (X:Cx)(g:G3):FZ:=λo i v H Q=>∃ P α S a b d,Rel X.K H P α S/\Rep X.K P α a o/\Rep X.K P α b i/\Rep X.K P α d v/\qI X P α (g a b d S) (OkU X P α Q)
noncomputable def gSb (fo fi:DE)(g:G3):DG:=λd env S=>(fo env S).bind λo S1=>(fi env S1).bind λi S2=>(g o i d S2).bind λ_ S3=>.ok env S3
theorem T4 {o i:By}{fo fi:DE}{g:G3}(ho:PE X o (tD X fo))(hi:PE X i (tD X fi))(hs:sI X (sE X g))
  (ha:∀ v,assign (.Subscript o i pos) X.env v=(do
   let ov <- holding [v] (eval o X.env)
   let iv <- holding [v,ov] (eval i X.env)
   Rv pos
   holding [v,ov,iv] (setItem ov iv v)
   release [v,ov,iv] []):=by intro _;rfl):PG X (.Subscript o i pos) (tDG X (gSb fo fi g)):=by
 intro pins s σ H v u Q I rv h;obtain⟨P,α,env,S,d,r,re,rp,af⟩:=h;rw[ha];refine Ad (Ej (thn (zO ho I r re af) λov s1 ⟨x,H1,P1,α1,d1,S1,G1,af1⟩=>?_));refine Ad (Ej (thn (zO hi G1.inv G1.rel G1.env (P:=P1) (α:=α1) (Ok:=OkE X P1 α1 Q) (qI.base' G1.same G1.pre (λenv' S' ok σ2 H2 P2 α2 r2 re2 e3 e4=>ok σ2 H2 P2 α2 r2 re2 (G1.same.trans e3) (G1.pre.trans e4)) af1)) λiv s2 ⟨y,H2,P2,α2,d2,S2,G2,af2⟩=>?_));refine Ad (Mj (Ad (Ej (thn (hs pins s2 σ H2 x y v ov iv u (λH3=>Q σ H3) G2.inv G1.val G2.val rv ⟨P2,α2,S2,d1,d2,d,G2.rel,Rep.mono G2.same G2.pre _ _ G1.rep,G2.rep,Rep.mono (G1.same.trans G2.same) (G1.pre.trans G2.pre) _ _ rp,?_⟩) λ_ s3 ⟨H3,I3,q3⟩=>?_))))
 .cases q:g d1 d2 d S2 with
  |bad=>rw[q] at af2;exact af2
  |ex c x S'=>rw[q] at af2;exact λu s' z=>af2 u s' (z.base G2.same G2.pre)
  |ok w S3 =>
   rw[q] at af2;exact λH' P' α' r' e1 e2=>af2 σ H' P' α' r' (G2.env.mono e1 e2) (G2.same.trans e1) (G2.pre.trans e2)
 .exact wpAny_release ⟨σ,H3,I3,q3⟩
noncomputable def z0 (f:DE)(g:DG):DS:=λenv S=>(f env S).toS env λd S1=>(g d env S1).toS env λenv' S2=>.nx env' S2
theorem QC {g:DG}{d:D}{env:qB}{P:Hp}{α:Aa Af}{D':Ends}(h:z9 X P α ((g d env S).toS env λenv' S2=>.nx env' S2) D'):qI X P α (g d env S) (OkE X P α D'.nx):=by
 cases q:g d env S with
 |bad=>rw[q] at h;exact h
 |ex c x S'=>rw[q] at h;exact h
 |ok env1 S1=>rw[q] at h;exact h
theorem TB {tg:By}{g:DG}(he:PE X e (tD X fa))(hg:PG X tg (tDG X g))(hs:Mi [tg] e pos.line X.env=pure false:=by rfl)(hw:Mf [tg] e X.env=pure none:=by rfl)
  (h1:(Hb [tg] X.env).map (·.2)=[assign tg X.env]:=by rfl):PS X (.Assign [tg] e pos) (tDS X (z0 fa g)):=by
 intro pins s σ H D I h;obtain⟨P,α,env,S,r,re,af⟩:=h;refine wpAny_Assign_stores (thn (mG he I r re af) λv s1 ⟨x,H1,P1,α1,d,S1,G,q⟩=>?_) hs hw;rw[h1];exact thn (hg pins s1 σ H1 x v _ G.inv G.val ⟨P1,α1,env,S1,d,G.rel,G.env,G.rep,QC q⟩) λ_ s2 q=>q
theorem TN {i:Ai}{x:Au}{pos':Fc}(hN:X.N.Nodup)(he:PE X e (tD X fa))(hi:X.N[i]? = Ab x:=by rfl)(hx:Loc X.env.scope x:=by first|exact Zl rfl|exact Xa rfl)(hs:Nw e (Ab (.Name x pos')) pos.line X.env=pure false:=by rfl)
  (hf:X.fn x=true\/X.env.scope.names.lookup x=Ab .local:=by first|exact .inl rfl|exact .inr rfl|assumption):PS X (.Assign [.Name x pos'] e pos) (tDS X (z0 fa (gNm i))):=by
 intro pins s σ H D I h;obtain⟨P,α,env,S,r,re,af⟩:=h;refine wpAny_Assign_Name (thn (mG he I r re af) λv s1 ⟨y,H1,P1,α1,d,S1,G,q⟩=>?_) hs;exact jH G.inv hN hi hx G.val (λs2 I2=>⟨_,H1,I2,q _ H1 P1 α1 G.rel (G.env.set i G.rep) (qF.refl _) (Be _)⟩) hf
noncomputable def XO (i j:Ai)(env:qB)(S1:Sto):Aa D->Out
 |[x,y]=>.nx ((env.set i (Ab x)).set j (Ab y)) S1
 |_=>.bad
noncomputable def gY (i j:Ai)(f:DA):DS:=λenv S=>(f env S).toS env λds S1=>XO i j env S1 ds
theorem TL {i j:Ai}{x y:Au}{f:DA}{px py pt:Fc} {kt k2 pt2} (hc:X.calm=true) (hN:X.N.Nodup) (ha:PA X [a,b] (tDA X f)) (hi:X.N[i]? = Ab x:=by rfl) (hj:X.N[j]? = Ab y:=by rfl) (hij:i≠j:=by decide)
  (hx:X.env.scope.names.lookup x=Ab .local:=by rfl) (hy:X.env.scope.names.lookup y=Ab .local:=by rfl)
  (hw:Mf [.Tuple [.Name x px,.Name y py] kt pt] (.Tuple [a,b] k2 pt2) X.env=pure (Ab [x,y]):=by rfl)
  (hs:Mi [.Tuple [.Name x px,.Name y py] kt pt] (.Tuple [a,b] k2 pt2) pos.line X.env=pure false:=by rfl) :
  PS X (.Assign [.Tuple [.Name x px,.Name y py] kt pt] (.Tuple [a,b] k2 pt2) pos) (tDS X (gY i j f)):=psW (D3 hc hN hi hj hij hx hy ha hw hs) λD σ H ⟨P,α,env,S,r,re,af⟩=>by
 refine⟨P,α,env,S,r,re,?_⟩;have af1:=xH af;cases q:f env S with
 |bad=>rw[q] at af1;exact af1
 |ex c x S'=>rw[q] at af1;exact af1
 |ok ds S1 =>
  rw[q] at af1;intro vs H' P' α' r' e1 e2 rp;have af2:z9 X P α (XO i j env S1 ds) D:=af1;cases ds with
  |nil=>exact Aq af2
  |cons d ds=>cases ds with
   |nil=>exact Aq af2
   |cons d' ds=>cases ds with
    |cons _ _=>exact Aq af2
    |nil =>
     obtain⟨w,ws,rfl,p1,t⟩:=rp.cons_inv;obtain⟨w',ws',rfl,p2,t⟩:=t.cons_inv;rw[t.nil_inv];exact⟨w,w',rfl,af2 _ _ P' α' r' (((re.mono e1 e2).set i p1).set j p2) e1 e2⟩
end
structure ItD (K:Aj)(J:It)(P:Hp)(α : Aa Af)(ds:Aa D):Prop where
 go:∀ i H P1 α1 S,i<ds.length->Rel K H P1 α1 S->qF P P1->α<+:α1->J.go i H
 yld:∀ i H x H' P1 α1 S,i<ds.length->Rel K H P1 α1 S->qF P P1->α<+:α1->J.yld i H x H'->∃ P2 d,ds[i]? = Ab d/\Rel K H' P2 α1 S/\qF P1 P2/\Rep K P2 α1 d x
 stop:∀ i H P1 α1 S,ds.length<=i->Rel K H P1 α1 S->qF P P1->α<+:α1->J.stop i H
abbrev DI:=qB->Sto->Res (Aa D)
def OkI (X:Cx)(P:Hp)(α : Aa Af)(R:It->Hp->Prop)(ds:Aa D)(S':Sto):Prop:=∀ J H' P' α',Rel X.K H' P' α' S'->qF P P'->α<+:α'->ItD X.K J P' α' ds->R J H'
inductive tDI (X:Cx)(f:DI)(σ : _L.St)(H:Hp)(R:It->Hp->Prop):Prop
 |mk (P:Hp) (α : Aa Af) (env:qB) (S:Sto) (r:Rel X.K H P α S) (re:zG X.K P α σ env) (af:qI X P α (f env S) (OkI X P α R)):tDI X f σ H R
noncomputable def yO {β:Type}(o:Al β)(S:Sto):Res β:=match o with
 |some b=>.ok b S
 |none=>.bad
theorem vE {X:Cx}{β:Type}{o:Al β}{P:Hp}{α:Aa Af}{Ok:β->Sto->Prop}(h:qI X P α (yO o S) Ok):∃ b,o=Ab b/\Ok b S:=by
 cases o with
 |none=>exact Aq h
 |some b=>exact⟨b,rfl,h⟩
theorem wO {X:Cx}{β:Type}{c:Prop}[Ju c]{r:Res β}{P:Hp}{α : Aa Af}{Ok:β->Sto->Prop}(h:qI X P α (if c then r else .bad) Ok):c/\qI X P α r Ok:=by
 by_cases z:c
 .rw[Bd z] at h;exact⟨z,h⟩
 .rw[Bf z] at h;exact Aq h
theorem XN {X:Cx}{β:Type}{ds:Aa D}{g:D->Res β}{P:Hp}{α:Aa Af}{Ok:β->Sto->Prop}(h:qI X P α (match ds with|[d]=>g d|_=>.bad) Ok):∃ d,ds=[d]/\qI X P α (g d) Ok:=by
 cases ds with
 |nil=>exact Aq h
 |cons d ds =>
  cases ds with
  |nil=>exact⟨d,rfl,h⟩
  |cons _ _=>exact Aq h
theorem nG {β:Type}{i:Ai}{f:Aa D->Al β}{g:Aa (Key × D)->Al β}{b:β}(h:(match S[i]? with|some (.lst xs)=>f xs|some (.dct kvs)=>g kvs|_=>none)=Ab b):(∃ xs,S[i]? = Ab (.lst xs)/\f xs=Ab b)\/∃ kvs,S[i]? = Ab (.dct kvs)/\g kvs=Ab b:=by
 cases e:S[i]? with
 |none=>rw[e] at h;exact nn h
 |some m =>
  rw[e] at h;cases m with
  |lst xs=>exact .inl ⟨xs,rfl,h⟩
  |dct kvs=>exact .inr ⟨kvs,rfl,h⟩
  |_=>exact nn h
theorem NR {β:Type}{i:Ai}{f:Aa D->Al β}{b:β}(h:(match S[i]? with|some (.lst xs)=>f xs|_=>none)=Ab b):∃ xs,S[i]? = Ab (.lst xs)/\f xs=Ab b:=by
 cases e:S[i]? with
 |none=>rw[e] at h;exact nn h
 |some m =>
  rw[e] at h;cases m with
  |lst xs=>exact⟨xs,rfl,h⟩
  |_=>exact nn h
inductive ItV (d:D)(xs:Aa D):Prop
 |tup (e:d=.tup xs)
 |lst (e:d=.lst xs)
noncomputable def JW {β:Type}(S:Sto)(n:Ai)(f:Aa D->Res β) : Res β:=match S[n]? with
 |some (.lst xs)=>f xs
 |_=>.bad
theorem gT {X:Cx}{β:Type}{n:Ai}{f:Aa D->Res β}{P:Hp}{α:Aa Af}{Ok:β->Sto->Prop}(h:qI X P α (JW S n f) Ok):∃ xs,S[n]? = Ab (.lst xs)/\qI X P α (f xs) Ok:=by
 unfold JW at h;cases e:S[n]? with
 |none=>rw[e] at h;exact Aq h
 |some m =>
  rw[e] at h;cases m with
  |lst xs=>exact⟨xs,rfl,h⟩
  |_=>exact Aq h
noncomputable def xD:D->Al (Aa D)
 |.tup xs=>Ab xs
 |.lst xs=>Ab xs
 |_=>none
theorem itV {d:D}{xs:Aa D}(h:xD d=Ab xs):ItV d xs:=by
 cases d with
 |tup ys=>exact .tup (congrArg D.tup (Dd h))
 |lst ys=>exact .lst (congrArg D.lst (Dd h))
 |_=>exact nn h
noncomputable def w9 (f:DE):DI:=λenv S=>(f env S).bind λd S1=>yO (xD d) S1
section
variable {X:Cx}{K:Aj}{tg e:By}{fa:DE}{pos:Fc}
theorem V7 {P:Hp}{α:Aa Af}{a:Af}{ds:Aa D}(q:SqL K P a vs)(t:qC K P α ds vs):ItD K (Itl K a) P α ds where
 go:=λi H P1 α1 S hi r e _=>⟨vs,vs[i]'(by rw[<- t.length];exact hi),(e.trans r.sub).seq q,by simp⟩
 yld:=λi H x H' P1 α1 S hi r e e2 y=>by
  obtain⟨rfl,y⟩:=y;have hx:=y vs ((e.trans r.sub).seq q);obtain⟨v,h1,h2⟩:=t.get (Ao hi);rw[hx] at h1;cases h1;exact⟨P1,_,Ao hi,r,qF.refl _,Rep.mono e e2 _ _ h2⟩
 stop:=λi H P1 α1 S hi r e _=>⟨vs,(e.trans r.sub).seq q,by rw[<- t.length];exact hi⟩
theorem GT {P:Hp}{α:Aa Af}{a:Af}{ds:Aa D}(q:SqT K P a vs)(t:qC K P α ds vs):ItD K (Itt K a) P α ds where
 go:=λi H P1 α1 S hi r e _=>⟨vs,vs[i]'(by rw[<- t.length];exact hi),vF (e.trans r.sub) q,by simp⟩
 yld:=λi H x H' P1 α1 S hi r e e2 y=>by
  obtain⟨rfl,y⟩:=y;have hx:=y vs (vF (e.trans r.sub) q);obtain⟨v,h1,h2⟩:=t.get (Ao hi);rw[hx] at h1;cases h1;exact⟨P1,_,Ao hi,r,qF.refl _,Rep.mono e e2 _ _ h2⟩
 stop:=λi H P1 α1 S hi r e _=>⟨vs,vF (e.trans r.sub) q,by rw[<- t.length];exact hi⟩
theorem rM {pins:Aa (Af × Cu)}{σ:_L.St}{H P:Hp}{α:Aa Af}{s:Ag}{v:V}{d:D}{ds:Aa D}(I:Inv X pins σ H s)(r:Rel X.K H P α S)(rv:qG v vv)(rp:Rep X.K P α d v)(hd:xD d=Ab ds)
  (q:OkI X P α R ds S):Ap (As X.prog X.w) X.A (Oh vv) (PIE X pins σ tg R) X.xe s:=by
 cases d with
 |tup xs =>
  cases hd;simp only[Rep] at rp;obtain⟨a,vs,rfl,sq,t⟩:=rp;cases rv;obtain⟨its,rv,p,hz⟩:=I.tuple (w4 r.sub sq);refine Ha (show s.heap.IsTuple a its.toArray from p) ?_
  refine⟨s.heap.objs.size,[s.heap.objs.size],_,_,H,rfl,I.kept (t':=s.toks) λb o e=>Ah _ e,Q3 a _,⟨_,Ay _ rfl,rfl,rfl⟩,λb hb=>?_,q _ _ P α r (qF.refl _) (Be _) (GT sq t)⟩;have e:b=s.heap.objs.size:=by simpa using hb
  subst e;exact I.fpOk (Av _) (I.hok.fresh (Av _))
 |lst xs =>
  cases hd;simp only[Rep] at rp;obtain⟨a,vs,rfl,sq,t⟩:=rp;cases rv;obtain⟨its,rv,p,hz⟩:=I.list ((xU r.sub sq).l);refine Fz p.isList ?_;refine⟨s.heap.objs.size,[s.heap.objs.size],_,_,H,rfl,I.kept (t':=s.toks) λb o e=>Ah _ e,d9 a _,⟨_,Ay _ rfl,rfl,rfl⟩,λb hb=>?_,q _ _ P α r (qF.refl _) (Be _) (V7 sq.l t)⟩;have e:b=s.heap.objs.size:=by simpa using hb
  subst e;exact I.fpOk (Av _) (I.hok.fresh (Av _))
 |_=>cases hd
theorem OkI.base {P P1:Hp}{α α1:Aa Af}{ds:Aa D}(e:qF P P1)(h:α<+:α1)(k:OkI X P α R ds S):OkI X P1 α1 R ds S:=λJ H' P' α' r q1 q2 q3=>k J H' P' α' r (e.trans q1) (h.trans q2) q3
theorem T7 (ha:PE X e (tD X fa)):PI X tg e (tDI X (w9 fa)):=by
 intro pins s σ H R I h;obtain⟨P,α,env,S,r,re,af⟩:=h;refine thn (zO ha I r re af) λvv s1 ⟨v,H1,P1,α1,d,S1,G1,af1⟩=>?_;obtain⟨ds,e1,q⟩:=vE af1;exact rM G1.inv G1.rel G1.val G1.rep e1 (q.base G1.same G1.pre)
noncomputable def xS (lo:An)(n:Ai):Aa D:=(Cz n).map λ(i:Ai)=>D.int (lo+(i:An))
theorem gW (lo:An)(n:Ai):(xS lo n).length=n:=by simp[xS]
theorem lQ {P:Hp}{α:Aa Af}{lo:An}{n:Ai}:ItD K (Itr lo n) P α (xS lo n) where
 go:=λi H P1 α1 S hi r e _=>by rw[gW] at hi;exact hi
 yld:=λi H x H' P1 α1 S hi r e e2 y=>by
  obtain⟨rfl,rfl⟩:=y;rw[gW] at hi;exact⟨P1,.int (lo+i),by simp[xS,hi],r,qF.refl _,by simp only[Rep]⟩
 stop:=λi H P1 α1 S hi r e _=>by rw[gW] at hi;exact hi
noncomputable def jE (ds:Aa D):Al (Aa D):=match ds with
 |[.int j]=>if -(2 ^ 62)<=j/\j<2 ^ 62 then Ab (xS 0 j.toNat) else none
 |[.int i,.int j]=>if -(2 ^ 62)<=i/\i<2 ^ 62 /\ -(2 ^ 62)<=j/\j<2 ^ 62 then Ab (xS i (j-i).toNat) else none
 |_=>none
noncomputable def wC (f:DA):DI:=λenv S=>(f env S).bind λds S1=>yO (jE ds) S1
noncomputable def asI:D->Al An
 |.int i=>Ab i
 |_=>none
theorem fJ {d:D}{i:An}(h:asI d=Ab i):d=.int i:=by
 cases d with
 |int k=>exact congrArg D.int (Dd h)
 |_=>exact nn h
inductive RngV:Aa D->Aa D->Prop
 |one (j:An) (h : -(2 ^ 62)<=j/\j<2 ^ 62):RngV [.int j] (xS 0 j.toNat)
 |two (i j:An) (h : -(2 ^ 62)<=i/\i<2 ^ 62 /\ -(2 ^ 62)<=j/\j<2 ^ 62):RngV [.int i,.int j] (xS i (j-i).toNat)
theorem HI (d:D):jE [d]=(asI d).bind λj=>if -(2 ^ 62)<=j/\j<2 ^ 62 then Ab (xS 0 j.toNat) else none:=by cases d <;> rfl
theorem HJ (d d':D):jE [d,d']=(asI d).bind λi=>(asI d').bind λj=>if -(2 ^ 62)<=i/\i<2 ^ 62 /\ -(2 ^ 62)<=j/\j<2 ^ 62 then Ab (xS i (j-i).toNat) else none:=by
 cases d with
 |int i=>cases d' <;> rfl
 |_=>rfl
theorem BY {ds its:Aa D}(h:jE ds=Ab its):RngV ds its:=by
 cases ds with
 |nil=>exact nn h
 |cons d ds =>
  cases ds with
  |nil =>
   obtain⟨j,e,h⟩:=Fj.mp ((HI d).symm.trans h);obtain⟨c,rfl⟩:=j8 h;rw[fJ e];exact .one j c
  |cons d' ds =>
   cases ds with
   |nil =>
    obtain⟨i,e,h⟩:=Fj.mp ((HJ d d').symm.trans h);obtain⟨j,e',h⟩:=Fj.mp h;obtain⟨c,rfl⟩:=j8 h;rw[fJ e,fJ e'];exact .two i j c
   |cons _ _ =>
    have h0:∀ d'' t,jE (d::d'::d''::t)=none:=λd'' t=>by cases d <;> first|rfl|(cases d' <;> rfl)
    exact nn ((h0 _ _).symm.trans h)
theorem nQ {P:Hp}{α:Aa Af}{i:An}{ds:Aa D}(r:qC K P α (.int i::ds) vs):∃ ws,vs=.int i::ws/\qC K P α ds ws:=by
 obtain⟨w,ws,rfl,p,t⟩:=r.cons_inv;exact⟨ws,congrArg (· :: ws) (by simpa only [Rep] using p),t⟩
theorem PI.weak {iter:By}{t t':TI}(h:PI X tg iter t)(w:∀ σ H R,t' σ H R->t σ H R):PI X tg iter t':=λpins s σ H R I q=>h pins s σ H R I (w σ H R q)
end
section
variable {X:Cx}{tg a b:By}{f:DA}{p pos:Fc}
theorem YB {e:By}{es:Aa By}(hg:Gl X "range")(hm:X.mg "range" = none)(ha:PA X (e::es) (tDA X f))(hs:Bo (e::es) X.env=(false,eval e X.env)::Bo es X.env:=by rfl)(hpl:(Gw pos (Bo es X.env)).any (·.1)=false:=by rfl) :
  PI X tg (.Call (.Name "range" p) (e::es) [] pos) (tDI X (wC f)):=by
 intro pins s σ H R I h;obtain⟨P,α,env,S,r,re,af⟩:=h;refine Call_ (v7 I hg hm boot_range (Hk (thn (wL ha I r re af pos) λus s1 ⟨vs,H1,P1,α1,ds,S1,I1,rv,r1,re1,rp,e1,e2,af1⟩=>?_) hs hpl));obtain⟨its,hi,q⟩:=vE af1;cases BY hi with
 |one j c =>
  obtain⟨ws,rfl,t1⟩:=nQ rp;cases t1.nil_inv;obtain⟨u,rfl,t,rfl⟩:=p8 rv;refine call_range_1 (eD I1 om om c.1 c.2 ?_);have z:=q (Itr 0 j.toNat) H1 P1 α1 r1 e1 e2 lQ;rw[Int.sub_zero];exact z
 |two i j c =>
  obtain⟨ws,rfl,t1⟩:=nQ rp;obtain⟨ws2,rfl,t2⟩:=nQ t1;cases t2.nil_inv;obtain⟨u,u',rfl,⟨t,rfl⟩,t',rfl⟩:=Q4 rv;exact call_range_2 (eD I1 c.1 c.2.1 c.2.2.1 c.2.2.2 (q (Itr i (j-i).toNat) H1 P1 α1 r1 e1 e2 lQ))
noncomputable def yK (g:DG)(f:DS):Aa D->qB->Sto->Out
 |[],env,S=>.nx env S
 |d::ds,env,S=>(g d env S).toS env λenv1 S1=>match f env1 S1 with
  |.nx env2 S2=>yK g f ds env2 S2
  |.ct env2 S2=>yK g f ds env2 S2
  |.bk env2 S2=>.nx env2 S2
  |o=>o
noncomputable def wV (fi:DI)(g:DG)(f:DS):DS:=λenv S=>(fi env S).toS env λds S1=>yK g f ds env S1
inductive LoopW (X:Cx)(P1:Hp)(α1:Aa Af)(g:DG)(f:DS)(ds:Aa D)(D:Ends)(i m:Ai)(σ : _L.St)(H:Hp):Prop
 |mk (hi:i<=ds.length) (hm:m=ds.length-i) (P2:Hp) (α2:Aa Af) (env2:qB) (S2:Sto) (r:Rel X.K H P2 α2 S2) (re:zG X.K P2 α2 σ env2) (e1:qF P1 P2) (e2:α1<+:α2) (af:z9 X P2 α2 (yK g f (ds.drop i) env2 S2) D):LoopW X P1 α1 g f ds D i m σ H
theorem TH {iter:By}{fi:DI}{g:DG}{f:DS}(hp:Rk (As X.prog X.w) X.A X.env X.xe)(hc:X.calm=true)(hi:PI X tg iter (tDI X fi))(hg:PG X tg (tDG X g))(hb:PSs X body (tDS X f))
  (hs:∀ x,Ev iter X.env x=pure x:=by intro _;rfl):PS X (.For tg iter body [] pos) (tDS X (wV fi g f)):=psW (D2 hp hc hi hg hb hs) λD σ H ⟨P,α,env,S,r,re,af⟩=>by
 refine⟨P,α,env,S,r,re,?_⟩;have af1:=xH af;cases q:fi env S with
 |bad=>rw[q] at af1;exact af1
 |ex c x S'=>rw[q] at af1;exact af1
 |ok ds S1 =>
  rw[q] at af1;have af2:z9 X P α (yK g f ds env S1) D:=af1;intro J H1 P1 α1 r1 e1 e2 it;refine⟨LoopW X P1 α1 g f ds D,
   ⟨ds.length,Fh _,rfl,P1,α1,env,S1,r1,re.mono e1 e2,qF.refl _,Be _,z9.base e1 e2 af2⟩,?_⟩
  rintro i m σ2 H2 ⟨hi,rfl,P2,α2,env2,S2,r2,re2,e3,e4,af3⟩;by_cases hlt:i<ds.length
  .refine .inr ⟨it.go i H2 P2 α2 S2 hlt r2 e3 e4,LoopW X P1 α1 g f ds D (i+1) (ds.length-(i+1)),λσ' H' w=>⟨_,?_,w⟩,λx H3 y=>?_⟩
   .omega
   .obtain⟨P3,d,hd,r3,e5,rp⟩:=it.yld i H2 x H3 P2 α2 S2 hlt r2 e3 e4 y
    have hdr:ds.drop i=d::ds.drop (i+1):=by
     rw[Gr hlt];rw[Ao hlt] at hd;rw[Dd hd]
    rw[hdr] at af3;have af4:=xH (z9.base e5 (Be _) af3);refine⟨P3,α2,env2,S2,d,r3,re2.mono e5 (Be _),rp,?_⟩;cases q2:g d env2 S2 with
    |bad=>rw[q2] at af4;exact af4
    |ex c x S'=>rw[q2] at af4;exact af4
    |ok env3 S3 =>
     rw[q2] at af4;intro σ4 H4 P4 α4 r4 re4 e6 e7;refine⟨P4,α4,env3,S3,r4,re4,?_⟩;have af5:=z9.base e6 e7 af4;cases q3:f env3 S3 with
     |bad=>simp only[q3] at af5;exact af5
     |ex c x env4 S4=>simp only[q3] at af5;exact af5
     |rt d4 S4=>simp only[q3] at af5;exact af5
     |bk env4 S4=>simp only[q3] at af5;exact af5
     |nx env4 S4 =>
      simp only[q3] at af5;exact λσ5 H5 P5 α5 r5 re5 e8 e9=>⟨hlt,rfl,P5,α5,env4,S4,r5,re5,((e3.trans e5).trans e6).trans e8,(e4.trans e7).trans e9,z9.base e8 e9 af5⟩
     |ct env4 S4 =>
      simp only[q3] at af5;exact λσ5 H5 P5 α5 r5 re5 e8 e9=>⟨hlt,rfl,P5,α5,env4,S4,r5,re5,((e3.trans e5).trans e6).trans e8,(e4.trans e7).trans e9,z9.base e8 e9 af5⟩
  .have hdr:ds.drop i=[]:=Lb om
   rw[hdr] at af3;exact .inl ⟨it.stop i H2 P2 α2 S2 om r2 e3 e4,af3 σ2 H2 P2 α2 r2 re2 (qF.refl _) (Be _)⟩
end
abbrev DF:=Aa D->Sto->Res D
section
variable {X:Cx}{x:Au}{p pos:Fc}{e:By}{es:Aa By}{F:DF}{fa:DA}
noncomputable def qR (F:DF)(fa:DA):DE:=λenv S=>(fa env S).bind λds S1=>F ds S1
theorem lD {pins:Aa (Af × Cu)}{s1:Ag}{σ:_L.St}{H1 P P1:Hp}{α α1:Aa Af}{ds:Aa D}{S1:Sto}(hc:yV X u F)(I1:Inv X pins σ H1 s1)(r1:Rel X.K H1 P1 α1 S1)(rv:qJ vs us)
  (rp:qC X.K P1 α1 ds vs) (e1:qF P P1) (e2:α<+:α1) (af:qI X P α (F ds S1) (OkV X P α Q)):Ap (As X.prog X.w) X.A (call u us) (EP X pins σ Q) X.xe s1:=hc pins σ H1 s1 P1 α1 S1 vs us ds Q I1 r1 rv rp (qV.base e1 e2 af)
theorem Y4 {id:Ek}(hc:yV X (.builtin id) F)(hg:Gl X x)(hm:X.mg x=none)(hv:Ge x=Ab (.builtin id))(ha:PA X (e::es) (tDA X fa))(hn:x ≠ "__name__":=by decide)(hdb:(x == ("__debug__" : Au))=false:=by decide)
  (he:Bo (e::es) X.env=(false,eval e X.env)::Bo es X.env:=by rfl) (hpl:(Gw pos (Bo es X.env)).any (·.1)=false:=by rfl):PE X (.Call (.Name x p) (e::es) [] pos) (tD X (qR F fa)):=by
 intro pins s σ H Q I h;obtain⟨P,α,env,S,r,re,af⟩:=h;refine Jf (v7 I hg hm hv ?_ hn hdb);exact Pb (thn (wL ha I r re af pos) λus s1 ⟨vs,H1,P1,α1,ds,S1,I1,rv,r1,re1,rp,e1,e2,af1⟩=>lD hc I1 r1 rv rp e1 e2 af1) he hpl
theorem Z3 {T:Ek}(hc:yV X (.type T) F)(hg:Gl X x)(hm:X.mg x=none)(hv:Ge x=Ab (.type T))(ha:PA X (e::es) (tDA X fa))(hn:x ≠ "__name__":=by decide)(hdb:(x == ("__debug__" : Au))=false:=by decide)
  (he:Bo (e::es) X.env=(false,eval e X.env)::Bo es X.env:=by rfl) (hpl:(Gw pos (Bo es X.env)).any (·.1)=false:=by rfl):PE X (.Call (.Name x p) (e::es) [] pos) (tD X (qR F fa)):=by
 intro pins s σ H Q I h;obtain⟨P,α,env,S,r,re,af⟩:=h;refine Jf (v7 I hg hm hv ?_ hn hdb);exact Hk (thn (wL ha I r re af pos) λus s1 ⟨vs,H1,P1,α1,ds,S1,I1,rv,r1,re1,rp,e1,e2,af1⟩=>lD hc I1 r1 rv rp e1 e2 af1) he hpl
end
theorem zL.there {P:Bg}{w:Ca}{H:Hp}{h:Bw}{a:Af}{o:HO}(x:zL P w H h a o):∃ ob,h.get? a=Ab ob:=by
 cases o with
 |lst xs=>obtain⟨_,_,_,_,e⟩:=x;exact⟨_,e⟩
 |tup xs=>obtain⟨_,_,_,ob,e,_⟩:=x;exact⟨_,e⟩
 |dK kvs=>obtain⟨_,_,_,_,o,_,_,e,_⟩:=x;exact⟨_,e⟩
 |dT kvs=>obtain⟨_,_,_,_,o,_,_,e,_⟩:=x;exact⟨_,e⟩
 |set S n=>obtain⟨o,_,_,_,e,_⟩:=x;exact⟨_,e⟩
 |ins C dx fs=>obtain⟨_,_,_,e,_⟩:=x;exact⟨_,e⟩
 |own y=>obtain⟨_,e⟩:=x;exact⟨_,e⟩
 |xd fs=>obtain⟨_,⟨_,_,_,e,_⟩,_⟩:=x;exact⟨_,e⟩
 |rng lo hi=>obtain⟨_,_,_,e⟩:=x;exact⟨_,e⟩
 |frz ob u=>obtain⟨e,_⟩:=x;exact⟨_,e⟩
 |tbl ps=>exact⟨_,show h.get? a=Ab _ from x⟩
 |met f y=>exact⟨_,show h.get? a=Ab _ from x⟩
 |ext φ => obtain⟨_,e,_⟩:=x;exact e
section
variable {X:Cx}{pins:Aa (Af × Cu)}{σ : _L.St}{H:Hp}{s:Ag}{B h':Bw}
abbrev Fn1 (X:Cx):Prop:=X.ex=[]/\X.stack=X.env::X.outer/\X.env.frame=Ab X.env.locals
theorem Fn1.mem (F:Fn1 X){b:Af}:b∈frs X.stack↔b=X.env.locals\/b∈X.fs:=by
 rw[F.2.1];unfold frs;rw[Ir,F.2.2];exact Az
theorem Old.there (I:Inv X pins σ H s)(F:Fn1 X){b:Af}(o:Old X pins H b):∃ ob,s.heap.get? b=Ab ob:=by
 rcases o with⟨o,e⟩|e|⟨p,hp,rfl⟩|⟨x,e⟩
 .exact I.base.there b o e (by rw[F.1];simp)
 .cases q:H b with
  |none=>exact absurd q e
  |some u=>exact zL.there (I.hok b u q)
 .exact⟨_,(I.pin p hp).1⟩
 .obtain⟨v,ob,ho,_⟩:=I.cell x b e
  exact⟨ob,ho⟩
theorem Inv.fly (I:Inv X pins σ H s)(F:Fn1 X)(cv:Cv X pins H B s.heap)(st:B.StaysIn h')(up:s.heap.UpToSlots h'):Inv X pins σ H { s with heap:=h' } /\ Cv X pins H B h':=by
 have kp:∀ b o,s.heap.get? b=Ab o->Old X pins H b->b ∉ frs X.stack->h'.get? b=Ab o:=λb o e q n=>st b o (cv b o e q n);have neL:∀ b o,X.s₀.heap.get? b=Ab o->b≠X.env.locals:=λb o e=>Cw (Bh (Ba e) I.ok.above);have nofr:∀ b o,X.s₀.heap.get? b=Ab o->b ∉ X.fs->b ∉ frs X.stack:=λb o e n z=>(F.mem.mp z).elim (neL b o e) n;have nx:∀ b,b ∉ X.ex:=λb=>by rw[F.1];simp
 have frU:∀ b,b∈frs X.stack->∀ o,s.heap.get? b=Ab o->∃ sl,h'.get? b=Ab { o with slots:=sl }:=λb hb o e=>by
  obtain⟨_,o',e',nf⟩:=I.stack.mem hb;rw[e] at e';cases e';exact up b o e nf
 have cellK:∀ x c,X.env.cells.lookup x=Ab c->∀ v,s.heap.IsCell c v->h'.IsCell c v:=λx c e v ⟨o,ho,hd⟩=>by
  obtain⟨sl,q⟩:=up c o ho λvs z=>by rw[hd] at z;cases z
  exact⟨_,q,hd⟩
 refine⟨⟨I.ok,I.os,I.bare,⟨λb o e n hb hx=>?_,λb o e n hb hx=>?_,I.base.free,λb o e hx=>?_,I.base.tups,I.base.frzs,I.base.tbls⟩,?_,λx c e=>?_,I.free,I.freeC,λp hp=>?_,λa o e=>?_,I.len⟩,λb o e q n=>?_⟩
 .exact kp b o (I.base.keep b o e n hb hx) (.inl ⟨o,e⟩) (nofr b o e hb)
 .obtain⟨sl,e1⟩:=I.base.slot b o e n hb hx
  obtain⟨sl',e2⟩:=frU b (F.mem.mpr (.inr hb)) _ e1;exact⟨sl',e2⟩
 .obtain⟨o',e1⟩:=I.base.there b o e hx
  by_cases hb:b∈frs X.stack
  .obtain⟨sl,e2⟩:=frU b hb _ e1
   exact⟨_,e2⟩
  .exact⟨o',kp b o' e1 (.inl ⟨o,e⟩) hb⟩
 .obtain⟨m,hn,hl⟩:=I.loc
  refine⟨m,up.ns hn,λi x v e1 e2 e3=>?_⟩;obtain⟨u,r,l⟩:=hl i x v e1 e2 e3;refine⟨u,r,?_⟩;rcases l with l|⟨k,c,e,z⟩
  .exact .inl l
  .exact .inr ⟨k,c,e,cellK x c e _ z⟩
 .obtain⟨v,z⟩:=I.cell x c e
  exact⟨v,cellK x c e v z⟩
 .obtain⟨e,n,ne,nf,d⟩:=I.pin p hp
  exact⟨kp p.1 p.2 e (.inr (.inr (.inl ⟨p,hp,rfl⟩))) λz=>(F.mem.mp z).elim ne nf,n,ne,nf,d⟩
 .refine(I.hok a o e).stay (λb u hb q=>?_) (λ_ q=>q) λ_ _ q=>q
  have hn:H b≠none:=by
   rcases hb with rfl|hb
   .rw[e];intro z;cases z
   .rw[hb];intro z;cases z
  exact kp b u q (.inr (.inl hn)) λz=>hn (I.stkFree b z)
 .obtain⟨o1,e1⟩:=Old.there I F q
  have e2:=cv b o1 e1 q n;have e3:=st b o1 e2;rw[e] at e3;cases e3;exact e2
theorem NS {c:Ac}{e:Af}{g:Bw}{args:Aa Ac}(I:Inv X pins σ H s)(hm:Aa5 g s.heap e c args)(hf:g.FunFrames X.base X.stack)(hk:∀ b o,s.heap.get? b=Ab o->Old X pins H b->g.get? b=Ab o) :
  (Pi g (frs X.stack)).StaysIn g/\g.FunFrames (Pi g (frs X.stack)) X.stack/\Cv X pins H (Pi g (frs X.stack)) s.heap:=
 ⟨λb o q=>Xd _ q,PySem.W.funFrames_hide hf λenv he a ha=>Nd.mpr ⟨env,he,ha⟩,λb o e q n=>Wb _ (hk b o e q) n⟩
theorem ZW {M:Pj}{A:Bt}{E:Ac->Ag->Prop}{c:Ac}{e:Af}{Q:Vi->Ag->Prop}(I:Inv X pins σ H s)(F:Fn1 X)(hA:A.frames=Ab X.stack)(f:FlyX X pins H c e s.heap)
  (hQ:∀ h' B a0,Xx B X.outer e c a0 h'->Inv X pins σ H { s with heap:=h' } -> Cv X pins H B h'->Q () { s with heap:=h' }) : Ap M A (leaving X.env (.ref e)) Q E s:=by
 cases f with
 |new g args hm hf hk =>
  obtain⟨k1,k2,k3⟩:=NS I hm hf hk;rw[F.2.1] at hA;refine wpAny_leaves_madeW hA F.2.2 k1 (by rw[<- F.2.1];exact k2) hm λh' t x1 x2 x3 x4=>?_
  obtain⟨I1,cv1⟩:=Inv.fly I F k3 x1.1 x4;exact hQ h' _ _ x1 I1 cv1
 |fly B a0 fl cv =>
  rw[F.2.1] at hA;refine wpAny_leaves_onW hA F.2.2 (by rw[<- F.2.1];exact fl) λh' x1 x2=>?_
  obtain⟨I1,cv1⟩:=Inv.fly I F cv x1.1 x2;exact hQ h' _ _ x1 I1 cv1
end
def CXd (P:Bg)(w:Ca):CXT:=λouter H s E u s' =>
 ∃ e c H' B a0,u=.ref e/\s'.os=s.os/\Og s'.gens/\Un (frs outer) [] H H' s.heap s'.heap/\HOk P w H' s'.heap/\Xx B outer e c a0 s'.heap /\
  (∀ b o,s'.heap.get? b=Ab o->((∃ o,s.heap.get? b=Ab o)\/H' b≠none)->b ∉ frs outer->B.get? b=Ab o)/\E c none H'
section
variable {X:Cx}{pins:Aa (Af × Cu)}{σ : _L.St}{H:Hp}{s s':Ag}
theorem TZ {E:XK}(I:Inv X pins σ H s)(F:Fn1 X)(h:CXd X.prog X.w X.stack H s E u s'):∃ e c H',u=.ref e/\Inv X pins σ H' s'/\FlyX X pins H' c e s'.heap/\E c none H':=by
 obtain⟨e,c,H',B,a0,rfl,os,bare,un,hok,fl,cov,q⟩:=h;have I':Inv X pins σ H' s':=Inv.call' I os un hok bare (ch:=[]) λb z=>absurd z (by simp)
 refine⟨e,c,H',rfl,I',.fly B a0 fl λb o eb old n=>cov b o eb ?_ n,q⟩;rcases old with⟨o,z⟩|z|⟨p,hp,rfl⟩|⟨x,z⟩
 .exact .inl (I.base.there b o z (by rw[F.1];simp))
 .exact .inr z
 .exact .inl ⟨_,(I.pin p hp).1⟩
 .obtain⟨v,ob,ho,_⟩:=I.cell x b z
  exact .inl ⟨ob,ho⟩
end
structure RoomC (cm:Ar)(k:Ai)(A:Bt):Prop where
 hd:cm=true->A.handled=none
 dp:A.depth+3*k+5<Qg
 un:A.units+16*k+200<Du
 gd:A.guards=Ab []
theorem RoomC.mono {cm:Ar}{j k:Ai}{A:Bt}(r:RoomC cm k A)(h:j<=k:=by decide):RoomC cm j A:=⟨r.hd,by have:=r.dp;omega,by have:=r.un;omega,r.gd⟩
theorem RoomC.deeper {cm:Ar}{k:Ai}{A:Bt}(r:RoomC cm (k+1) A)(env:Kc):RoomC cm k (A.deeper env):=
 ⟨r.hd,by have:=r.dp;show A.depth+1+3*k+5<_;omega,by have:=r.un;show A.units+3+16*k+200<_;omega,r.gd⟩
theorem RoomC.depth {cm:Ar}{k:Ai}{A:Bt}(r:RoomC cm k A):A.depth<Qg:=by have:=r.dp;omega
theorem RoomC.units {cm:Ar}{k:Ai}{A:Bt}(r:RoomC cm k A):A.units+64<Du:=by have:=r.un;omega
theorem RoomC.of {k:Ai}{A:Bt}(r:Room k A):RoomC true k A:=⟨λ_=>r.hd,r.dp,r.un,r.gd⟩
theorem RoomC.any {cm:Ar}{k:Ai}{A:Bt}(r:RoomC cm k A):RoomC false k A:=⟨(λz=>nomatch z),r.dp,r.un,r.gd⟩
theorem RoomC.mark {cm:Ar}{k:Ai}{A:Bt}(r:RoomC cm k A)(h:Al Ac):RoomC false k (A.mark h):=⟨(λz=>nomatch z),r.dp,r.un,r.gd⟩
abbrev Cx.re (X:Cx)(A:Bt)(cm:Ar)(E:Ac->Ag->Prop):Cx:={ X with A:=A,calm:=cm,xe:=E }
theorem Inv.re {X:Cx}{pins:Aa (Af × Cu)}{σ:_L.St}{H:Hp}{s:Ag}(I:Inv X pins σ H s)(A:Bt)(cm:Ar)(E:Ac->Ag->Prop)(hf:A.frames=Ab X.stack)(hh:cm=true->A.handled=none):Inv (Cx.re X A cm E) pins σ H s:=
 ⟨⟨I.ok.mod,I.ok.kind,I.ok.glob,I.ok.blt,I.ok.above,I.ok.inj,I.ok.has,I.ok.cab,hh,hf,I.ok.stk,I.ok.exf,I.ok.bs,I.ok.bsz,I.ok.noex,I.ok.exfs,I.ok.funs,I.ok.frf⟩,I.os,I.bare,I.base,I.loc,I.cell,I.free,I.freeC,I.pin,I.hok,I.len⟩
structure FnX (P:Bg)(w:Ca)(K:Aj)(mg:Au->Al Ac)(base:Bw)(cm:Ar)(k:Ai)(f:Af)(fd:Fx)(ps:Aa Au)(sp:Sp):Prop where
 len:∀ vs H Q E,sp vs H Q E->vs.length=ps.length
 run:∀ (A:Bt) (outer:Aa Kc) (s:Ag) (H:Hp) (args:Args) (us:Aa Ac) (vs:Aa V) (Q:VK) (E:XK),RoomC cm k A->Env0 P w K mg base A outer s H->Om s fd args (ps.zip us)->qJ vs us->sp vs H Q E ->
  Iw (As P w) A (.call (.ref f) args) (CR (CXd P w) outer P w H s Q E) s
theorem FnX.ok {P:Bg}{w:Ca}{K:Aj}{mg:Au->Al Ac}{base:Bw}{k:Ai}{f:Af}{fd:Fx}{ps:Aa Au}(F:FnX P w K mg base true k f fd ps sp):FnOk P w K mg base (CXd P w) k f fd ps sp:=
 ⟨F.len,λA outer s H args us vs Q E hr=>F.run A outer s H args us vs Q E (.of hr)⟩
theorem FnX.any {P:Bg}{w:Ca}{K:Aj}{mg:Au->Al Ac}{base:Bw}{cm:Ar}{k:Ai}{f:Af}{fd:Fx}{ps:Aa Au}(F:FnX P w K mg base false k f fd ps sp):FnX P w K mg base cm k f fd ps sp:=
 ⟨F.len,λA outer s H args us vs Q E hr=>F.run A outer s H args us vs Q E hr.any⟩
theorem FnX.imp {P:Bg}{w:Ca}{K:Aj}{mg:Au->Al Ac}{base:Bw}{cm:Ar}{k:Ai}{f:Af}{fd:Fx}{ps:Aa Au}{sp':Sp}(F:FnX P w K mg base cm k f fd ps sp)
  (h:∀ vs H Q E,sp' vs H Q E->sp vs H Q E):FnX P w K mg base cm k f fd ps sp':=
 ⟨λvs H Q E q=>F.len vs H Q E (h _ _ _ _ q),λA outer s H args us vs Q E hr he hb hv hs=>F.run A outer s H args us vs Q E hr he hb hv (h _ _ _ _ hs)⟩
noncomputable def cxC (cm:Ar)(P:Bg)(w:Ca)(K:Aj)(mg:Au->Al Ac)(base:Bw)(N:Aa Au)(qual:Au)(scope:Ey)(f:Af)(cd:Ac)(A:Bt)(outer:Aa Kc)(s:Ag)(H:Hp)(E:XK):Cx where
 prog:=P
 w:=w
 K:=K
 mg:=mg
 base:=base
 A:=A.deeper (Hc qual scope s.heap.objs.size f cd)
 N:=N
 s₀:=s
 H₀:=H
 env:=Hc qual scope s.heap.objs.size f cd
 outer:=outer
 stack:=Hc qual scope s.heap.objs.size f cd::outer
 ex:=[]
 calm:=cm
 fn:=λ_=>true
 pn:=[]
 xe:=λe s'=>Ap (As P w) (A.deeper (Hc qual scope s.heap.objs.size f cd)) (leaving (Hc qual scope s.heap.objs.size f cd) e) (λ_ s''=>CXd P w outer H s E e s'') (λe' s''=>CXd P w outer H s E e' s'') s'
section
variable {P:Bg}{w:Ca}{K:Aj}{mg:Au->Al Ac}{base:Bw}{cm:Ar}{N:Aa Au}{qual:Au}{scope:Ey}{f:Af}{cd:Ac}{A:Bt}{outer:Aa Kc}{s:Ag}{H:Hp}{E:XK}
theorem Y0:Rk (As P w) (A.deeper (Hc qual scope s.heap.objs.size f cd)) (Hc qual scope s.heap.objs.size f cd) (cxC cm P w K mg base N qual scope f cd A outer s H E).xe:=PassesOwn.leaving (Q₁:=λe s''=>CXd P w outer H s E e s'')
abbrev xeL (P:Bg)(w:Ca)(A:Bt)(env:Kc)(outer:Aa Kc)(H:Hp)(s:Ag)(E:XK):Ac->Ag->Prop:=λe s'=>Ap (As P w) (A.deeper env) (leaving env e) (λ_ s''=>CXd P w outer H s E e s'') (λe' s''=>CXd P w outer H s E e' s'') s'
theorem Y1 {X:Cx}{P0:Hp}{α:Aa Af}{c:Ac}{x:D}{s':Ag}(hA:X.A=A.deeper X.env)(k:XOk X P0 α c x S u s')
  (q:∀ H' P' α',Rel X.K H' P' α' S->qF P0 P'->α<+:α'->E c none H'):xeL X.prog X.w A X.env X.outer X.H₀ X.s₀ E u s':=by
 obtain⟨e,pins,σ,H1,P1,α1,rfl,I,r,e1,e2,F,fl⟩:=k;unfold xeL;rw[<- hA];refine ZW I F I.ok.frames fl λh' B a0 x1 I1 cv=>?_;refine⟨e,c,H1,B,a0,rfl,I1.os,I1.bare,by have z:=I1.base;rw[F.1] at z;exact z,I1.hok,x1,λb o eb hb n=>cv b o eb ?_ λz=>?_,q H1 P1 α1 r e1 e2⟩
 .rcases hb with z|z
  .exact .inl z
  .exact .inr (.inl z)
 .rcases (Fn1.mem F).mp z with z|z
  .subst z
   rcases hb with⟨o',e'⟩|z
   .exact absurd (Ba e') (Lo.mpr I1.ok.above)
   .exact z I1.free
  .exact n z
theorem o3 {ps:Aa Au}{s1:Ag}(S:FnScope N ps scope)(hd:cm=true->A.handled=none)(e0:Env0 P w K mg base A outer s H)(hl:vs.length=ps.length)(r:qJ vs us)
  (x:InCallC s s.heap.objs.size (Wf (Hc qual scope s.heap.objs.size f cd).kindOf (ps.zip us) λ_=>none) (Hx (s.heap.objs.size+1) scope.names []) (Wg (Hc qual scope s.heap.objs.size f cd).kindOf (ps.zip us) λ_=>none) s1) :
  Inv (cxC cm P w K mg base N qual scope f cd A outer s H E) [] (_L.xT N vs) H s1:=by
 have I:=lP (CX:=CXd P w) (E:=E) (A:={ A with handled:=none }) S rfl ⟨e0.frames,e0.mod,e0.bs,e0.bsz,e0.funs,e0.frf,e0.hok,e0.bare⟩ hl r x
 have J:=Inv.re I (A.deeper (Hc qual scope s.heap.objs.size f cd)) cm (cxC cm P w K mg base N qual scope f cd A outer s H E).xe (Vs e0.frames) hd;exact J
end
theorem N1 {P:Bg}{w:Ca}{K:Aj}{mg:Au->Al Ac}{base:Bw}{cm:Ar}{k:Ai}{f:Af}{qual:Au}{params:Uu}{scope:Ey}{oc:Ac}{an:Al Af}{osl:Ax (Al Ac)}{x:Au}{kV doc pm cdv ct:Ac}{N ps:Aa Au}
  {A:Bt} {outer:Aa Kc} {s:Ag} {H:Hp} {args:Args} {us:Aa Ac} {vs:Aa V} {Q:VK} {E:XK} (lk:K.lookup f=Ab ⟨oc,od,.func (Gu x qual params body scope .none kV doc pm an cdv ct),osl⟩) (hcd:Ma K cdv qual=true) (S:FnScope N ps scope) (hl:vs.length=ps.length) (hr:RoomC cm (k+1) A)
  (e0:Env0 P w K mg base A outer s H) (hb:Om s (Gu x qual params body scope .none kV doc pm an cdv ct) args (ps.zip us)) (r:qJ vs us)
  (hbody:∃ t,PSs (cxC cm P w K mg base N qual scope f cdv A outer s H E) body t/\t { nx:=λ_ H'=>Q .non H',rt:=Q } (_L.xT N vs) H) :
  Iw (As P w) A (.call (.ref f) args) (CR (CXd P w) outer P w H s Q E) s:=by
 have KX:K.In s.heap:=e0.mod.kin.keeps λb o e=>(e0.bs b o e).1;have lim:s.heap.NoLimit:=e0.mod.nolimit.keeps λb o e=>(e0.bs b o e).1;have hkind:∀ y∈ps.zip us,scope.names.lookup y.1=Ab .local \/ (scope.names.lookup y.1=Ab .cell/\((Hx (s.heap.objs.size+1) scope.names []).lookup y.1).isSome=true):=λ⟨n,v⟩ hy=>by
  rcases S.par n (Pl hy).1 with q|q
  .exact .inl q
  .exact .inr ⟨q,Ky _ _ _ (.inl q)⟩
 refine Uv hr.depth (KX _ _ lk) rfl S.co S.gen rfl (Xf KX hcd) (hb _ _ _ _ ?_);refine Qw S.kind hkind λenv he s1 x=>?_;subst he;refine⟨lim.keeps x.toInCall.keep,codeAny_func ?_⟩;obtain⟨t,ht,hq⟩:=hbody;have I:Inv (cxC cm P w K mg base N qual scope f cdv A outer s H E) [] (_L.xT N vs) H s1:=o3 S hr.hd e0 hl r x;refine Hq (ht [] s1 (_L.xT N vs) H _ I hq) (λfl s' hs=>?_) λe s' hs=>hs;have fin:∀ {σ' : _L.St} {H':Hp} {v:V} {u:Ac},Inv (cxC cm P w K mg base N qual scope f cdv A outer s H E) [] σ' H' s'->qG v u->Q v H'->CE outer P w H s Q u s':=
  λ{σ' H' v u} J rv q=>⟨v,H',J.os,J.bare,J.base,J.hok,rv,q⟩
 cases fl with
 |ret u =>
  obtain⟨v,σ',H',J,rv,q⟩:=hs;exact fin J rv q
 |next =>
  obtain⟨σ',H',J,q⟩:=hs;exact fin (v:=V.non) (u:=Dq) J rfl q
 |brk =>
  obtain⟨_,_,_,q⟩:=hs;exact Aq q
 |cont =>
  obtain⟨_,_,_,q⟩:=hs;exact Aq q
def fH (K:Aj)(x:Au)(cdv:Ac):Prop:=∀ c T,Ep K x=Ab (c,T)->cdv=.ref c
theorem N0 {P:Bg}{w:Ca}{K:Aj}{mg:Au->Al Ac}{base:Bw}{cm:Ar}{k:Ai}{f:Af}{x qual:Au}{st:Gd}{fd:Fx}{N ps:Aa Au}(F:Fun K x qual st f fd)(S:FnScope N ps (qK st))
  (len:∀ vs H Q E,sp vs H Q E->vs.length=ps.length)
  (hbody:∀ (cdv:Ac) (A:Bt) (outer:Aa Kc) (s:Ag) (H:Hp) (vs:Aa V) (Q:VK) (E:XK),fd.code=cdv/\Mod K mg base->RoomC cm k (A.deeper (Hc qual (qK st) s.heap.objs.size f cdv))->sp vs H Q E ->
   ∃ t,PSs (cxC cm P w K mg base N qual (qK st) f cdv A outer s H E) (zU st) t/\t { nx:=λ_ H'=>Q .non H',rt:=Q } (_L.xT N vs) H) :
  FnX P w K mg base cm (k+1) f fd ps sp:=by
 obtain⟨oc,od,kV,doc,pm,an,cdv,ct,osl,rfl,lk,hcd⟩:=F.ex;exact⟨len,λA outer s H args us vs Q E hr e0 hb r hsp=>N1 lk hcd S (len _ _ _ _ hsp) hr e0 hb r (hbody cdv A outer s H vs Q E ⟨rfl,e0.mod⟩ (hr.deeper _) hsp)⟩
noncomputable def yF (n:Ai)(ds:Aa D):qB:=ds.map Ab++Aa4 (n-ds.length) none
noncomputable def AR:Out->Res D
 |.rt d S=>.ok d S
 |.nx _ S=>.ok .non S
 |.ex c x _ S=>.ex c x S
 |_=>.bad
noncomputable def qL (n:Ai)(g:DS):DF:=λds S=>AR (g (yF n ds) S)
def spR (K:Aj)(P:Hp)(α : Aa Af)(R:Res D)(Q:VK)(E:XK):Prop:=match R with
 |.ok d S'=>∀ v H' P' α',Rel K H' P' α' S'->qF P P'->α<+:α'->Rep K P' α' d v->Q v H'
 |.ex c _ S'=>∀ H' P' α',Rel K H' P' α' S'->qF P P'->α<+:α'->E c none H'
 |.bad=>Fv
def spD (K:Aj)(n:Ai)(F:DF):Sp:=λvs H Q E=>vs.length=n/\∃ P α ds S,Rel K H P α S/\qC K P α ds vs/\spR K P α (F ds S) Q E
theorem oQ {K:Aj}{P:Hp}{α:Aa Af}{N:Aa Au}{ds:Aa D}(r:qC K P α ds vs):zG K P α (_L.xT N vs) (yF N.length ds):=by
 refine⟨by simp[yF,_L.xT,r.length],λi d e=>?_⟩
 unfold yF at e;unfold _L.xT;by_cases hi:i<ds.length
 .rw[Bl (by simpa using hi),Dy] at e
  rw[Bl (by rw[Ak,<- r.length];exact hi),Dy]
  cases q:ds[i]? with
  |none=>rw[q] at e;cases e
  |some d' =>
   rw[q] at e;cases e;obtain⟨v,h1,h2⟩:=r.get q;exact⟨v,by rw[h1];rfl,h2⟩
 .rw[Dg (by simpa using hi),Tj] at e
  split at e <;> cases e
section
variable {P:Bg}{w:Ca}{K:Aj}{mg:Au->Al Ac}{base:Bw}{cm:Ar}
theorem WQ {qual:Au}{scope:Ey}{f:Af}{cdv:Ac}{A:Bt}{outer:Aa Kc}{s:Ag}{H P':Hp}{E:XK}{N:Aa Au}{g:DS}{α:Aa Af}{ds:Aa D}{S':Sto}(hb:PSs (cxC cm P w K mg base N qual scope f cdv A outer s H E) body (tDS (cxC cm P w K mg base N qual scope f cdv A outer s H E) g))
  (r:Rel K H P' α S') (rp:qC K P' α ds vs) (af:spR K P' α (qL N.length g ds S') Q E):∃ t,PSs (cxC cm P w K mg base N qual scope f cdv A outer s H E) body t/\t { nx:=λ_ H'=>Q .non H',rt:=Q } (_L.xT N vs) H:=by
 refine⟨_,hb,P',α,yF N.length ds,S',r,oQ rp,?_⟩;unfold qL at af;cases q:g (yF N.length ds) S' with
 |rt d S1=>rw[q] at af;exact λv H' P1 α1 r1 e1 e2 p1=>af v H' P1 α1 r1 e1 e2 p1
 |nx env S1=>rw[q] at af;exact λσ' H' P1 α1 r1 re1 e1 e2=>af .non H' P1 α1 r1 e1 e2 (by simp only[Rep])
 |bk env S1=>rw[q] at af;exact Aq af
 |ct env S1=>rw[q] at af;exact Aq af
 |ex c x env S1=>rw[q] at af;exact λu s' z=>Y1 (A:=A) rfl z λH' P1 α1 r1 e1 e2=>af H' P1 α1 r1 e1 e2
 |bad=>rw[q] at af;exact Aq af
theorem fnX {x qual:Au}{st:Gd}{f:Af}{fd:Fx}{N ps:Aa Au}{k:Ai}{g:DS}(F:Fun K x qual st f fd)(S:FnScope N ps (qK st))
  (hbody:∀ (cdv:Ac) (A:Bt) (outer:Aa Kc) (s:Ag) (H:Hp) (E:XK),fd.code=cdv/\Mod K mg base->RoomC cm k (A.deeper (Hc qual (qK st) s.heap.objs.size f cdv)) ->
   PSs (cxC cm P w K mg base N qual (qK st) f cdv A outer s H E) (zU st) (tDS (cxC cm P w K mg base N qual (qK st) f cdv A outer s H E) g)) :
  FnX P w K mg base cm (k+1) f fd ps (spD K ps.length (qL N.length g)):=by
 refine N0 F S (λvs H Q E h=>h.1) λcdv A outer s H vs Q E hc hr h=>?_;obtain⟨hl,P',α,ds,S',r,rp,af⟩:=h;exact WQ (hbody cdv A outer s H E hc hr) r rp af
end
section
variable {X:Cx}{cm:Ar}{k:Ai}{f:Af}{fd:Fx}{ps:Aa Au}{F:DF}{x:Au}{p pos:Fc}{e:By}{es:Aa By}{fa:DA}{n:Ai}
noncomputable def qE (n:Ai)(F:DF)(fa:DA):DE:=λenv S=>(fa env S).bind λds S1=>if ds.length=n then F ds S1 else .bad
def EX (X:Cx)(P:Hp)(α : Aa Af)(R:Res D):XK:=λc _ H'=>match R with
 |.ex c' _ S'=>c=c'/\∃ P' α',Rel X.K H' P' α' S'/\qF P P'/\α<+:α'
 |_=>Fv
theorem SX {P:Hp}{α:Aa Af}{R:Res D}(af:qV X P α R Q):spR X.K P α R Q (EX X P α R):=by
 cases R with
 |ok d S'=>exact af
 |ex c x S'=>exact λH' P' α' r' e1 e2=>⟨rfl,P',α',r',e1,e2⟩
 |bad=>exact af
theorem WS {pins:Aa (Af × Cu)}{σ:_L.St}{H:Hp}{s:Ag}{P:Hp}{α:Aa Af}{R:Res D}(hF:(∃ c x S',R=.ex c x S')->Fn1 X)(I:Inv X pins σ H s)(af:qV X P α R Q)
  (h:Iw (As X.prog X.w) X.A (.call u ⟨us,[]⟩) (CR (CXd X.prog X.w) X.stack X.prog X.w H s Q (EX X P α R)) s):Ap (As X.prog X.w) X.A (call u us) (EP X pins σ Q) X.xe s:=by
 refine Wl (Jm h λr s' hq=>?_);cases r with
 |error u =>
  have hq:CXd X.prog X.w X.stack H s (EX X P α R) u s':=hq;cases R with
  |ok d S'=>obtain⟨_,_,_,_,_,_,_,_,_,_,_,_,q⟩:=hq;exact Aq q
  |bad=>exact Aq af
  |ex c' x' S' =>
   have hG:=hF ⟨_,_,_,rfl⟩;obtain⟨a,c,H',rfl,I',fl,rfl,P',α',r',e1,e2⟩:=TZ I hG hq;exact af _ _ ⟨a,pins,σ,H',P',α',rfl,I',r',e1,e2,hG,fl⟩
 |ok fl =>
  cases fl with
  |ret u=>exact I.after hq
  |next=>exact Aq hq
  |brk=>exact Aq hq
  |cont=>exact Aq hq
theorem F1 {pins:Aa (Af × Cu)}{σ:_L.St}{H:Hp}{s:Ag}{P:Hp}{α:Aa Af}{ds:Aa D}(G:FnX X.prog X.w X.K X.mg X.base cm k f fd ps (spD X.K n F))(hr:RoomC cm k X.A)(hb:u7 X.K fd ps [])(hF:Fn1 X)
  (I:Inv X pins σ H s) (r:Rel X.K H P α S) (rv:qJ vs us) (rp:qC X.K P α ds vs) (hn:ds.length=n) (af:qV X P α (F ds S) Q):Ap (As X.prog X.w) X.A (call (.ref f) us) (EP X pins σ Q) X.xe s:=by
 have hsp:spD X.K n F vs H Q (EX X P α (F ds S)):=⟨by rw[<- rp.length];exact hn,P,α,ds,S,r,rp,SX af⟩
 have hl:us.length=ps.length:=by rw[<- rv.length];exact G.len _ _ _ _ hsp
 have hb':=hb s us I.kIn (by rw[Fq];exact hl)
 rw[Fq] at hb';exact WS (λ_=>hF) I af (G.run X.A X.stack s H ⟨us,[]⟩ us vs Q _ hr I.env0 hb' rv hsp)
theorem lH {env:qB}{S S1:Sto}{P:Hp}{α:Aa Af}{ds:Aa D}{Ok:D->Sto->Prop}(h:qI X P α (if ds.length=n then F ds S1 else .bad) Ok):ds.length=n/\qI X P α (F ds S1) Ok:=by
 by_cases hn:ds.length=n
 .rw[Bd hn] at h;exact⟨hn,h⟩
 .rw[Bf hn] at h;exact Aq h
theorem KG (G:FnX X.prog X.w X.K X.mg X.base cm k f fd ps (spD X.K n F))(hr:RoomC cm k X.A)(hF:Fn1 X)(hg:Gl X x)(hm:X.mg x=Ab (.ref f))(hk:Gv X.K (.ref f)=true)(hb:u7 X.K fd ps [])
  (ha:PA X (e::es) (tDA X fa)) (hdb:(x == ("__debug__" : Au))=false:=by decide) (he:Bo (e::es) X.env=(false,eval e X.env)::Bo es X.env:=by rfl) (hpl:(Gw pos (Bo es X.env)).any (·.1)=false:=by rfl) :
  PE X (.Call (.Name x p) (e::es) [] pos) (tD X (qE n F fa)):=by
 intro pins s σ H Q I h;obtain⟨P,α,env,S,r,re,af⟩:=h;refine Jf (bO I hg hm ?_ hdb);refine Xj (h₀:=X.base) I.ok.mod.kin hk (thn (wL ha I r re af pos) λus s1 ⟨vs,H1,P1,α1,ds,S1,I1,rv,r1,re1,rp,e1,e2,af1⟩=>⟨I1.kIn,?_⟩) he hpl;obtain⟨hn,af2⟩:=lH (env:=env) (S:=S) af1;exact F1 G hr hb hF I1 r1 rv rp hn (qV.base e1 e2 af2)
end
noncomputable abbrev sM:Aa Ac:=[.type "ValueError",.type "Exception",.type "BaseException",.type "object"]
noncomputable def E7:Ac->Ar
 |.str _ _=>true
 |_=>false
noncomputable def kQ (K:Aj)(N:Af):Ar:=(match Oo N K with
 |some o=>match o.data with
  |.dict es _=>es.toList.all λe=>E7 e.key
  |_=>false
 |none=>false)&&decide (Et K N "__init__" = Ab none)
theorem yB {K:Aj}{N:Af}(h:kQ K N=true):Aa6 K N=true/\Et K N "__init__" = Ab none:=by
 unfold kQ at h;rw[Bq,Cq] at h;refine⟨?_,h.2⟩;have h1:=h.1;unfold Aa6;cases e:Oo N K with
 |none=>rw[e] at h1;cases h1
 |some o =>
  rw[e] at h1;obtain⟨oc,od,dt,sl⟩:=o;cases dt with
  |dict es ep =>
   simp only at h1 ⊢;rw[Array.all_toList] at h1;refine Eq.trans (congrArg (λf=>Array.all es f) (funext λe=>?_)) h1;cases e.key <;> rfl
  |_=>cases h1
noncomputable def sA (K:Aj)(C:Af)(f:Ac->Yq->Ax (Al Ac)->Ar):Ar:=match Oo C K with
 |some o=>(match o.data with|.cls cd=>f o.cls cd o.slots|_=>false)
 |none=>false
theorem rZ {K:Aj}{f:Ac->Yq->Ax (Al Ac)->Ar}(h:sA K C f=true):∃ oc od cd sl,Oo C K=Ab ⟨oc,od,.cls cd,sl⟩/\f oc cd sl=true:=by
 unfold sA at h;cases e:Oo C K with
 |none=>rw[e] at h;exact Dv h
 |some o =>
  rw[e] at h;obtain⟨oc,od,dt,sl⟩:=o;cases dt with
  |cls cd=>exact⟨oc,od,cd,sl,rfl,h⟩
  |_=>exact Dv h
noncomputable def fO (K:Aj)(C A:Af):Ar:=sA K C λoc cd sl=>sA K A λ_ ca _=>decide (oc=.type "type")&&(decide (cd.mro=.ref C::.ref A::sM)&&(!cd.hasDel&&(kQ K cd.ns&&(kQ K ca.ns&&(decide (sl.toList.length=6)&&decide (sl.toList[4]? = Ab (Ab (.builtin "ValueError.__new__"))))))))
inductive ExcO (h:Bw)(C:Af):Prop
 |mk (nm q:Au) (N:Af) (bs bm:Aa Ac) (hdct:Ar) (sn:Aa Au) (sub:Aa Ac) (ab:Ar) (col:Al Ar) (dd:Al Af) (k0 k1 k2 k3 k5:Al Ac) (mN:Au->Al Ac) (hC:h.get? C=Ab (excClassObj nm q C N bs bm hdct sn sub ab col dd k0 k1 k2 k3 k5 "ValueError.__new__")) (hN:h.Ns N mN) (hni:mN "__init__" = none) (T:OwnTail h sM bm):ExcO h C
theorem nN {β:Type}{l:Aa β}{n:Ai}(h:l.length=n+1):∃ a t,l=a::t/\t.length=n:=by
 cases l with
 |nil=>exact Nat.noConfusion h
 |cons a t=>exact⟨a,t,rfl,Nat.succ.inj h⟩
theorem six {β:Type}{l:Aa β}(h:l.length=6):∃ a b c d e f,l=[a,b,c,d,e,f]:=by
 obtain⟨a,t,e1,h⟩:=nN h;obtain⟨b,t2,e2,h⟩:=nN h;obtain⟨c,t3,e3,h⟩:=nN h;obtain⟨d,t4,e4,h⟩:=nN h;obtain⟨e,t5,e5,h⟩:=nN h;obtain⟨f,t6,e6,h⟩:=nN h;exact⟨a,b,c,d,e,f,by rw[e1,e2,e3,e4,e5,e6,Kr.mp h]⟩
theorem L6 {cd:Yq}{tl:Aa Ac}{k0 k1 k2 k3 k4 k5:Al Ac}{n:Ek}(hm:cd.mro=.ref C::tl)(hd:cd.hasDel=false)(hs:sl.toList=[k0,k1,k2,k3,k4,k5])(hn:sl.toList[4]? = Ab (Ab (.builtin n))) :
  (⟨.type "type",od,.cls cd,sl⟩:Cu)=excClassObj cd.name cd.qualname C cd.ns cd.bases tl cd.hasDict cd.slotNames cd.subclasses cd.abstract cd.collection od k0 k1 k2 k3 k5 n:=by
 rw[hs] at hn;cases hn;cases cd;cases sl;cases hm;cases hd;cases hs;rfl
theorem GD {K:Aj}{h:Bw}{A:Af}{cd:Yq}(KI:K.In h)(e:Oo C K=Ab ⟨.type "type",od,.cls cd,sl⟩)(h2:cd.mro=.ref C::.ref A::sM)(h3:cd.hasDel=false)(h4:kQ K cd.ns=true)(h6:sl.toList.length=6)(h7:sl.toList[4]? = Ab (Ab (.builtin "ValueError.__new__")))(T:OwnTail h sM (.ref A::sM)):ExcO h C:=by
 obtain⟨k0,k1,k2,k3,x,k5,es⟩:=six h6;exact⟨_,_,_,_,_,_,_,_,_,_,_,k0,k1,k2,k3,k5,_,(KI _ _ e).trans (congrArg Ab (L6 h2 h3 es h7)),.of_isNs (Xk KI (yB h4).1),Sk KI (yB h4).1 (yB h4).2,T⟩
theorem GE {K:Aj}{h:Bw}{A:Af}(KI:K.In h)(z:fO K C A=true):ExcO h C:=by
 obtain⟨oc,od,cd,sl,e,z⟩:=rZ z;obtain⟨qc,qd,ca,ql,e2,z⟩:=rZ z;have a1:=Gj.mp z;have a2:=Gj.mp a1.2;have a3:=Gj.mp a2.2;have a4:=Gj.mp a3.2;have a5:=Gj.mp a4.2;have a6:=Gj.mp a5.2;rw[Ct a1.1] at e;exact GD KI e (Ct a2.1) (Ny _▸a3.1) a4.1 (Ct a6.1) (Ct a6.2) (.own (KI _ _ e2) (.of_isNs (Xk KI (yB a5.1).1)) (Sk KI (yB a5.1).1 (yB a5.1).2) .base)
section
variable {X:Cx}{pos:Fc}{fa:DA}
noncomputable def kS (c:Ac)(fa:DA):DS:=λenv S=>(fa env S).toS env λds S1=>if ds.length<=lim then .ex c .non env S1 else .bad
inductive GotAS (X:Cx)(pins:Aa (Af × Cu))(σ : _L.St)(env:qB)(P:Hp)(α : Aa Af)(us:Aa Ac)(s1:Ag)(k:Aa D->Sto->Out)(E:Ends):Prop
 |mk (vs:Aa V) (H1 P1:Hp) (α1:Aa Af) (ds:Aa D) (S1:Sto) (I:Inv X pins σ H1 s1) (rv:qJ vs us) (r:Rel X.K H1 P1 α1 S1) (re:zG X.K P1 α1 σ env) (rp:qC X.K P1 α1 ds vs) (e1:qF P P1) (e2:α<+:α1) (q:z9 X P1 α1 (k ds S1) E):GotAS X pins σ env P α us s1 k E
theorem KD {es:Aa By}{k:Aa D->Sto->Out}{pins:Aa (Af × Cu)}{s:Ag}{σ:_L.St}{H P:Hp}{α:Aa Af}{env:qB}{D:Ends}(he:PA X es (tDA X fa))(I:Inv X pins σ H s)(r:Rel X.K H P α S)
  (re:zG X.K P α σ env) (af:z9 X P α ((fa env S).toS env k) D) (pos:Fc) :
  Ap (As X.prog X.w) X.A (spliced (Gw pos (Bo es X.env))) (λus s1=>GotAS X pins σ env P α us s1 k D) X.xe s:=by
 have af1:qI X P α ((fa env S).bind λd S=>.ok d S) λd S=>z9 X P α (k d S) D:=by
  have:=xH af;cases q:fa env S <;> rw[q] at this <;> exact this
 exact thn (wL he I r re af1 pos) λu s1 ⟨vs,H1,P1,α1,ds,S1,I1,rv,r1,re1,rp,e1,e2,q⟩=>⟨vs,H1,P1,α1,ds,S1,I1,rv,r1,re1,rp,e1,e2,z9.base e1 e2 q⟩
theorem YF {x:Au}{Ae:Af}{e₀:By}{rest:Aa By}{np cpos:Fc}(hc:X.calm=true)(hF:Fn1 X)(hg:Gl X x)(hm:X.mg x=Ab (.ref C))(hx:fO X.K C Ae=true)(ha:PA X (e₀::rest) (tDA X fa))
  (hdb:(x == ("__debug__" : Au))=false:=by decide) (he:Bo (e₀::rest) X.env=(false,eval e₀ X.env)::Bo rest X.env:=by rfl) (hpl:(Gw cpos (Bo rest X.env)).any (·.1)=false:=by rfl) :
  PS X (.Raise (Ab (.Call (.Name x np) (e₀::rest) [] cpos)) none pos) (tDS X (kS (.ref C) fa)):=by
 intro pins s σ H D I h;obtain⟨P,α,env,S,r,re,af⟩:=h;obtain⟨nm,qn,N,bs,tl,hdct,sn,sub,ab,col,dd,k0,k1,k2,k3,k5,mN,hC,hN,hni,T⟩:=GE I.mod.kin hx;refine wpAny_Raise_call_subT (C:=C) (nm:=nm) (q:=qn) (N:=N) (bs:=bs) (bm:=tl) (hdct:=hdct) (sn:=sn) (sub:=sub) (ab:=ab) (col:=col) (dd:=dd) (k0:=k0) (k1:=k1) (k2:=k2) (k3:=k3) (k5:=k5)
  Rb (mN:=mN) (T.hasType Rb.hasBase) (I.ok.hd hc) (by rw[he];show (false||(Gw cpos (Bo rest X.env)).any (·.1))=false;rw[hpl];rfl) hni (bO I hg hm ⟨rfl,?_⟩ hdb)
 have run:=KD ha I r re af cpos;rw[he] at run ⊢;refine Vu (thn run λus s2 ⟨vs,H1,P1,α1,ds,S1,I1,rv,r1,re1,rp,e1,e2,q⟩=>?_);have hl:us.length=ds.length:=by rw[rp.length,rv.length]
 by_cases hz:ds.length<=lim
 .rw[Bd hz] at q
  refine⟨rfl,by rw[hl,<- zX];exact hz,I1.bk _ _ hC,hN.keeps I1.bk,T.keeps I1.bk,λh' e hm=>q _ _ ⟨e,pins,σ,H1,P1,α1,rfl,I1.kept (t':=s2.toks) hm.keeps,r1,qF.refl _,Be _,hF,.new s2.heap us hm I1.stack λb o eb old=>?_⟩⟩
  obtain⟨o1,q1⟩:=Old.there I1 hF old;have q2:=hm.keeps b o1 q1;rw[eb] at q2;cases q2;exact q1
 .rw[Bf hz] at q;exact Aq q
end
abbrev Cx.tryIn (X:Cx)(E:Ac->Ag->Prop)(pn:Aa (Af × Cu)):Cx:={ X with xe:=E,pn:=pn }
end _D
namespace _D
open PySem PySem.Spec PyProof.Rows _L PySem.W
structure ExnK (K:Aj)(C:Af):Prop where
 ga:findIn K (.ref C) "__getattribute__" = Ab (Ab (.builtin "BaseException.__getattribute__"))
 hk:findIn K (.ref C) "__getattr__" = Ab none
 cl:findIn K (.ref C) "__class__" = Ab (Ab (.builtin "object.__class__"))
 sp:specialIn K (.builtin "object.__class__") "__get__" = Ab (Ab (.builtin "getset_descriptor.__get__"))
 tk:takesIn K (.builtin "object.__class__")=Ab true
 mo:mroIn K C (.type "object")=Ab true
 mb:mroIn K C (.type "BaseException")=Ab true
 isC:(clsIn K C).isSome=true
end _D
namespace _D
open PySem PySem.Spec PyProof.Rows _L
variable {cells:Aa (Au × Af)}{α α1:Aa Af}{ds:Aa D}{E:Ac->Ag->Prop}{C:Af}{s:Ag}{K:Aj}{w:Ca}{o:Cu}{H P P1:Hp}{S S1:Sto}
theorem p7 {α:Type}{t:Ln α}{Q Q':α->Ag->Prop}{M:Pj}{A:Bt}(h:Ap M A t Q (λ_ _=>Fv) s)(hQ:∀ a s,Q a s->Q' a s):Ap M A t Q' E s:=Hq h hQ λ_ _ x=>x.elim
noncomputable def jI (ifs:Aa By)(env:Kc):Ln Ar:=forIn ifs true λc r=>if r=true then do let ok <- AaK c env (eval c env);pure (Lc ok) else pure (Lc r)
def PTs (X:Cx)(ifs:Aa By)(t:DT):Prop:=
 ∀ (pins:Aa (Af × Cu)) (s:Ag) (σ : _L.St) (H:Hp) (Q:Ar->Hp->Prop),Inv X pins σ H s->tDT X t σ H Q->Ap (As X.prog X.w) X.A (jI ifs X.env) (TP X pins σ Q) X.xe s
noncomputable def zW:DT:=λ_ S=>.ok true S
section
variable {X:Cx}
theorem fG {prog:Bg}{A:Bt}{env:Kc}{Q:Ar->Ag->Prop}:∀ (ifs:Aa By) {s:Ag},Q false s ->
  Ap (As prog w) A (forIn ifs false λc r=>if r=true then do let ok <- AaK c env (eval c env);pure (Lc ok) else pure (Lc r)) Q E s
 |[],s,h=>by rw[Nq];exact Am h
 |c::cs,s,h=>by
  rw[Mt];rw[Bf (by simp)]
  refine Ad (Am ?_);exact fG cs h
theorem G8:PTs X [] zW:=λpins s σ H Q I ⟨P,α,env,S,r,re,af⟩=>by
 unfold jI;rw[Nq];exact Am ⟨H,I,af H P α r (qF.refl _) (Be _)⟩
theorem YI {c:By}{cs:Aa By}{t u:DT}(h1:PT X c (tDT X t))(h2:PTs X cs u):PTs X (c::cs) (wG t u):=λpins s σ H Q I ⟨P,α,env,S,r,re,af⟩=>by
 unfold jI;rw[Mt,Bd rfl];refine Ad (Ad (thn (pR (λQ' q=>h1 pins s σ H Q' I q) r re af) λb s1 ⟨H1,P1,α1,S1,I1,r1,re1,e1,e2,af1⟩=>Am ?_));cases b with
 |true=>exact h2 pins s1 σ H1 Q I1 ⟨P1,α1,env,S1,r1,re1,wI.base e1 e2 af1⟩
 |false=>exact fG cs ⟨H1,I1,af1 H1 P1 α1 r1 e1 e2⟩
theorem AS {e:By}{f:DE}{pins:Aa (Af × Cu)}{σ:_L.St}{env:qB}{d:D}(he:PE X e (tD X f))(I:Inv X pins σ H s)(r:Rel X.K H P α S)(re:zG X.K P α σ env)(q:f env S=.ok d S1) :
  Ap (As X.prog X.w) X.A (eval e X.env) (λu s1=>∃ v H1 P1 α1,Got X pins σ env P α u s1 v H1 P1 α1 d S1) X.xe s:=by
 refine thn (zO (g:=λd S=>Res.ok d S) (Ok:=λd' S'=>d'=d/\S'=S1) he I r re (by rw[q];exact⟨rfl,rfl⟩)) λu s1 ⟨v,H1,P1,α1,d',S',G,h1,h2⟩=>?_
 have e1:d'=d:=h1;have e2:S'=S1:=h2;subst e1;subst e2;exact⟨v,H1,P1,α1,G⟩
theorem H9 {ifs:Aa By}{t:DT}{pins:Aa (Af × Cu)}{σ:_L.St}{env:qB}{b:Ar}(he:PTs X ifs t)(I:Inv X pins σ H s)(r:Rel X.K H P α S)(re:zG X.K P α σ env)(q:t env S=.ok b S1) :
  Ap (As X.prog X.w) X.A (jI ifs X.env) (λb' s1=>b'=b/\∃ H1 P1 α1,Inv X pins σ H1 s1/\Rel X.K H1 P1 α1 S1/\zG X.K P1 α1 σ env/\qF P P1/\α<+:α1) X.xe s:=by
 refine thn (he pins s σ H (λb' H1=>b'=b/\∃ P1 α1,Rel X.K H1 P1 α1 S1/\zG X.K P1 α1 σ env/\qF P P1/\α<+:α1) I ⟨P,α,env,S,r,re,?_⟩) λb' s1 ⟨H1,I1,e,P1,α1,q1,q2,q3,q4⟩=>⟨e,H1,P1,α1,I1,q1,q2,q3,q4⟩;rw[q];exact λH' P' α' r' e1 e2=>⟨rfl,P',α',r',re.mono e1 e2,e1,e2⟩
theorem AU {tg:By}{g:DG}{pins:Aa (Af × Cu)}{σ:_L.St}{env env1:qB}{d:D}{v:V}{u:Ac}(hg:PG X tg (tDG X g))(I:Inv X pins σ H s)(r:Rel X.K H P α S)(re:zG X.K P α σ env)(rv:qG v u)
  (rp:Rep X.K P α d v) (q:g d env S=.ok env1 S1) :
  Ap (As X.prog X.w) X.A (assign tg X.env u) (λ_ s1=>∃ σ1 H1 P1 α1,Inv X pins σ1 H1 s1/\Rel X.K H1 P1 α1 S1/\zG X.K P1 α1 σ1 env1/\qF P P1/\α<+:α1) X.xe s:=by
 refine thn (hg pins s σ H v u (λσ1 H1=>∃ P1 α1,Rel X.K H1 P1 α1 S1/\zG X.K P1 α1 σ1 env1/\qF P P1/\α<+:α1) I rv ⟨P,α,env,S,d,r,re,rp,?_⟩) λ_ s1 ⟨σ1,H1,I1,P1,α1,q1,q2,q3,q4⟩=>⟨σ1,H1,P1,α1,I1,q1,q2,q3,q4⟩;rw[q];exact λσ' H' P' α' r' re' e1 e2=>⟨P',α',r',re',e1,e2⟩
def pJ (K:Aj)(P:Hp)(α : Aa Af)(ds:Aa D)(o:Cu):Prop:=∃ (its:Aa Ac) (n:Ai) (vs:Aa V),o={ cls:=.type "list",data:=.seq its.toArray n } /\ qJ vs its/\qC K P α ds vs/\ds.length<=lim
theorem pJ.mono (e:qF P P1)(h:α<+:α1)(a:pJ K P α ds o):pJ K P1 α1 ds o:=by
 obtain⟨its,n,vs,q1,q2,q3,q4⟩:=a;exact⟨its,n,vs,q1,q2,qC.mono e h _ _ q3,q4⟩
theorem pJ.cell (a:pJ K P α ds o):∀ v,o.data≠.cell v:=by
 obtain⟨its,n,vs,rfl,_⟩:=a;intro v z;cases z
theorem Inv.pin1 {pins:Aa (Af × Cu)}{σ:_L.St}{a:Af}(I:Inv X pins σ H s)(f:xC X pins H a)(e:s.heap.get? a=Ab o)(d:∀ v,o.data≠.cell v):Inv X (pins++[(a,o)]) σ H s:=
 I.pins_of λp hp=>(Bz.mp hp).elim (λz=>I.pin p (Bu _ z)) λz=>by
  have e':p=(a,o):=by simpa using z
  subst e';exact⟨e,f.1,f.2.1,f.2.2.1,d⟩
theorem Inv.pinned1 {pins:Aa (Af × Cu)}{σ:_L.St}{a:Af}(I:Inv X (pins++[(a,o)]) σ H s):s.heap.get? a=Ab o/\H a=none:=by
 have:=I.pin (a,o) (Bu _ (Bu _ (by simp)))
 exact⟨this.1,this.2.1⟩
end
structure Acc where
 m:Ar
 O:Aj->Hp->Aa Af->Aa D->Cu->Prop
 mono:∀ {K:Aj} {P P1:Hp} {α α1:Aa Af} {ds:Aa D} {o:Cu},qF P P1->α<+:α1->O K P α ds o->O K P1 α1 ds o
 cell:∀ {K:Aj} {P:Hp} {α : Aa Af} {ds:Aa D} {o:Cu},O K P α ds o->∀ v,o.data≠.cell v
@[reducible] def accL:Acc:=⟨false,pJ,pJ.mono,pJ.cell⟩
noncomputable def xN (m:Ar)(elt:By)(gens:Aa DL)(scope:Ey)(pos:Fc):By:=match m with
 |false=>.ListComp elt gens scope pos
 |true=>.SetComp elt gens scope pos
structure TurnSt (B:Acc)(Y:Cx)(pins:Aa (Af × Cu))(P1:Hp)(α1:Aa Af)(fp:Aa Af)(acc:Af)(env:qB)(S:Sto)(ds:Aa D)(s:Ag)(σ : _L.St)(H P:Hp)(α : Aa Af)(o:Cu):Prop where
 inv:Inv Y pins σ H s
 rel:Rel Y.K H P α S
 env:zG Y.K P α σ env
 same:qF P1 P
 pre:α1<+:α
 fpn:∀ b∈fp,H b=none
 acn:H acc=none
 at':s.heap.get? acc=Ab o
 acc:B.O Y.K P α ds o
noncomputable def yY (cells:Aa (Au × Af)):Aa (Au × Ik)->Aa (Au × Af)->Aa (Au × Af)
 |[],cs=>cs
 |(n,k)::r,cs=>yY cells r (if k == .free then (n,(cells.lookup n).getD 0)::cs else cs)
theorem dA {env:Kc}{scope:Ey}(h:∀ y∈scope.names,y.2=.free->∃ c,env.cells.lookup y.1=Ab c):closureFor scope env=pure (yY env.cells scope.names []):=by
 have go:∀ (l:Aa (Au × Ik)) (cs:Aa (Au × Af)),(∀ y∈l,y.2=.free->∃ c,env.cells.lookup y.1=Ab c) ->
   (forIn l cs λx cs=>match x with|(name,kind)=>if (kind == Hz)=true then do let a <- cellOf env name;pure (Lc ((name,a)::cs)) else pure (Lc cs):Ln (Aa (Au × Af)))=pure (yY env.cells l cs):=by
  intro l
  induction l with
  |nil=>intro cs _;rfl
  |cons y r ih =>
   intro cs hl;obtain⟨n,k⟩:=y;rw[Mt];by_cases hk:k=.free
   .subst hk
    obtain⟨c,hc⟩:=hl (n,.free) Dl rfl;have hc':env.cells.lookup n=Ab c:=hc;have e:cellOf env n=pure c:=by unfold cellOf;rw[hc']
    simp only[Gk,Ds,e,pure_bind];rw[ih _ λz hz=>hl z (Cn _ hz)];simp only[yY,Gk,Ds,hc',Sz]
   .have hb:(k == Hz)=false:=by simpa using hk
    simp only[hb,Cb,Ef,pure_bind];rw[ih _ λz hz=>hl z (Cn _ hz)];simp only[yY,hb,Cb,Ef]
 unfold closureFor;have:=go scope.names [] h;simp only[bind_pure];exact this
theorem f6 {x:Au}{c:Af}:∀ (l:Aa (Au × Ik)) (cs:Aa (Au × Af)),(yY cells l cs).lookup x=Ab c->cs.lookup x=Ab c\/((x,Hz)∈l/\c=(cells.lookup x).getD 0)
 |[],cs,h=>.inl h
 |(n,k)::r,cs,h=>by
  rcases f6 r _ h with h|⟨h1,h2⟩
  .by_cases hk:k=.free
   .subst hk
    simp only[Gk,Ds,Kk] at h;cases hb:x == n with
    |true =>
     rw[hb] at h;have e:x=n:=by simpa using hb
     subst e;exact .inr ⟨Dl,(Dd h).symm⟩
    |false=>rw[hb] at h;exact .inl h
   .have hb:(k == Hz)=false:=by simpa using hk
    simp only[hb,Cb,Ef] at h;exact .inl h
  .exact .inr ⟨Cn _ h1,h2⟩
theorem lF {x:Au}:∀ (l:Aa (Au × Ik)) (cs:Aa (Au × Af)),((x,Hz)∈l\/∃ c,cs.lookup x=Ab c)->∃ c,(yY cells l cs).lookup x=Ab c
 |[],cs,h=>by
  rcases h with h|h
  .cases h
  .exact h
 |(n,k)::r,cs,h=>by
  refine lF r _ ?_;rcases h with h|⟨c,h⟩
  .rcases Az.mp h with e|h
   .cases e
    exact .inr ⟨(cells.lookup x).getD 0,by simp only[Gk,Ds,Kk]⟩
   .exact .inl h
  .by_cases hk:k=.free
   .subst hk
    simp only[Gk,Ds,Kk];cases hb:x == n with
    |true=>exact .inr ⟨_,rfl⟩
    |false=>exact .inr ⟨c,h⟩
   .have hb:(k == Hz)=false:=by simpa using hk
    simp only[hb,Cb,Ef];exact .inr ⟨c,h⟩
structure CompSc (scX:Ey)(NX:Aa Au)(scope:Ey)(N':Aa Au)(cap:Aa (Al Ai)):Prop where
 kind:scope.kind=.function
 names:∀ y∈scope.names,y.2=.local -> scope.names.lookup y.1=Ab .local
 cel:∀ y∈scope.names,y.2=.cell->scope.names.lookup y.1=Ab .cell
 free:∀ y∈scope.names,y.2=.free->scX.names.lookup y.1=Ab .cell\/scX.names.lookup y.1=Ab .free
 fr2:∀ y∈scope.names,y.2=.free->scope.names.lookup y.1=Ab .free
 len:cap.length=N'.length
 caps:((cap.zip N').all λp=>match p.1 with|none=>true|some i=>NX[i]? == Ab p.2&&scope.names.lookup p.2 == Ab .free)=true
 nd:N'.Nodup
noncomputable def vA (cap:Aa (Al Ai))(σ : _L.St):_L.St:=cap.map λo=>match o with
 |none=>none
 |some i=>(σ[i]?).join
noncomputable def x8 (cap:Aa (Al Ai))(env:qB):qB:=cap.map λo=>match o with
 |none=>none
 |some i=>(env[i]?).join
theorem W1 {σ:_L.St}{env:qB}(re:zG K P α σ env)(cap:Aa (Al Ai)):zG K P α (vA cap σ) (x8 cap env):=by
 refine⟨by simp[vA,x8],λj d e=>?_⟩
 unfold x8 at e;unfold vA;rw[Dy] at e ⊢;cases q:cap[j]? with
 |none=>rw[q] at e;cases e
 |some o =>
  rw[q] at e;cases o with
  |none=>cases e
  |some i =>
   have e':(env[i]?).join=Ab d:=by simpa using e
   cases z:env[i]? with
   |none=>rw[z] at e';cases e'
   |some w =>
    rw[z] at e';have e'':w=Ab d:=e';subst e'';obtain⟨v,h1,h2⟩:=re.2 i d z;exact⟨v,by simp[h1],h2⟩
noncomputable def qW (X:Cx)(N':Aa Au)(scope:Ey)(cl:Aa (Au × Af))(C:Af)(ex:Aa Af)(s₀:Ag)(H₀:Hp):Cx:=
 { X with N:=N',s₀:=s₀,H₀:=H₀,env:=compEnvC scope cl C X.env,outer:=X.stack,stack:=X.stack,ex:=ex,fn:=λx=>decide (scope.names.lookup x=Ab .cell),pn:=[],xe:=λ_ _=>Fv }
theorem jD {scope:Ey}{env:Kc}:∀ {names:Aa (Au × Ik)} {x:Au} {k:Ik},
  (names.map λ(n,k)=>if (k == Hz&&env.scope.kind == .function&&env.kindOf n == Ab .cell) then (n,Op) else (n,k)).lookup x=Ab k ->
  names.lookup x=Ab k\/(k=.cell/\names.lookup x=Ab .free)
 |[],_,_,h=>by simp at h
 |(n,k0)::r,x,k,h=>by
  rw[De,Kk] at h;rw[Kk];dsimp only at h;cases hb:(k0 == Hz&&env.scope.kind == .function&&env.kindOf n == Ab .cell) with
  |true =>
   rw[hb] at h;simp only[Ds] at h;cases hx:x == n with
   |true =>
    rw[hx] at h;have e:Op=k:=Dd h;have hk:k0=.free:=by
     have:=(Bq _ _).mp hb;have:=(Bq _ _).mp this.1;simpa using this.1
    subst hk;exact .inr ⟨e.symm,rfl⟩
   |false=>rw[hx] at h;exact jD (scope:=scope) h
  |false =>
   rw[hb] at h;simp only[Cb,Ef] at h;cases hx:x == n with
   |true=>rw[hx] at h;exact .inl h
   |false=>rw[hx] at h;exact jD (scope:=scope) h
section
variable {X:Cx}{scope:Ey}{N':Aa Au}{cap:Aa (Al Ai)}{pins:Aa (Af × Cu)}{σ : _L.St}{H2:Hp}{s2:Ag}{fp:Aa Af}
theorem gA (S:CompSc X.env.scope X.N scope N' cap){x:Au}{k:Ik}(h:(relabel scope X.env).names.lookup x=Ab k):scope.names.lookup x=Ab k\/(k=.cell/\scope.names.lookup x=Ab .free):=jD (scope:=scope) h
theorem QR (S:CompSc X.env.scope X.N scope N' cap)(ok:X.Ok){x:Au}{c:Af}(h:(yY X.env.cells scope.names []).lookup x=Ab c):X.env.cells.lookup x=Ab c/\(x,Hz)∈scope.names:=by
 rcases f6 _ _ h with h|⟨hm,hc⟩
 .cases h
 .have:=S.free _ hm rfl
  obtain⟨c',hc'⟩:=ok.has x this;rw[hc',Sz] at hc;rw[hc',hc];exact⟨rfl,hm⟩
noncomputable def VS (scope:Ey)(C:Af):Aa (Au × Af):=Hx (C+1) scope.names []
noncomputable def kZ (X:Cx)(scope:Ey)(C:Af):Aa (Au × Af):=Hx (C+1) scope.names (yY X.env.cells scope.names [])
theorem yR:∀ (names:Aa (Au × Ik)) (lo:Ai) (acc:Aa (Au × Af)),Hx lo names acc=Hx lo names [] ++ acc
 |[],_,_=>rfl
 |(n,k)::r,lo,acc=>by
  unfold Hx
  split
  .rw[yR r _ ((n,lo)::acc),yR r _ [(n,lo)],Ch];rfl
  .exact yR r lo acc
set_option tactic.hygienic true in
theorem pN:∀ (names:Aa (Au × Ik)) (lo:Ai) {n:Au} {c:Af},(n,c)∈Hx lo names [] -> (n,Op)∈names
 |[],_,_,_,h=>by cases h
 |(n0,k)::r,lo,n,c,h=>by
  unfold Hx at h
  split at h
  .rename_i hk
   rw[yR] at h;rcases Bz.mp h with h|h
   .exact Cn _ (pN r _ h)
   .have e:(n,c)=(n0,lo):=by simpa using h
    cases e;have:k=Op:=by simpa using hk
    rw[this];exact Dl
  .exact Cn _ (pN r _ h)
theorem xE (S:CompSc X.env.scope X.N scope N' cap)(ok:X.Ok){C:Af}{x:Au}{c:Af}(h:(kZ X scope C).lookup x=Ab c):((x,c)∈VS scope C/\scope.names.lookup x=Ab .cell)\/(X.env.cells.lookup x=Ab c/\(x,Hz)∈scope.names):=by
 unfold kZ at h;rw[yR,Xl] at h;cases q:(Hx (C+1) scope.names []).lookup x with
 |some c' =>
  rw[q] at h;cases h;have m:=Gp q;exact .inl ⟨m,S.cel _ (pN _ _ m) rfl⟩
 |none =>
  rw[q] at h;exact .inr (QR S ok h)
theorem sW (S:CompSc X.env.scope X.N scope N' cap)(ok:X.Ok){C:Af}{x:Au}(h:scope.names.lookup x=Ab .cell\/scope.names.lookup x=Ab .free):∃ c,(kZ X scope C).lookup x=Ab c:=by
 unfold kZ;rw[yR,Xl];rcases h with h|h
 .have:=Ky scope.names (C+1) [] (x:=x) (.inl h)
  obtain⟨c,hc⟩:=Nb.mp this;exact⟨c,by rw[hc];rfl⟩
 .obtain⟨c',hc'⟩:=lF (cells:=X.env.cells) scope.names [] (.inl (Gp h))
  rw[hc'];cases (Hx (C+1) scope.names []).lookup x with
  |none=>exact⟨c',rfl⟩
  |some c=>exact⟨c,rfl⟩
theorem KB (S:CompSc X.env.scope X.N scope N' cap)(I2:Inv X pins σ H2 s2)(hf:∀ b∈fp,xC X pins H2 b)(hlt:∀ b∈fp,b<s2.heap.objs.size)(hC:s2.heap.objs.size<=C){h1:Bw}(co:CellsOk h1 (C+1) (VS scope C)) :
  (qW X N' scope (kZ X scope C) C fp s2 H2).Ok where
 mod:=I2.ok.mod
 kind:=S.kind
 glob:=I2.ok.glob
 blt:=I2.ok.blt
 above:=hC
 inj:=λx y c h1 h2=>by
  rcases xE S I2.ok h1 with⟨m1,_⟩|⟨m1,_⟩ <;> rcases xE S I2.ok h2 with⟨m2,_⟩|⟨m2,_⟩
  .exact PySem.name_of_addr co.apart m1 m2
  .obtain⟨v,ob,hob,_⟩:=I2.cell y c m2
   exact absurd (Bh (Ba hob) hC) (Lo.mpr (Fi (co.empty x c m1).2))
  .obtain⟨v,ob,hob,_⟩:=I2.cell x c m1
   exact absurd (Bh (Ba hob) hC) (Lo.mpr (Fi (co.empty y c m2).2))
  .exact I2.ok.inj x y c m1 m2
 has:=λx hx=>by
  have hx':(relabel scope X.env).names.lookup x=Ab .cell\/(relabel scope X.env).names.lookup x=Ab .free:=hx;refine sW S I2.ok ?_;rcases hx' with h|h
  .rcases gA S h with h|⟨_,h⟩
   .exact .inl h
   .exact .inr h
  .rcases gA S h with h|⟨z,_⟩
   .exact .inr h
   .cases z
 cab:=λx c h h2=>by
  have hx:scope.names.lookup x=Ab .cell:=Ct h;rcases xE S I2.ok h2 with⟨m,_⟩|⟨_,m⟩
  .exact Df hC (Fi (co.empty x c m).2)
  .have:=S.fr2 _ m rfl
   have this':scope.names.lookup x=Ab .free:=this;rw[hx] at this';cases this'
 hd:=I2.ok.hd
 frames:=I2.ok.frames
 stk:=.inl rfl
 exf:=λb hb=>⟨Cw (Bh (hlt b hb) hC),λx c h=>by
  rcases xE S I2.ok h with⟨m,_⟩|⟨m,_⟩
  .exact Fb (Cw (Io (Bh (hlt b hb) hC) (co.empty x c m).2))
  .exact(hf b hb).2.2.2.2.1 x c m⟩
 bs:=I2.bs
 bsz:=Df I2.ok.bsz I2.sz
 noex:=λb o e hb=>by
  obtain⟨_,_,_,h,_⟩:=hf b hb;rcases h with h|h
  .exact I2.ok.noex b o e h
  .exact absurd (Bh (Ba e) (Df I2.ok.bsz h)) (Ei _)
 exfs:=λb hb hb2=>by
  obtain⟨_,h1,h2,_⟩:=hf b hb;rcases Az.mp (I2.stkSub b hb2) with z|z
  .exact h1 z
  .exact h2 z
 funs:=I2.stack
 frf:=I2.stkFree
theorem WY {s4:Ag}{m:Au->Al Ac}(S:CompSc X.env.scope X.N scope N' cap)(I2:Inv X pins σ H2 s2)(hf:∀ b∈fp,xC X pins H2 b)(hlt:∀ b∈fp,b<s2.heap.objs.size)(hC:s2.heap.objs.size<=C)
  (hn:s4.heap.Ns C m) (os:s4.os=s2.os) (gens:s4.gens=s2.gens) (keep:∀ b o,s2.heap.get? b=Ab o->s4.heap.get? b=Ab o) (co:CellsOk s4.heap (C+1) (VS scope C)) :
  Inv (qW X N' scope (kZ X scope C) C fp s2 H2) [] (vA cap σ) H2 s4 where
 ok:=KB S I2 hf hlt hC co
 os:=os
 bare:=gens▸I2.bare
 base:=Un.kept keep
 loc:=by
  refine⟨m,hn,λj x v h1 h2 h3=>?_⟩;have h1':N'[j]? = Ab x:=h1;unfold vA at h2;rw[Dy] at h2;cases q:cap[j]? with
  |none=>rw[q] at h2;cases h2
  |some o =>
   rw[q] at h2;cases o with
   |none=>cases h2
   |some i =>
    have e':(σ[i]?).join=Ab v:=by simpa using h2
    have hσ:σ[i]? = Ab (Ab v):=by
     cases z:σ[i]? with
     |none=>rw[z] at e';cases e'
     |some w=>rw[z] at e';have:w=Ab v:=e';rw[this]
    have hz:(Ab i,x)∈cap.zip N':=by
     refine List.mem_iff_getElem?.mpr ⟨j,?_⟩;rw[List.getElem?_zip_eq_some];exact⟨q,h1'⟩
    have hc:=Cf.mp S.caps _ hz;simp only[Bq,Wm] at hc;obtain⟨hN,hfr⟩:=hc;have hk:=S.free _ (Gp hfr) rfl;obtain⟨mo,hmo,hl⟩:=I2.loc;have vis:Vis X.env.scope x:=by
     rcases hk with k|k
     .exact .inr (.inl k)
     .exact .inr (.inr k)
    obtain⟨u,ru,lk⟩:=hl i x v hN hσ vis;refine⟨u,ru,?_⟩;rcases lk with⟨kl,_⟩|⟨_,c,hcl,hcell⟩
    .have kl':X.env.scope.names.lookup x=Ab .local:=kl
     rcases hk with k|k
     .have k':X.env.scope.names.lookup x=Ab .cell:=k
      rw[kl'] at k';cases k'
     .have k':X.env.scope.names.lookup x=Ab .free:=k
      rw[kl'] at k';cases k'
    .obtain⟨c',hc'⟩:=sW S I2.ok (C:=C) (.inr hfr)
     have e2:X.env.cells.lookup x=Ab c':=by
      rcases xE S I2.ok hc' with⟨_,z⟩|⟨z,_⟩
      .rw[hfr] at z;cases z
      .exact z
     rw[hcl] at e2;cases e2;refine .inr ⟨?_,c,hc',?_⟩
     .have h3':Vis (relabel scope X.env) x:=h3
      rcases h3' with h|h|h
      .rcases gA S h with h|⟨z,_⟩
       .rw[hfr] at h;cases h
       .cases z
      .exact .inl h
      .exact .inr h
     .obtain⟨ob,hob,hd⟩:=hcell
      exact⟨ob,keep c ob hob,hd⟩
 cell:=λx c h=>by
  rcases xE S I2.ok h with⟨m,_⟩|⟨m,_⟩
  .exact⟨none,(co.empty x c m).1⟩
  .obtain⟨v,ob,hob,hd⟩:=I2.cell x c m
   exact⟨v,ob,keep c ob hob,hd⟩
 free:=I2.hok.fresh hC
 freeC:=λx c h=>by
  rcases xE S I2.ok h with⟨m,_⟩|⟨m,_⟩
  .exact I2.hok.fresh (Df hC (Fi (co.empty x c m).2))
  .exact I2.freeC x c m
 pin:=λp hp=>absurd (show p∈([]:Aa (Af × Cu)) from hp) (by simp)
 hok:=I2.hok.kept keep
 len:=by
  show (vA cap σ).length=N'.length;simp[vA,S.len]
end
theorem ZM {P:Bg}{h:Bw}{a:Af}{o:HO}(x:HOk P w H h)(hn:H a=none)(new:zL P w (upd H a o) h a o):HOk P w (upd H a o) h:=λb u e=>by
 by_cases hb:b=a
 .subst hb;rw[zD] at e;cases e;exact new
 .rw[qP hb] at e
  exact(x b u e).stay (λc v _ q=>q) (λc q=>by rw[qP (zF q hn)];exact q) λc xs q=>by rw[qP (zF q hn)];exact q
theorem ZL {P:Bg}{h h':Bw}(x:HOk P w H h)(hn:H C=none)(k:∀ b o,b≠C->h.get? b=Ab o->h'.get? b=Ab o):HOk P w H h':=λb u e =>
 (x b u e).stay (λc v hc q=>k c v (by
  rintro rfl;rcases hc with z|z
  .subst z;rw[hn] at e;cases e
  .rw[hn] at z;cases z) q) (λ_ q=>q) λ_ _ q=>q
section
variable {X:Cx}{elt tg iter:By}{ifs:Aa By}{scope:Ey}{pos:Fc}{N':Aa Au}{cap:Aa (Al Ai)}{fi:DI}{g:DG}{t:DT}{fe:DE}
def kB (X:Cx)(pins:Aa (Af × Cu))(σ : _L.St)(P1:Hp)(α1:Aa Af)(ds:Aa D)(SF:Sto)(acc C:Af)(s:Ag):Prop:=
 ∃ (H' P':Hp) (α' : Aa Af) (vs:Aa V),Inv X pins σ (upd H' acc (.lst vs)) s/\Rel X.K H' P' α' SF/\H' acc=none/\qF P1 P'/\α1<+:α'/\qC X.K P' α' ds vs/\H' C=none
theorem sV {Y:Cx}{pins:Aa (Af × Cu)}{σ σ':_L.St}{H2:Hp}{s2 s':Ag}{fp:Aa Af}{acc:Af}{H' P':Hp}{α':Aa Af}{envF:qB}{SF:Sto}{cl:Aa (Au × Af)}(I2:Inv X pins σ H2 s2)
  (hf:∀ b∈fp,xC X pins H2 b) (hY:Y=qW X N' scope cl C fp s2 H2) (hC:s2.heap.objs.size<=C) (hA:s2.heap.objs.size<=acc) (hne:acc≠C) (st:TurnSt accL Y [] P1 α1 fp acc envF SF ds s' σ' H' P' α' o)
  {h':Bw} (sb:Ez C s'.heap h'):kB X pins σ P1 α1 ds SF acc C { s' with heap:=h' }:=by
 subst hY;obtain⟨its,n,vs,rfl,rv,rp,hz⟩:=st.acc;have kC:∀ b o,b≠C->s'.heap.get? b=Ab o->h'.get? b=Ab o:=λb o hb e=>(sb.2 b hb).trans e;have nC:∀ b o,s2.heap.get? b=Ab o->b≠C:=λb o e=>Cw (Bh (Ba e) hC);have nA:∀ b o,s2.heap.get? b=Ab o->b≠acc:=λb o e=>Cw (Bh (Ba e) hA);have base:Un (frs X.stack) fp H2 H' s2.heap s'.heap:=st.inv.base;have nt:∀ b u,H' b=Ab u->b≠acc:=λb u e=>zF e st.acn;have un:Un (frs X.stack) fp H2 (upd H' acc (.lst vs)) s2.heap h':=by
  refine⟨λb ob q hn hb hx=>kC b ob (nC b ob q) (base.keep b ob q hn hb hx),λb ob q hn hb hx=>?_,λb ob q hn hx=>?_,λb ob q hx=>?_,λb xs q=>?_,λb ob u q=>?_,λb ps q=>?_⟩
  .obtain⟨sl,e⟩:=base.slot b ob q hn hb hx
   exact⟨sl,kC b _ (nC b ob q) e⟩
  .rw[qP (nA b ob q)];exact base.free b ob q hn hx
  .obtain⟨o',e⟩:=base.there b ob q hx
   exact⟨o',kC b o' (nC b ob q) e⟩
  .have:=base.tups b xs q;rw[qP (nt _ _ this)];exact this
  .have:=base.frzs b ob u q;rw[qP (nt _ _ this)];exact this
  .obtain⟨more,e⟩:=base.tbls b ps q
   exact⟨more,by rw[qP (nt _ _ e)];exact e⟩
 have hok':HOk X.prog X.w H' h':=ZL st.inv.hok st.inv.free kC;have hat:h'.get? acc=Ab { cls:=.type "list",data:=.seq its.toArray n }:=kC acc _ hne st.at';have hok:HOk X.prog X.w (upd H' acc (.lst vs)) h':=ZM hok' st.acn ⟨by rw[<- rp.length,<- zX];exact hz,its,n,rv,hat⟩
 refine⟨H',P',α',vs,?_,st.rel,st.acn,st.same,st.pre,rp,st.inv.free⟩;exact I2.call' (s':={ s' with heap:=h' }) (ch:=fp) (st.inv.os) un hok st.inv.bare λb hb=>by
  obtain⟨_,h1,h2,h3,h4,h5⟩:=hf b hb;exact⟨h3,h1,h4,h5⟩
theorem cF (S:CompSc X.env.scope X.N scope N' cap)(ok:X.Ok):closureFor scope X.env=pure (yY X.env.cells scope.names []):=dA λy hy hk=>ok.has y.1 (S.free y hy hk)
theorem GB {pins:Aa (Af × Cu)}{σ:_L.St}{SF:Sto}{acc:Af}{Q:VK}(c:kB X pins σ P1 α1 ds SF acc C s)(ok:OkV X P1 α1 Q (.lst ds) SF):EP X pins σ Q (.ref acc) s:=by
 obtain⟨H',P',α',vs,I,r,hn,e1,e2,rp,_⟩:=c;exact⟨.ref acc,_,I,rfl,yM r hn rp λv H2 P2 α2 r2 q1 q2 q3=>ok v H2 P2 α2 r2 (e1.trans q1) (e2.trans q2) q3⟩
end
end _D
section
namespace _D
open PySem PySem.Spec PyProof.Rows _L PySem.SeqAt
noncomputable def b01 (b:Ar):An:=if b then 1 else 0
mutual
noncomputable def eqD:D->D->Ar
 |.non,.non=>true
 |.bl a,.bl b=>a == b
 |.bl a,.int b=>b01 a == b
 |.int a,.bl b=>a == b01 b
 |.int a,.int b=>a == b
 |.str a,.str b=>a == b
 |.tup xs,.tup ys=>xF xs ys
 |.lst xs,.lst ys=>xF xs ys
 |_,_=>false
noncomputable def xF:Aa D->Aa D->Ar
 |[],[]=>true
 |x::xs,y::ys=>eqD x y&&xF xs ys
 |_,_=>false
end
noncomputable def pl:Ai->D->Ar
 |_,.non=>true
 |_,.bl _=>true
 |_,.int _=>true
 |_,.str _=>true
 |n+1,.tup xs=>xs.all (pl n)
 |n+1,.lst xs=>xs.all (pl n)
 |_,_=>false
theorem lJ (x y:D)(xs ys:Aa D):xF (x::xs) (y::ys)=(eqD x y&&xF xs ys):=rfl
theorem wM:∀ (xs ys:Aa D),xF xs ys=((Cz (min xs.length ys.length)).all (λj=>eqD (xs.getD j .non) (ys.getD j .non))&&xs.length == ys.length)
 |[],[]=>rfl
 |[],y::ys=>rfl
 |x::xs,[]=>rfl
 |x::xs,y::ys=>by
  have ih:=wM xs ys;rw[lJ,ih,AT,AT,Nat.succ_min_succ,Ja,Rw,Jn,Bool.and_assoc];have e:(xs.length+1 == ys.length+1)=(xs.length == ys.length):=by simp
  rw[e];rfl
theorem YN {xs ys:Aa D}(h:xs.length≠ys.length):xF xs ys=false:=by
 rw[wM];simp[h]
theorem tR (xs ys:Aa D):eqD (.tup xs) (.tup ys)=xF xs ys:=rfl
theorem tQ (xs ys:Aa D):eqD (.lst xs) (.lst ys)=xF xs ys:=rfl
section
variable {X:Cx}{pins:Aa (Af × Cu)}{σ : _L.St}{H P:Hp}{α : Aa Af}{S:Sto}{s:Ag}
inductive Kd (X:Cx)(P:Hp)(α : Aa Af)(s:Ag):D->Ac->Prop where
 |non:Kd X P α s .non .none
 |bl (b:Ar):Kd X P α s (.bl b) (.bool b)
 |int (i:An) (t:Ti):Kd X P α s (.int i) (.int i t)
 |str (x:Au) (t:Ti):Kd X P α s (.str x) (.str x t)
 |tup (a:Af) (xs:Aa D) (its:Aa Ac) (vs:Aa V) (rp:qC X.K P α xs vs) (rv:qJ vs its) (h:s.heap.IsTuple a its.toArray) (q:SqT X.K P a vs):Kd X P α s (.tup xs) (.ref a)
 |lst (a:Af) (xs:Aa D) (its:Aa Ac) (vs:Aa V) (rp:qC X.K P α xs vs) (rv:qJ vs its) (h:s.heap.IsList a its.toArray) (q:SqX X.K P a vs):Kd X P α s (.lst xs) (.ref a)
theorem yI (I:Inv X pins σ H s)(r:Rel X.K H P α S){n:Ai}{d:D}{v:V}{u:Ac}(h:pl n d=true)(p:Rep X.K P α d v)(rv:qG v u):Kd X P α s d u:=by
 cases d with
 |non=>simp only[Rep] at p;subst p;cases rv;exact .non
 |bl b=>simp only[Rep] at p;subst p;cases rv;exact .bl b
 |int i=>simp only[Rep] at p;subst p;obtain⟨t,rfl⟩:=rv;exact .int i t
 |str x=>simp only[Rep] at p;subst p;obtain⟨t,rfl⟩:=rv;exact .str x t
 |tup xs =>
  simp only[Rep] at p;obtain⟨a,vs,rfl,q,t⟩:=p;cases rv;obtain⟨its,r1,p1,_⟩:=I.tuple (w4 r.sub q);exact .tup a xs its vs t r1 p1 q
 |lst xs =>
  simp only[Rep] at p;obtain⟨a,vs,rfl,q,t⟩:=p;cases rv;obtain⟨its,r1,p1,_⟩:=I.list ((xU r.sub q).l);exact .lst a xs its vs t r1 p1.isList q
 |_=>cases n <;> exact Dv h
theorem w5 {ds:Aa D}{vs:Aa V}{its:Aa Ac}(rp:qC X.K P α ds vs)(rv:qJ vs its){j:Ai}(h:j<its.toArray.size):∃ v,Rep X.K P α (ds.getD j .non) v/\qG v its.toArray[j]/\ds.getD j .non∈ds:=by
 have l1:=rp.length;have l2:=rv.length;have hj:j<its.length:=by simpa using h
 have hd:j<ds.length:=by lia
 obtain⟨v,e1,p⟩:=rp.get (Ao hd);obtain⟨u,e2,q⟩:=rv.get e1;have e3:its.toArray[j]=u:=by
  have:its[j]? = Ab its[j]:=Ao hj;rw[this] at e2;simpa using Dd e2
 have e4:ds.getD j .non=ds[j]:=by simp[Im,hd]
 rw[e3,e4];exact⟨v,p,q,Kl hd⟩
theorem xW {n:Ai}{ds:Aa D}(h:ds.all (pl n)=true){d:D}(hd:d∈ds):pl n d=true:=Cf.mp h d hd
theorem tY {h:Bw}{a:Af}{xs ys:Ax Ac}(h1:h.IsTuple a xs)(h2:h.IsTuple a ys):xs=ys:=by
 obtain⟨o,e,_,n,d⟩:=h1;obtain⟨o',e',_,n',d'⟩:=h2;cases e.symm.trans e';cases d.symm.trans d';rfl
theorem cQ {h:Bw}{a:Af}{xs ys:Ax Ac}(h1:h.IsList a xs)(h2:h.IsList a ys):xs=ys:=by
 obtain⟨o,e,_,n,d⟩:=h1;obtain⟨o',e',_,n',d'⟩:=h2;cases e.symm.trans e';cases d.symm.trans d';rfl
theorem o6 {h:Bw}{a:Af}{xs ys:Ax Ac}(h1:h.IsTuple a xs)(h2:h.IsList a ys):Fv:=by
 obtain⟨o,e,c,_⟩:=h1;obtain⟨o',e',c',_⟩:=h2;cases e.symm.trans e';exact absurd (c.symm.trans c') (by decide)
inductive Seqs (X:Cx)(P:Hp)(α : Aa Af)(xs ys:Aa D)(its its2:Aa Ac):Prop
 |mk (vs ws:Aa V) (rp:qC X.K P α xs vs) (rv:qJ vs its) (rp2:qC X.K P α ys ws) (rv2:qJ ws its2):Seqs X P α xs ys its its2
theorem Seqs.len1 {xs ys:Aa D}{its its2:Aa Ac}(q:Seqs X P α xs ys its its2):xs.length=its.length:=by
 obtain⟨vs,ws,rp,rv,_,_⟩:=q;exact rp.length.trans rv.length
theorem Seqs.len2 {xs ys:Aa D}{its its2:Aa Ac}(q:Seqs X P α xs ys its its2):ys.length=its2.length:=by
 obtain⟨vs,ws,_,_,rp,rv⟩:=q;exact rp.length.trans rv.length
inductive SameR (X:Cx)(P:Hp)(α : Aa Af):D->D->Prop
 |eq {d d':D} (h:eqD d d'=true):SameR X P α d d'
 |tt (xs ys:Aa D) (its:Aa Ac) (q:Seqs X P α xs ys its its):SameR X P α (.tup xs) (.tup ys)
 |ll (xs ys:Aa D) (its:Aa Ac) (q:Seqs X P α xs ys its its):SameR X P α (.lst xs) (.lst ys)
theorem aP {d d':D}{u:Ac}(k1:Kd X P α s d u)(k2:Kd X P α s d' u):SameR X P α d d':=by
 cases k1 with
 |non=>cases k2;exact .eq rfl
 |bl b=>cases k2;exact .eq (Gk _)
 |int i t=>cases k2;exact .eq (Gk _)
 |str x t=>cases k2;exact .eq (Gk _)
 |tup a xs its vs rp rv h q =>
  cases k2 with
  |tup _ ys its2 ws rp2 rv2 h2 q2 =>
   cases tY h h2;exact .tt xs ys its ⟨vs,ws,rp,rv,rp2,rv2⟩
  |lst _ ys its2 ws rp2 rv2 h2 q2=>exact(o6 h h2).elim
 |lst a xs its vs rp rv h q =>
  cases k2 with
  |lst _ ys its2 ws rp2 rv2 h2 q2 =>
   cases cQ h h2;exact .ll xs ys its ⟨vs,ws,rp,rv,rp2,rv2⟩
  |tup _ ys its2 ws rp2 rv2 h2 q2=>exact(o6 h2 h).elim
theorem lK (I:Inv X pins σ H s)(r:Rel X.K H P α S){m:Ai}(ih:∀ (d d':D) (u:Ac),pl m d=true->pl m d'=true->Kd X P α s d u->Kd X P α s d' u->eqD d d'=true){xs ys:Aa D}{its:Aa Ac}(h1:xs.all (pl m)=true)(h2:ys.all (pl m)=true)(q:Seqs X P α xs ys its its):xF xs ys=true:=by
 obtain⟨vs,ws,rp,rv,rp2,rv2⟩:=q;have l1:=rp.length.trans rv.length;have l2:=rp2.length.trans rv2.length;rw[wM,l1,l2,Tl,Bq];refine⟨Cf.mpr λj hj=>?_,BEq.rfl⟩;have hj:j<its.toArray.size:=Do.mp hj;obtain⟨w1,y1,z1,m1⟩:=w5 rp rv hj;obtain⟨w2,y2,z2,m2⟩:=w5 rp2 rv2 hj;exact ih _ _ _ (xW h1 m1) (xW h2 m2) (yI I r (xW h1 m1) y1 z1) (yI I r (xW h2 m2) y2 z2)
theorem cK (I:Inv X pins σ H s)(r:Rel X.K H P α S):∀ (n:Ai) (d d':D) (u:Ac),pl n d=true->pl n d'=true->Kd X P α s d u->Kd X P α s d' u->eqD d d'=true:=by
 intro n
 induction n with
 |zero =>
  intro d d' u h1 h2 k1 k2;cases aP k1 k2 with
  |eq h=>exact h
  |tt=>exact Dv h1
  |ll=>exact Dv h1
 |succ m ih =>
  intro d d' u h1 h2 k1 k2;cases aP k1 k2 with
  |eq h=>exact h
  |tt xs ys its q=>exact(tR xs ys).trans (lK I r ih h1 h2 q)
  |ll xs ys its q=>exact(tQ xs ys).trans (lK I r ih h1 h2 q)
structure E3 (A:Bt)(s:Ag)(u u':Ac)(b:Ar):Prop where
 eq:EqAt A s u u' b
 rc:RcAt A s u u' b
 ne:RcNeAt A s u u' (!b)
inductive EqR (X:Cx)(P:Hp)(α : Aa Af)(A:Bt)(s:Ag):D->D->Ac->Ac->Prop
 |of {d d':D} {u u':Ac} (b:Ar) (e:eqD d d'=b) (h:E3 A s u u' b):EqR X P α A s d d' u u'
 |tt (a b:Af) (xs ys:Aa D) (its its2:Aa Ac) (ha:s.heap.IsTuple a its.toArray) (hb:s.heap.IsTuple b its2.toArray) (q:Seqs X P α xs ys its its2):EqR X P α A s (.tup xs) (.tup ys) (.ref a) (.ref b)
 |ll (a b:Af) (xs ys:Aa D) (its its2:Aa Ac) (ha:s.heap.IsList a its.toArray) (hb:s.heap.IsList b its2.toArray) (q:Seqs X P α xs ys its its2):EqR X P α A s (.lst xs) (.lst ys) (.ref a) (.ref b)
theorem JE {A:Bt}{d d':D}{u u':Ac}(hu:A.units<Du)(k1:Kd X P α s d u)(k2:Kd X P α s d' u'):EqR X P α A s d d' u u':=by
 cases k1 with
 |non  =>
  cases k2 with
  |non  => exact .of _ rfl ⟨AaE _,RcAt.none_none,RcNeAt.none_none⟩
  |bl b=>exact .of _ rfl ⟨EqAt.none_bool b,RcAt.none_bool b,RcNeAt.none_bool b⟩
  |int b tb=>exact .of _ rfl ⟨EqAt.none_int b tb,RcAt.none_int b tb,RcNeAt.none_int b tb⟩
  |str b tb=>exact .of _ rfl ⟨EqAt.none_str b tb,RcAt.none_str b tb,RcNeAt.none_str b tb⟩
  |tup b ys its2 ws rp2 rv2 hb qb=>exact .of _ rfl ⟨EqAt.none_tuple hb hu,RcAt.none_tuple hb hu,RcNeAt.none_tuple hb hu⟩
  |lst b ys its2 ws rp2 rv2 hb qb=>exact .of _ rfl ⟨EqAt.none_list hb hu,RcAt.none_list hb hu,RcNeAt.none_list hb hu⟩
 |bl a =>
  cases k2 with
  |non  => exact .of _ rfl ⟨EqAt.bool_none a,RcAt.bool_none a,RcNeAt.bool_none a⟩
  |bl b=>exact .of _ rfl ⟨EqAt.bool_bool a b,RcAt.bool_bool a b,RcNeAt.bool_bool a b⟩
  |int b tb=>exact .of _ rfl ⟨EqAt.bool_int a b tb,RcAt.bool_int a b tb,RcNeAt.bool_int a b tb⟩
  |str b tb=>exact .of _ rfl ⟨EqAt.bool_str a b tb,RcAt.bool_str a b tb,RcNeAt.bool_str a b tb⟩
  |tup b ys its2 ws rp2 rv2 hb qb=>exact .of _ rfl ⟨EqAt.bool_tuple a hb hu,RcAt.bool_tuple a hb hu,RcNeAt.bool_tuple a hb hu⟩
  |lst b ys its2 ws rp2 rv2 hb qb=>exact .of _ rfl ⟨EqAt.bool_list a hb hu,RcAt.bool_list a hb hu,RcNeAt.bool_list a hb hu⟩
 |int a ta =>
  cases k2 with
  |non  => exact .of _ rfl ⟨EqAt.int_none a ta,RcAt.int_none a ta,RcNeAt.int_none a ta⟩
  |bl b=>exact .of _ rfl ⟨EqAt.int_bool a ta b,RcAt.int_bool a ta b,RcNeAt.int_bool a ta b⟩
  |int b tb=>exact .of _ rfl ⟨EqAt.int_int a ta b tb,RcAt.int_int a ta b tb,RcNeAt.int_int a ta b tb⟩
  |str b tb=>exact .of _ rfl ⟨EqAt.int_str a ta b tb,RcAt.int_str a ta b tb,RcNeAt.int_str a ta b tb⟩
  |tup b ys its2 ws rp2 rv2 hb qb=>exact .of _ rfl ⟨EqAt.int_tuple a ta hb hu,RcAt.int_tuple a ta hb hu,RcNeAt.int_tuple a ta hb hu⟩
  |lst b ys its2 ws rp2 rv2 hb qb=>exact .of _ rfl ⟨EqAt.int_list a ta hb hu,RcAt.int_list a ta hb hu,RcNeAt.int_list a ta hb hu⟩
 |str a ta =>
  cases k2 with
  |non  => exact .of _ rfl ⟨EqAt.str_none a ta,RcAt.str_none a ta,RcNeAt.str_none a ta⟩
  |bl b=>exact .of _ rfl ⟨EqAt.str_bool a ta b,RcAt.str_bool a ta b,RcNeAt.str_bool a ta b⟩
  |int b tb=>exact .of _ rfl ⟨EqAt.str_int a ta b tb,RcAt.str_int a ta b tb,RcNeAt.str_int a ta b tb⟩
  |str b tb=>exact .of _ rfl ⟨EqAt.str_str a ta b tb,RcAt.str_str a ta b tb,RcNeAt.str_str a ta b tb⟩
  |tup b ys its2 ws rp2 rv2 hb qb=>exact .of _ rfl ⟨EqAt.str_tuple a ta hb hu,RcAt.str_tuple a ta hb hu,RcNeAt.str_tuple a ta hb hu⟩
  |lst b ys its2 ws rp2 rv2 hb qb=>exact .of _ rfl ⟨EqAt.str_list a ta hb hu,RcAt.str_list a ta hb hu,RcNeAt.str_list a ta hb hu⟩
 |tup a xs its vs rp rv ha qa =>
  cases k2 with
  |non  => exact .of _ rfl ⟨EqAt.tuple_none ha hu,RcAt.tuple_none ha hu,RcNeAt.tuple_none ha hu⟩
  |bl b=>exact .of _ rfl ⟨EqAt.tuple_bool b ha hu,RcAt.tuple_bool b ha hu,RcNeAt.tuple_bool b ha hu⟩
  |int b tb=>exact .of _ rfl ⟨EqAt.tuple_int b tb ha hu,RcAt.tuple_int b tb ha hu,RcNeAt.tuple_int b tb ha hu⟩
  |str b tb=>exact .of _ rfl ⟨EqAt.tuple_str b tb ha hu,RcAt.tuple_str b tb ha hu,RcNeAt.tuple_str b tb ha hu⟩
  |tup b ys its2 ws rp2 rv2 hb qb=>exact .tt a b xs ys its its2 ha hb ⟨vs,ws,rp,rv,rp2,rv2⟩
  |lst b ys its2 ws rp2 rv2 hb qb=>exact .of _ rfl ⟨EqAt.tuple_list ha hb hu,RcAt.tuple_list ha hb hu,RcNeAt.tuple_list ha hb hu⟩
 |lst a xs its vs rp rv ha qa =>
  cases k2 with
  |non  => exact .of _ rfl ⟨EqAt.list_none ha hu,RcAt.list_none ha hu,RcNeAt.list_none ha hu⟩
  |bl b=>exact .of _ rfl ⟨EqAt.list_bool b ha hu,RcAt.list_bool b ha hu,RcNeAt.list_bool b ha hu⟩
  |int b tb=>exact .of _ rfl ⟨EqAt.list_int b tb ha hu,RcAt.list_int b tb ha hu,RcNeAt.list_int b tb ha hu⟩
  |str b tb=>exact .of _ rfl ⟨EqAt.list_str b tb ha hu,RcAt.list_str b tb ha hu,RcNeAt.list_str b tb ha hu⟩
  |tup b ys its2 ws rp2 rv2 hb qb=>exact .of _ rfl ⟨EqAt.list_tuple ha hb hu,RcAt.list_tuple ha hb hu,RcNeAt.list_tuple ha hb hu⟩
  |lst b ys its2 ws rp2 rv2 hb qb=>exact .ll a b xs ys its its2 ha hb ⟨vs,ws,rp,rv,rp2,rv2⟩
theorem E3.cast {A:Bt}{u u':Ac}{b c:Ar}(e:c=b)(h:E3 A s u u' b):E3 A s u u' c:=e▸h
theorem JF {A:Bt}{a b:Af}{xs ys:Aa D}{its its2:Aa Ac}(hu:A.units<Du)(ha:s.heap.IsTuple a its.toArray)(hb:s.heap.IsTuple b its2.toArray)(l1:xs.length=its.length)(l2:ys.length=its2.length)
  (sub:∀ j (h1:j<its.toArray.size) (h2:j<its2.toArray.size),EqAt A.in1 s its.toArray[j] its2.toArray[j] (eqD (xs.getD j .non) (ys.getD j .non))) (same:a=b->xF xs ys=true):E3 A s (.ref a) (.ref b) (xF xs ys):=by
 have e:xF xs ys=((Cz (min its.toArray.size its2.toArray.size)).all (λj=>eqD (xs.getD j .non) (ys.getD j .non))&&its.toArray.size == its2.toArray.size):=by rw[wM,l1,l2];rfl
 have R1:=RcAt.tuples ha hb hu sub;have R2:=RcNeAt.tuples ha hb hu sub;rw[<- e] at R1 R2;refine⟨?_,R1,R2⟩;by_cases hab:a=b
 .rw[same hab,hab]
  exact AaE _
 .exact EqAt.of_refs hab R1
theorem RY {A:Bt}{a b:Af}{xs ys:Aa D}{its its2:Aa Ac}(hu:A.units<Du)(ha:s.heap.IsList a its.toArray)(hb:s.heap.IsList b its2.toArray)(l1:xs.length=its.length)(l2:ys.length=its2.length)
  (sub:∀ j (h1:j<its.toArray.size) (h2:j<its2.toArray.size),EqAt A.in1 s its.toArray[j] its2.toArray[j] (eqD (xs.getD j .non) (ys.getD j .non))) (same:a=b->xF xs ys=true):E3 A s (.ref a) (.ref b) (xF xs ys):=by
 have R:RcAt A s (.ref a) (.ref b) (xF xs ys)/\RcNeAt A s (.ref a) (.ref b) (!xF xs ys):=by
  by_cases hl:its.length=its2.length
  .have e:xF xs ys=(Cz its.toArray.size).all (λj=>eqD (xs.getD j .non) (ys.getD j .non)):=by rw[wM,l1,l2,<- hl,Tl,BEq.rfl,AaF];rfl
   rw[e];exact⟨RcAt.lists ha hb hl hu sub,RcNeAt.lists ha hb hl hu sub⟩
  .rw[YN (by rw[l1,l2];exact hl)]
   have hn:(its.toArray.size != its2.toArray.size)=true:=bne_iff_ne.mpr hl;exact⟨RcAt.lists_lengths ha hb hn hu,RcNeAt.lists_lengths ha hb hn hu⟩
 refine⟨?_,R.1,R.2⟩;by_cases hab:a=b
 .rw[same hab,hab]
  exact AaE _
 .exact EqAt.of_refs hab R.1
theorem rA (I:Inv X pins σ H s)(r:Rel X.K H P α S):∀ (n:Ai) (A:Bt) (d d':D) (u u':Ac),A.units+n<Du->pl n d=true->pl n d'=true->Kd X P α s d u->Kd X P α s d' u'->E3 A s u u' (eqD d d'):=by
 intro n
 induction n with
 |zero =>
  intro A d d' u u' hu h1 h2 k1 k2;cases JE hu k1 k2 with
  |of b e h=>exact h.cast e
  |tt=>exact Dv h1
  |ll=>exact Dv h1
 |succ m ih =>
  intro A d d' u u' hu h1 h2 k1 k2;have hu0:A.units<Du:=Nh (HT _ _) hu;have hu1:A.in1.units+m<Du:=by show A.units+1+m<Du;lia
  have sub:∀ {xs ys:Aa D} {its its2:Aa Ac},xs.all (pl m)=true->ys.all (pl m)=true->Seqs X P α xs ys its its2 ->
    ∀ j (h1:j<its.toArray.size) (h2:j<its2.toArray.size),EqAt A.in1 s its.toArray[j] its2.toArray[j] (eqD (xs.getD j .non) (ys.getD j .non)):=λ{xs ys its its2} a1 a2 ⟨vs,ws,b1,b2,c1,c2⟩ j g1 g2=>by
   obtain⟨w1,y1,z1,m1⟩:=w5 b1 b2 g1;obtain⟨w2,y2,z2,m2⟩:=w5 c1 c2 g2;exact(ih A.in1 _ _ _ _ hu1 (xW a1 m1) (xW a2 m2) (yI I r (xW a1 m1) y1 z1) (yI I r (xW a2 m2) y2 z2)).eq
  cases JE hu0 k1 k2 with
  |of b e h=>exact h.cast e
  |tt a b xs ys its its2 ha hb q=>exact(JF hu0 ha hb q.len1 q.len2 (sub h1 h2 q) λe=>by subst e;exact(tR xs ys).symm.trans (cK I r (m+1) _ _ _ h1 h2 k1 k2)).cast (tR xs ys)
  |ll a b xs ys its its2 ha hb q=>exact(RY hu0 ha hb q.len1 q.len2 (sub h1 h2 q) λe=>by subst e;exact(tQ xs ys).symm.trans (cK I r (m+1) _ _ _ h1 h2 k1 k2)).cast (tQ xs ys)
noncomputable def zS:Ai:=30
noncomputable def gEq:G2:=λa b S=>if pl zS a&&pl zS b then .ok (.bl (eqD a b)) S else .bad
noncomputable def gNe:G2:=λa b S=>if pl zS a&&pl zS b then .ok (.bl (!eqD a b)) S else .bad
set_option tactic.hygienic true in
theorem EN (hu:X.A.units+64<Du):OpD X (Cc .Eq) gEq:=by
 intro pins σ H s P α S v u vv uu a b Q I r rv ru pa pb af;unfold gEq at af
 split at af
 .rename_i h
  rw[Bq] at h;exact(rA I r zS X.A a b vv uu (by unfold zS;lia) h.1 h.2 (yI I r h.1 pa rv) (yI I r h.2 pb ru)).rc _ _ _ _ ⟨.bl _,H,I,rfl,xr af r (by simp only[Rep])⟩
 .exact Aq af
set_option tactic.hygienic true in
theorem ET (hu:X.A.units+64<Du):OpD X (Cc .NotEq) gNe:=by
 intro pins σ H s P α S v u vv uu a b Q I r rv ru pa pb af;unfold gNe at af
 split at af
 .rename_i h
  rw[Bq] at h;exact(rA I r zS X.A a b vv uu (by unfold zS;lia) h.1 h.2 (yI I r h.1 pa rv) (yI I r h.2 pb ru)).ne _ _ _ _ ⟨.bl _,H,I,rfl,xr af r (by simp only[Rep])⟩
 .exact Aq af
end
end _D
end
namespace _D
open PySem PySem.Spec PyProof.Rows _L
variable {pins:Aa (Af × Cu)}{kvs:Aa (Key × D)}{its us:Aa Ac}{xs ds:Aa D}{vs:Aa V}{f:Ac->Ac->Ln Ac}{s:Ag}{d:D}{v:V}{Q:VK}{σ:_L.St}
section
variable {X:Cx}
noncomputable def i2 (C:An->An->Ar)(f:An->An->D):G2:=λa b S=>match a,b with
 |.int i,.int j=>if C i j then .ok (f i j) S else .bad
 |_,_=>.bad
theorem iZ {C:An->An->Ar}{f:An->An->D}{a b:D}{S:Sto}{P:Hp}{α:Aa Af}{Ok:D->Sto->Prop}(h:qI X P α (i2 C f a b S) Ok):∃ i j,a=.int i/\b=.int j/\C i j=true/\Ok (f i j) S:=by
 cases a with
 |int i =>
  cases b with
  |int j =>
   obtain⟨hc,h⟩:=wO (X:=X) h;exact⟨i,j,rfl,rfl,hc,h⟩
  |_=>exact Aq h
 |_=>exact Aq h
theorem xI {P:Hp}{α:Aa Af}{i:An}(r:Rep X.K P α (.int i) v):v=.int i:=by simpa only [Rep] using r
theorem mZ {C':An->An->Prop}{v:An->An->V}{C:An->An->Ar}{d:An->An->D}(h:OpR X f (rI C' v))(hC:∀ i j,C i j=true->C' i j)(hv:∀ P α i j,Rep X.K P α (d i j) (v i j)):OpD X f (i2 C d):=
 OpD.of h λH P α S x y a b Q r p1 p2 af=>by
  obtain⟨i,j,rfl,rfl,hc,ok⟩:=iZ af;exact⟨i,j,xI p1,xI p2,hC i j hc,xr ok r (hv P α i j)⟩
theorem b7 {v:An->An->V}{d:An->An->D}(h:OpR X f (rI0 v))(hv:∀ P α i j,Rep X.K P α (d i j) (v i j)):OpD X f (i2 (λ_ _=>true) d):=
 OpD.of h λH P α S x y a b Q r p1 p2 af=>by
  obtain⟨i,j,rfl,rfl,_,ok⟩:=iZ af;exact⟨i,j,xI p1,xI p2,xr ok r (hv P α i j)⟩
noncomputable def xY:G2:=i2 (λ_ _=>true) λi j=>.int (i-j)
theorem LH:OpD X (Fm .Sub) xY:=b7 LQ λP α i j=>by simp only[Rep]
noncomputable def sO (i j:An):Ar:=decide (-(2 ^ 64)<i/\i<2 ^ 64)||decide (-(2 ^ 64)<j/\j<2 ^ 64)
theorem PQ:OpD X (Fm .Mult) (i2 sO λi j=>.int (i*j)):=mZ LO (λi j h=>by
 unfold sO at h;rw[Ub] at h;rcases h with h|h
 .exact .inl (Ct h)
 .exact .inr (Ct h)) λP α i j=>by simp only[Rep]
noncomputable def M9 (i j:An):Ar:=decide (0<j/\j<1073741824)
noncomputable def uZ:G2:=i2 M9 λi j=>.int (i/j)
theorem L8:OpD X (Fm .FloorDiv) uZ:=mZ PV (λi j h=>(Ct h:0<j/\j<1073741824)) λP α i j=>by simp only[Rep]
noncomputable def jX:G2:=i2 (λ_ j=>decide (0<j)) λi j=>.int (i % j)
theorem LF:OpD X (Fm .Mod) jX:=mZ LN (λi j h=>Ct h) λP α i j=>by simp only[Rep]
noncomputable def MA (i j:An):Ar:=decide (0<=j/\j<=1000000/\i.natAbs<2 ^ 64)
noncomputable def gG:G2:=i2 MA λi j=>.int (i ^ j.toNat)
theorem LG:OpD X (Fm .Pow) gG:=mZ LP (λi j h=>(Ct h:0<=j/\j<=1000000/\i.natAbs<2 ^ 64)) λP α i j=>by simp only[Rep]
noncomputable def gLt:G2:=i2 (λ_ _=>true) λi j=>.bl (decide (i<j))
noncomputable def gLe:G2:=i2 (λ_ _=>true) λi j=>.bl (decide (i<=j))
noncomputable def gGt:G2:=i2 (λ_ _=>true) λi j=>.bl (decide (j<i))
noncomputable def gGe:G2:=i2 (λ_ _=>true) λi j=>.bl (decide (j<=i))
theorem JV:OpD X (Cc .Lt) gLt:=b7 EY λP α i j=>by simp only[Rep]
theorem ES:OpD X (Cc .LtE) gLe:=b7 EW λP α i j=>by simp only[Rep]
theorem JU:OpD X (Cc .Gt) gGt:=b7 EV λP α i j=>by simp only[Rep]
theorem JT:OpD X (Cc .GtE) gGe:=b7 EU λP α i j=>by simp only[Rep]
noncomputable def iV:D->Sto->Res D:=λa S=>match a with
 |.int i=>.ok (.int (-i)) S
 |_=>.bad
theorem R9:UnD X (Zf .USub) iV:=by
 intro pins σ H s P α S v vv a Q I r rv p af;cases a with
 |int i=>exact RA pins s σ H v vv Q I rv ⟨i,xI p,xr af r (by simp only[Rep])⟩
 |_=>exact Aq af
noncomputable def gIs:G2:=λa b S=>match b with
 |.non=>match a with
  |.non=>.ok (.bl true) S
  |_=>.ok (.bl false) S
 |_=>.bad
noncomputable def pV:G2:=λa b S=>match b with
 |.non=>match a with
  |.non=>.ok (.bl false) S
  |_=>.ok (.bl true) S
 |_=>.bad
theorem aD {P:Hp}{α:Aa Af}(r:Rep X.K P α d v):decide (v=.non)=(match d with|.non=>true|_=>false):=by
 cases d <;> simp only[Rep] at r
 case non=>subst r;rfl
 case bl=>subst r;rfl
 case int=>subst r;rfl
 case str=>subst r;rfl
 case ty=>subst r;rfl
 case clo=>obtain⟨rfl,_⟩:=r;rfl
 case obj=>obtain⟨rfl,_⟩:=r;rfl
 case tup=>obtain⟨a,vs,rfl,_⟩:=r;rfl
 case lst=>obtain⟨a,vs,rfl,_⟩:=r;rfl
 case dct0=>obtain⟨a,rfl,_⟩:=r;rfl
 case loc=>obtain⟨a,rfl,_⟩:=r;rfl
 case exn=>obtain⟨a,rfl,_⟩:=r;rfl
 case fd=>obtain⟨a,o,vs,rfl,_⟩:=r;rfl
theorem ER:OpD X (Cc .Is) gIs:=OpD.of LM λH P α S x y a b Q r p1 p2 af=>by
 cases b with
 |non =>
  simp only[Rep] at p2;refine⟨p2,?_⟩;rw[aD p1];cases a <;> exact xr af r (by simp only[Rep])
 |_=>exact Aq af
theorem VQ:OpD X (Cc .IsNot) pV:=OpD.of PX λH P α S x y a b Q r p1 p2 af=>by
 cases b with
 |non =>
  simp only[Rep] at p2;refine⟨p2,?_⟩;rw[aD p1];cases a <;> exact xr af r (by simp only[Rep] <;> rfl)
 |_=>exact Aq af
noncomputable def zH:G2:=λa b S=>match a,b with
 |.int i,.int j=>.ok (.int (i+j)) S
 |.str x,.str y=>if x.length+y.length<=lim then .ok (.str (x++y)) S else .bad
 |.tup xs,.tup ys=>if xs.length+ys.length<=lim then .ok (.tup (xs++ys)) S else .bad
 |.lst xs,.lst ys=>if xs.length+ys.length<=lim then .ok (.lst (xs++ys)) S else .bad
 |_,_=>.bad
theorem wW {H P:Hp}{α:Aa Af}{S:Sto}(I:Inv X pins σ H s)(r:Rel X.K H P α S)(p:Rep X.K P α (.tup xs) v) :
  ∃ a vs its,v=.ref a/\SqT X.K P a vs/\qC X.K P α xs vs/\qJ vs its/\Of s.heap a its.toArray/\xs.length=its.length/\xs.length<=lim:=by
 simp only[Rep] at p;obtain⟨a,vs,rfl,q,t⟩:=p;obtain⟨its,rv,p1,z⟩:=I.tuple (w4 r.sub q);exact⟨a,vs,its,rfl,q,t,rv,p1,by rw[t.length,rv.length],by rw[t.length,zX];exact z⟩
theorem kM {H P:Hp}{α:Aa Af}{S:Sto}(I:Inv X pins σ H s)(r:Rel X.K H P α S)(p:Rep X.K P α (.lst xs) v) :
  ∃ a vs its n,v=.ref a/\SqX X.K P a vs/\qC X.K P α xs vs/\qJ vs its/\s.heap.get? a=Ab { cls:=.type "list",data:=.seq its.toArray n } /\ xs.length=its.length/\xs.length<=lim:=by
 simp only[Rep] at p;obtain⟨a,vs,rfl,q,t⟩:=p;have:∃ its n,qJ vs its/\s.heap.get? a=Ab { cls:=.type "list",data:=.seq its.toArray n } /\ vs.length<=sizeLine:=by
  rcases q with q|⟨its,n,e,z,rv⟩
  .obtain⟨z,its,n,rv,e⟩:=(aM r.sub q).ok I.hok
   exact⟨its,n,rv,e,z⟩
  .exact⟨its,n,rv,I.kIn _ _ e,z⟩
 obtain⟨its,n,rv,e,z⟩:=this;exact⟨a,vs,its,n,rfl,q,t,rv,e,by rw[t.length,rv.length],by rw[t.length,zX];exact z⟩
theorem rN {H P:Hp}{α:Aa Af}{S:Sto}(I:Inv X pins σ H s)(r:Rel X.K H P α S)(t:qC X.K P α xs vs)(rv:qJ vs its)(hz:xs.length<=lim)
  (ok:OkV X P α Q (.tup xs) S):EP X pins σ Q (.ref s.heap.objs.size) { s with heap:=s.heap.push { cls:=.type "tuple",data:=.seq its.toArray } }:=by
 refine⟨.ref s.heap.objs.size,_,I.laid (t':=s.toks) (o:=.tup vs) (λb ob q=>Ah _ q) (Av _) ⟨by rw[<- t.length,<- zX];exact hz,its,rv,Yi _ _⟩,rfl,gU r (I.hok.fresh (Av _)) t ok⟩
theorem VA {H P:Hp}{α:Aa Af}{S:Sto}(I:Inv X pins σ H s)(r:Rel X.K H P α S)(t:qC X.K P α xs vs)(rv:qJ vs its)(hz:xs.length<=lim)
  (ok:OkV X P α Q (.lst xs) S):EP X pins σ Q (.ref s.heap.objs.size) { s with heap:=s.heap.push { cls:=.type "list",data:=.seq its.toArray } }:=by
 refine⟨.ref s.heap.objs.size,_,I.laid (t':=s.toks) (o:=.lst vs) (λb ob q=>Ah _ q) (Av _) ⟨by rw[<- t.length,<- zX];exact hz,its,0,rv,Ay _ rfl⟩,rfl,yM r (I.hok.fresh (Av _)) t ok⟩
theorem M3 {H P:Hp}{α:Aa Af}{S:Sto}{ys:Aa D}{u:V}{vv uu:Ac}(I:Inv X pins σ H s)(r:Rel X.K H P α S)(rv:qG v vv)(ru:qG u uu)(pa:Rep X.K P α (.tup xs) v)(pb:Rep X.K P α (.tup ys) u)(hl:xs.length+ys.length<=lim)(af:OkV X P α Q (.tup (xs++ys)) S) :
  Ap (As X.prog X.w) X.A (Fm .Add vv uu) (EP X pins σ Q) X.xe s:=by
 obtain⟨a,vs,its,rfl,q1,t1,rv1,h1,l1,_⟩:=wW I r pa;obtain⟨b,ws,its2,rfl,q2,t2,rv2,h2,l2,_⟩:=wW I r pb;cases rv;cases ru;by_cases hx:its=[]
 .obtain⟨⟨cls,dd,data,sl⟩,ho,hc,n,hd⟩:=id h1
  obtain⟨⟨cls2,dd2,data2,sl2⟩,ho2,hc2,n2,hd2⟩:=id h2;simp only at hc hd hc2 hd2;subst hc hd hc2 hd2;have hxs:xs=[]:=Kr.mp (by rw[l1,hx];rfl)
  subst hxs;exact Xv ⟨_,ho,rfl⟩ ⟨_,ho2,rfl⟩ On Rq Hr He (Gy _ _) (tuple_addW0 a b its.toArray its2.toArray n n2 dd dd2 sl sl2 (by simp[hx]))
   ⟨ho,ho2,⟨.ref b,H,I,rfl,xr af r pb⟩⟩
 .refine _H.cat_tup h1 h2 hx (λz=>⟨.ref a,H,I,rfl,xr af r ?_⟩) (λz=>?_) (by rw[<- l1,<- l2,<- zX];exact hl)
  .have hys:ys=[]:=Kr.mp (by rw[l2,z];rfl)
   rw[hys,Fq];exact pa
  .exact rN I r (t1.append t2) (rv1.append rv2) (by rw[Aw];exact hl) af
theorem M2 {H P:Hp}{α:Aa Af}{S:Sto}{ys:Aa D}{u:V}{vv uu:Ac}(I:Inv X pins σ H s)(r:Rel X.K H P α S)(rv:qG v vv)(ru:qG u uu)(pa:Rep X.K P α (.lst xs) v)(pb:Rep X.K P α (.lst ys) u)(hl:xs.length+ys.length<=lim)(af:OkV X P α Q (.lst (xs++ys)) S) :
  Ap (As X.prog X.w) X.A (Fm .Add vv uu) (EP X pins σ Q) X.xe s:=by
 obtain⟨a,vs,its,n,rfl,q1,t1,rv1,h1,l1,_⟩:=kM I r pa;obtain⟨b,ws,its2,n2,rfl,q2,t2,rv2,h2,l2,_⟩:=kM I r pb;cases rv;cases ru;refine PySem.P.add_list h1 h2 ?_ (by rw[Bj,Bj,<- l1,<- l2,<- zX];exact hl)
 rw[List.append_toArray];exact VA I r (t1.append t2) (rv1.append rv2) (by rw[Aw];exact hl) af
inductive AddV (a b:D)(S:Sto):Prop
 |bad (e:zH a b S=.bad)
 |int (i j:An) (ea:a=.int i) (eb:b=.int j)
 |str (x y:Au) (ea:a=.str x) (eb:b=.str y)
 |tup (x y:Aa D) (ea:a=.tup x) (eb:b=.tup y)
 |lst (x y:Aa D) (ea:a=.lst x) (eb:b=.lst y)
theorem A5 (a b:D)(S:Sto):AddV a b S:=by
 cases a with
 |int i=>cases b with
  |int j=>exact .int i j rfl rfl
  |_=>exact .bad rfl
 |str i=>cases b with
  |str j=>exact .str i j rfl rfl
  |_=>exact .bad rfl
 |tup i=>cases b with
  |tup j=>exact .tup i j rfl rfl
  |_=>exact .bad rfl
 |lst i=>cases b with
  |lst j=>exact .lst i j rfl rfl
  |_=>exact .bad rfl
 |_=>exact .bad rfl
theorem L7:OpD X (Fm .Add) zH:=by
 intro pins σ H s P α S v u vv uu a b Q I r rv ru pa pb af;cases A5 a b S with
 |bad e=>rw[e] at af;exact Aq af
 |int i j ea eb =>
  subst ea eb;exact LL pins s σ H v u vv uu Q I rv ru ⟨i,j,xI pa,xI pb,xr af r (by simp only[Rep])⟩
 |str x y ea eb =>
  subst ea eb;obtain⟨hl,af⟩:=wO (X:=X) af;simp only[Rep] at pa pb;exact oN pins s σ H v u vv uu Q I rv ru ⟨x,y,pa,pb,by rw[<- zX];exact hl,xr af r (by simp only[Rep])⟩
 |tup xs ys ea eb =>
  subst ea eb;obtain⟨hl,af⟩:=wO (X:=X) af;exact M3 I r rv ru pa pb hl af
 |lst xs ys ea eb =>
  subst ea eb;obtain⟨hl,af⟩:=wO (X:=X) af;exact M2 I r rv ru pa pb hl af
noncomputable def gIx:G2:=λa b S=>match b with
 |.int k=>match a with
  |.tup xs=>yO (atI xs k) S
  |.lst xs=>yO (atI xs k) S
  |.loc i=>match S[i]? with
   |some (.lst xs)=>yO (atI xs k) S
   |_=>.bad
  |_=>.bad
 |_=>.bad
theorem tJ {P:Hp}{α:Aa Af}{k:An}(rp:qC X.K P α ds vs)(h:atI ds k=Ab d):∃ v,atI vs k=Ab v/\Rep X.K P α d v:=by
 unfold atI at h ⊢;rw[<- rp.length];cases q:ixN ds.length k with
 |none=>rw[q] at h;cases h
 |some j =>
  rw[q] at h;obtain⟨v,h1,h2⟩:=rp.get (show ds[j]? = Ab d from h)
  exact⟨v,h1,h2⟩
theorem AN:IxD X gIx:=by
 intro value slice pins σ H s P α S v u vv uu a b Q I r rv ru pa pb af hs;cases b with
 |int k =>
  have hk:=xI pb;cases a with
  |tup xs =>
   obtain⟨d,e,ok⟩:=vE (X:=X) af;simp only[Rep] at pa;obtain⟨p,vs,rfl,q,t⟩:=pa;obtain⟨w,e1,rw'⟩:=tJ t e;exact NC value slice pins s σ H _ u vv uu Q I rv ru ⟨p,vs,k,w,rfl,hk,w4 r.sub q,e1,xr ok r rw'⟩ hs
  |lst xs =>
   obtain⟨d,e,ok⟩:=vE (X:=X) af;simp only[Rep] at pa;obtain⟨p,vs,rfl,q,t⟩:=pa;obtain⟨w,e1,rw'⟩:=tJ t e;exact cT value slice pins s σ H _ u vv uu Q I rv ru ⟨p,vs,k,w,rfl,hk,(xU r.sub q).l,e1,xr ok r rw'⟩ hs
  |loc i =>
   obtain⟨xs,hS,af⟩:=gT (X:=X) (f:=λxs=>yO (atI xs k) S) af;obtain⟨d,e,ok⟩:=vE (X:=X) af;simp only[Rep] at pa;obtain⟨p,rfl,q⟩:=pa;obtain⟨vs,z,t⟩:=r.at' i p _ q hS;obtain⟨w,e1,rw'⟩:=tJ t e;exact cT value slice pins s σ H _ u vv uu Q I rv ru ⟨p,vs,k,w,rfl,hk,.of z,e1,xr ok r rw'⟩ hs
  |_=>exact Aq af
 |_=>exact Aq af
noncomputable def fR:G3:=λo i d S=>match o,i with
 |.loc n,.int k=>match S[n]? with
  |some (.lst xs)=>match ixN xs.length k with
   |some j=>.ok () (S.set n (.lst (xs.set j d)))
   |none=>.bad
  |_=>.bad
 |_,_=>.bad
theorem HR:sI X (sE X fR):=by
 intro pins s σ H o i v ov iv u Q I ro ri rv h;obtain⟨P,α,S,a,b,d,r,pa,pb,pd,af⟩:=h;cases a with
 |loc n =>
  cases b with
  |int k =>
   obtain⟨xs,hS,af⟩:=gT (X:=X) (f:=λxs=>match ixN xs.length k with|some j=>.ok () (S.set n (.lst (xs.set j d)))|none=>.bad) af
   cases hj:ixN xs.length k with
   |none=>rw[hj] at af;exact Aq af
   |some j =>
    rw[hj] at af;simp only[Rep] at pa;obtain⟨p,rfl,q⟩:=pa;obtain⟨vs,z,t⟩:=r.at' n p _ q hS;refine UO pins s σ H _ i v ov iv u Q I ro ri rv ⟨p,vs,k,j,rfl,xI pb,z,by rw[<- t.length];exact hj,?_⟩
    refine af _ P α (r.put (m':=.lst (xs.set j d)) q hS (by intro z;cases z) ⟨vs.set j v,zD,t.set pd j⟩) (qF.refl _) (Be _)
  |_=>exact Aq af
 |_=>exact Aq af
noncomputable def oB:D->Sto->Al Ai
 |.tup xs,_=>Ab xs.length
 |.lst xs,_=>Ab xs.length
 |.str x,_=>if x.length<=lim then Ab x.length else none
 |.dct0,_=>Ab 0
 |.loc i,S=>match S[i]? with
  |some (.lst xs)=>Ab xs.length
  |_=>none
 |_,_=>none
noncomputable def rD:DF:=λds S=>match ds with
 |[d]=>match oB d S with
  |some n=>.ok (.int n) S
  |none=>.bad
 |_=>.bad
end
section
variable {X:Cx}
theorem uF {P:Hp}{α:Aa Af}(rp:qC X.K P α [d] vs)(rv:qJ vs us):∃ v u,vs=[v]/\us=[u]/\Rep X.K P α d v/\qG v u:=by
 obtain⟨v,ws,rfl,p,t⟩:=rp.cons_inv;have:=t.nil_inv;subst this;obtain⟨u,rfl,q⟩:=p8 rv;exact⟨v,u,rfl,rfl,p,q⟩
theorem sC {P:Hp}{α:Aa Af}{e:D}(rp:qC X.K P α [d,e] vs)(rv:qJ vs us):∃ v w u x,vs=[v,w]/\us=[u,x]/\Rep X.K P α d v/\Rep X.K P α e w/\qG v u/\qG w x:=by
 obtain⟨v,ws,rfl,p,t⟩:=rp.cons_inv;obtain⟨w,ws,rfl,p',t⟩:=t.cons_inv;have:=t.nil_inv;subst this;obtain⟨u,x,rfl,q,q'⟩:=Q4 rv;exact⟨v,w,u,x,rfl,rfl,p,p',q,q'⟩
noncomputable def oA (d:D)(S:Sto):Al Ai:=match d with
 |.dct0=>none
 |_=>oB d S
theorem NO {H P:Hp}{α:Aa Af}{S:Sto}{n:Ai}(r:Rel X.K H P α S)(p:Rep X.K P α d v)(hn:oA d S=Ab n):FY X.K v H n:=by
 cases d with
 |str x =>
  cases (show v=.str x from p)
  obtain⟨hl,rfl⟩:=j8 hn;exact⟨by rw[<- zX];exact hl,rfl⟩
 |tup xs =>
  simp only[Rep] at p;obtain⟨a,ws,rfl,sq,t⟩:=p;cases hn;exact .inr ⟨ws,w4 r.sub sq,t.length⟩
 |lst xs =>
  simp only[Rep] at p;obtain⟨a,ws,rfl,sq,t⟩:=p;cases hn;exact .inl ⟨ws,(xU r.sub sq).l,t.length⟩
 |loc i =>
  simp only[Rep] at p;obtain⟨a,rfl,e⟩:=p;obtain⟨xs,hS,hn⟩:=NR (f:=λxs=>Ab xs.length) hn;cases hn;obtain⟨ws,z,t⟩:=r.at' i a _ e hS;exact .inl ⟨ws,.of z,t.length⟩
 |_=>exact nn hn
inductive LenD1 (ds:Aa D)(S:Sto)(r:Res D):Prop
 |bad (e:r=.bad)
 |of (d:D) (n:Ai) (ed:ds=[d]) (hn:oA d S=Ab n) (e:r=.ok (.int n) S)
theorem EA (ds:Aa D)(S:Sto):LenD1 ds S (match ds with|[.dct0]=>.bad|_=>rD ds S):=by
 cases ds with
 |nil=>exact .bad rfl
 |cons d ds =>
  cases ds with
  |cons _ _=>cases d <;> exact .bad rfl
  |nil =>
   have z:(match [d] with|[D.dct0]=>Res.bad|_=>rD [d] S)=(match oA d S with|some n=>Res.ok (D.int n) S|none=>.bad):=by cases d <;> rfl
   rw[z];cases hn:oA d S with
   |none=>exact .bad rfl
   |some n=>exact .of d n rfl hn rfl
theorem MG (hD:Pc):yV X (.builtin "len") (λds S=>match ds with|[.dct0]=>.bad|_=>rD ds S):=by
 intro pins σ H s P α S vs us ds Q I r rv rp af;have af1:qI X P α (match ds with|[D.dct0]=>Res.bad|_=>rD ds S) (OkV X P α Q):=af
 clear af;cases EA ds S with
 |bad e=>rw[e] at af1;exact Aq af1
 |of d n ed hn e =>
  rw[e] at af1;subst ed;obtain⟨v,u,rfl,rfl,p,q⟩:=uF rp rv;exact WT pins s σ H _ _ Q I rv ⟨v,n,rfl,NO r p hn,xr af1 r (by simp only[Rep])⟩
noncomputable def tyD:D->Sto->Al Ek
 |.non,_=>Ab "NoneType"
 |.bl _,_=>Ab "bool"
 |.int _,_=>Ab "int"
 |.str _,_=>Ab "str"
 |.tup _,_=>Ab "tuple"
 |.lst _,_=>Ab "list"
 |.dct0,_=>Ab "dict"
 |.loc i,S=>match S[i]? with
  |some (.lst _)=>Ab "list"
  |some (.dct _)=>Ab "dict"
  |_=>none
 |_,_=>none
noncomputable def gL (a b:Ek):Ar:=a == b||(a == "bool" && b == "int")
noncomputable def fW (b:Ek):Ar:=b == "int" || b == "bool" || b == "tuple" || b == "list" || b == "str" || b == "dict"
noncomputable def NL (a b:Ek):Al Ar:=if (Iq a == Iq b)=true then Ab true else if PySem.W.kitMeta b=true then (fastBuiltinMro a).map (·.contains (.type b)) else none
noncomputable def tyL:Aa Ek:=["NoneType","bool","int","str","tuple","list","dict"]
noncomputable def okL:Aa Ek:=["int","bool","tuple","list","str","dict"]
theorem GX:(tyL.all λa=>okL.all λb=>decide (NL a b=Ab (gL a b)))=true:=by decide +kernel
theorem LJ {b:Ek}(hb:fW b=true):b∈okL:=by simpa [fW,okL,or_assoc] using hb
theorem GY {K:Aj}{a b:Ek}(ha:a∈tyL)(hb:fW b=true):Lz K (.type a) (.type b)=Ab (gL a b):=
 Ct (p:=NL a b=Ab (gL a b)) (Cf.mp (Cf.mp GX a ha) b (LJ hb))
noncomputable def vY:DF:=λds S=>match ds with
 |[d,.ty b]=>if fW b then match tyD d S with
   |some a=>.ok (.bl (gL a b)) S
   |none=>.bad
  else .bad
 |_=>.bad
inductive TyV (X:Cx)(H:Hp)(v:V)(a:Ek):Prop
 |of (t:TyOf X.K H v (.type a))
 |tup (p:Af) (vs:Aa V) (e:v=.ref p) (q:SqT X.K H p vs) (ea:a = "tuple")
 |lst (p:Af) (vs:Aa V) (e:v=.ref p) (q:SqL X.K H p vs) (ea:a = "list")
theorem R8 {S:Sto}{a:Ek}(h:tyD d S=Ab a):a∈tyL:=by
 cases d with
 |non=>cases h;exact .head _
 |bl b=>cases h;exact .tail _ (.head _)
 |int i=>cases h;exact .tail _ (.tail _ (.head _))
 |str x=>cases h;exact .tail _ (.tail _ (.tail _ (.head _)))
 |tup xs=>cases h;exact .tail _ (.tail _ (.tail _ (.tail _ (.head _))))
 |lst xs=>cases h;exact .tail _ (.tail _ (.tail _ (.tail _ (.tail _ (.head _)))))
 |dct0=>cases h;exact .tail _ (.tail _ (.tail _ (.tail _ (.tail _ (.tail _ (.head _))))))
 |loc i =>
  rcases nG (f:=λ_=>Ab "list") (g:=λ_=>Ab "dict") h with⟨_,_,h⟩|⟨_,_,h⟩
  .cases h;exact .tail _ (.tail _ (.tail _ (.tail _ (.tail _ (.head _)))))
  .cases h;exact .tail _ (.tail _ (.tail _ (.tail _ (.tail _ (.tail _ (.head _))))))
 |_=>exact nn h
theorem C7 {H P:Hp}{α:Aa Af}{S:Sto}{a:Ek}(r:Rel X.K H P α S)(p:Rep X.K P α d v)(h:tyD d S=Ab a):TyV X H v a:=by
 cases d with
 |non=>cases h;cases (show v=.non from p);exact .of .non
 |bl b=>cases h;cases (show v=.bl b from p);exact .of (.bl b)
 |int i=>cases h;cases (show v=.int i from p);exact .of (.int i)
 |str x=>cases h;cases (show v=.str x from p);exact .of (.str x)
 |tup xs =>
  cases h;simp only[Rep] at p;obtain⟨a,vs,e,q,t⟩:=p;exact .tup a vs e (w4 r.sub q) rfl
 |lst xs =>
  cases h;simp only[Rep] at p;obtain⟨a,vs,e,q,t⟩:=p;exact .lst a vs e (xU r.sub q).l rfl
 |dct0 =>
  cases h;simp only[Rep] at p;obtain⟨a,rfl,q⟩:=p;exact .of (.dK (r.sub _ _ q))
 |loc i =>
  simp only[Rep] at p;obtain⟨a,rfl,q⟩:=p;rcases nG (f:=λ_=>Ab "list") (g:=λ_=>Ab "dict") h with⟨xs,hS,h⟩|⟨kvs,hS,h⟩
  .cases h
   obtain⟨vs,z,t⟩:=r.at' i a _ q hS;exact .of (.lst z)
  .cases h
   obtain⟨vs,z,t⟩:=r.at' i a _ q hS;exact .of (.dK z)
 |_=>exact nn h
inductive IsiV (ds:Aa D)(S:Sto):Prop
 |bad (e:vY ds S=.bad)
 |of (d:D) (b a:Ek) (ed:ds=[d,.ty b]) (hb:fW b=true) (ha:tyD d S=Ab a) (e:vY ds S=.ok (.bl (gL a b)) S)
theorem AL (ds:Aa D)(S:Sto):IsiV ds S:=by
 cases ds with
 |nil=>exact .bad rfl
 |cons d ds =>
  cases ds with
  |nil=>exact .bad rfl
  |cons e ds =>
   cases ds with
   |cons _ _=>cases e <;> exact .bad rfl
   |nil =>
    cases e with
    |ty b =>
     have z:vY [d,.ty b] S=if fW b then (match tyD d S with|some a=>.ok (.bl (gL a b)) S|none=>.bad) else .bad:=rfl
     by_cases hb:fW b=true
     .rw[Bd hb] at z
      cases ha:tyD d S with
      |none=>rw[ha] at z;exact .bad z
      |some a=>rw[ha] at z;exact .of d b a rfl hb ha z
     .rw[Bf hb] at z
      exact .bad z
    |_=>exact .bad rfl
theorem MF:yV X (.builtin "isinstance") vY:=by
 intro pins σ H s P α S vs us ds Q I r rv rp af;cases AL ds S with
 |bad e=>rw[e] at af;exact Aq af
 |of d b a ed hb ha e =>
  subst ed;rw[e] at af;obtain⟨v,w,u,x,rfl,rfl,p,p',q,q'⟩:=sC rp rv;simp only[Rep] at p';subst p';cases (show x=Iq b from q')
  have kit:=GY (K:=X.K) (R8 ha) hb;have fin:∀ tk,EP X pins σ Q (.bool (gL a b)) { s with toks:=tk }:=λtk=>⟨.bl _,H,I.tok tk,rfl,xr af r (by simp only[Rep])⟩
  cases C7 r p ha with
  |of ht=>exact ZN I q ht kit fin
  |tup p' ws e sq ea =>
   subst e ea;cases (show u=Dh p' from q)
   obtain⟨its,rv',⟨o,h1,h2,_⟩,_⟩:=I.tuple sq;exact Fd Xe I.kIn ⟨o,h1,h2⟩ kit (λz=>nomatch z) fin
  |lst p' ws e sq ea =>
   subst e ea;cases (show u=Dh p' from q)
   obtain⟨its,rv',⟨o,_,h1,h2,_⟩,_⟩:=I.list sq;exact Fd Rm I.kIn ⟨o,h1,h2⟩ kit (λz=>nomatch z) fin
noncomputable def wJ:Aa D->Al (Aa Ar)
 |[]=>Ab []
 |.bl b::r=>(wJ r).map (b::·)
 |_=>none
theorem kX {P:Hp}{α:Aa Af}:∀ {ds:Aa D} {bs:Aa Ar} {vs:Aa V} {us:Aa Ac},wJ ds=Ab bs->qC X.K P α ds vs->qJ vs us->us=bs.map Ig
 |[],bs,vs,us,h,rp,rv=>by
  cases h;have:=rp.nil_inv;subst this;cases rv;rfl
 |d::ds,bs,vs,us,h,rp,rv=>by
  cases d with
  |bl b =>
   obtain⟨bs',q,rfl⟩:=Gm.mp (show (wJ ds).map (b::·)=Ab bs from h)
   obtain⟨w,ws,rfl,p,t⟩:=rp.cons_inv;simp only[Rep] at p;subst p;cases rv with
   |cons q1 q2 =>
    cases (show _=Ig b from q1)
    rw[kX q t q2];rfl
  |_=>exact nn h
noncomputable def gD (any:Ar):DF:=λds S=>match ds with
 |[d]=>match (xD d).bind wJ with
  |some bs=>.ok (.bl (if any then bs.any id else bs.all id)) S
  |none=>.bad
 |_=>.bad
theorem lX (bs:Aa Ar):((Cz bs.length).all λi=>bs.getD i false)=bs.all id:=by
 induction bs with
 |nil=>rfl
 |cons b bs ih =>
  rw[AT,Ja,Rw,Jn,Rw,<- ih];rfl
theorem lY (bs:Aa Ar):((Cz bs.length).any λi=>bs.getD i false)=bs.any id:=by
 induction bs with
 |nil=>rfl
 |cons b bs ih =>
  rw[AT,Ja,La,Xy,La,<- ih];rfl
theorem ZP {H:Hp}{o:Cu}{h':Bw}{tk:Ai}(I:Inv X pins σ H s)(k:∀ b ob,b ∉ [s.heap.objs.size]->(s.heap.push o).get? b=Ab ob->h'.get? b=Ab ob):Inv X pins σ H { s with heap:=h',toks:=tk }:=
 I.kept λb u e=>k b u (by simp;exact Cw (Ba e)) (Ah _ e)
theorem jV {bs:Aa Ar}(hi:its=bs.map Ig){A:Bt}:TruthOf X.prog X.w A (λi v=>its.toArray[i]? = Ab v) (λi=>bs.getD i false):=λi v s' Q' E' hv hQ=>by
 subst hi;have hv':(bs.map Ig)[i]? = Ab v:=by simpa using hv
 rw[Dy] at hv';cases e:bs[i]? with
 |none=>rw[e] at hv';exact nn hv'
 |some b =>
  rw[e] at hv';cases Dd hv';have:bs.getD i false=b:=by simp[Im,e]
  have hQ':Q' (bs.getD i false) s':=hQ;rw[this] at hQ';exact Rl hQ'
theorem GF {any:Ar}{S:Sto}{P:Hp}{α:Aa Af}{Ok:D->Sto->Prop}(h:qI X P α (gD any ds S) Ok):∃ d xs bs,ds=[d]/\ItV d xs/\wJ xs=Ab bs/\Ok (.bl (if any then bs.any id else bs.all id)) S:=by
 obtain⟨d,rfl,h1⟩:=XN (X:=X) (β:=D) (g:=λd=>match (xD d).bind wJ with|some bs=>.ok (D.bl (if any then bs.any id else bs.all id)) S|none=>.bad) h
 cases hb:(xD d).bind wJ with
 |none=>rw[hb] at h1;exact Aq h1
 |some bs =>
  rw[hb] at h1;obtain⟨xs,hx,hbs⟩:=Fj.mp hb;exact⟨d,xs,bs,rfl,itV hx,hbs,h1⟩
theorem MD (any:Ar)(hc:X.calm=true):yV X (.builtin (if any then "any" else "all")) (gD any):=by
 intro pins σ H s P α S vs us ds Q I r rv rp af;obtain⟨d,xs,bs,ed,hd,hbs,ok⟩:=GF af;clear af;subst ed;obtain⟨v,u,rfl,rfl,p,q⟩:=uF rp rv;clear rp;have fin:∀ {o:Cu} (h':Bw) (tk:Ai),(∀ b ob,b ∉ [s.heap.objs.size]->(s.heap.push o).get? b=Ab ob->h'.get? b=Ab ob)->EP X pins σ Q (.bool (if any then bs.any id else bs.all id)) { s with heap:=h',toks:=tk }:=
  λ{o} h' tk k=>⟨.bl _,H,ZP I k,rfl,xr ok r (by simp only[Rep])⟩
 clear rv ok;have hh:X.A.in1.handled=none:=I.ok.hd hc;cases hd with
 |tup ed =>
  subst ed;obtain⟨a,ws,its,rfl,sq,t,rvi,ht,hl,_⟩:=wW I r p;cases (show u=Dh a from q)
  have hi:=kX hbs t rvi;have hlen:its.toArray.size=bs.length:=by rw[hi];simp
  have hne:a≠s.heap.objs.size:=by obtain⟨o,e,_⟩:=ht;exact Cw (Ba e)
  have W:=Walks.tuple (prog:=X.prog) (w:=X.w) hh s.heap.objs.size a hne its.toArray;have hT:∀ o,(s.heap.push o).IsTuple a its.toArray:=λo=>by obtain⟨o,e,c⟩:=ht;exact⟨o,Ah _ e,c⟩
  have ht':s.heap.IsTuple a its.toArray:=ht;cases any with
  |false =>
   refine call_all_walk (Ha ht' ⟨s.heap.objs.size,_,_,_,_,_,_,rfl,W,⟨⟨_,Ay _ rfl,rfl,rfl⟩,hT _⟩,jV hi,λh' tk k=>?_⟩);rw[hlen,lX];exact fin h' tk k
  |true =>
   refine call_any_walk (Ha ht' ⟨s.heap.objs.size,_,_,_,_,_,_,rfl,W,⟨⟨_,Ay _ rfl,rfl,rfl⟩,hT _⟩,jV hi,λh' tk k=>?_⟩);rw[hlen,lY];exact fin h' tk k
 |lst ed =>
  subst ed;obtain⟨a,ws,its,n,rfl,sq,t,rvi,ht,hl,_⟩:=kM I r p;cases (show u=Dh a from q)
  have hL:s.heap.IsList a its.toArray:=⟨_,ht,rfl,n,rfl⟩;have hi:=kX hbs t rvi;have hlen:its.toArray.size=bs.length:=by rw[hi];simp
  have hne:a≠s.heap.objs.size:=Cw (Ba ht);have W:=Aa0 (prog:=X.prog) (w:=X.w) hh s.heap.objs.size a hne its.toArray;have hL':∀ o,(s.heap.push o).IsList a its.toArray:=λo=>⟨_,Ah _ ht,rfl,n,rfl⟩;cases any with
  |false =>
   refine call_all_walk (Fz hL ⟨s.heap.objs.size,_,_,_,_,_,_,rfl,W,⟨⟨_,Ay _ rfl,rfl,rfl⟩,hL' _⟩,jV hi,λh' tk k=>?_⟩);rw[hlen,lX];exact fin h' tk k
  |true =>
   refine call_any_walk (Fz hL ⟨s.heap.objs.size,_,_,_,_,_,_,rfl,W,⟨⟨_,Ay _ rfl,rfl,rfl⟩,hL' _⟩,jV hi,λh' tk k=>?_⟩);rw[hlen,lY];exact fin h' tk k
noncomputable def iQ:DF:=λds S=>match ds with
 |[.int i]=>.ok (.int i) S
 |[.bl b]=>.ok (.int (b01 b)) S
 |_=>.bad
inductive IntV (ds:Aa D)(S:Sto):Prop
 |bad (e:iQ ds S=.bad)
 |int (i:An) (e:ds=[.int i])
 |bl (b:Ar) (e:ds=[.bl b])
theorem AJ (ds:Aa D)(S:Sto):IntV ds S:=by
 cases ds with
 |nil=>exact .bad rfl
 |cons d ds =>
  cases ds with
  |cons _ _=>cases d <;> exact .bad rfl
  |nil =>
   cases d with
   |int i=>exact .int i rfl
   |bl b=>exact .bl b rfl
   |_=>exact .bad rfl
theorem ME:yV X (.type "int") iQ:=by
 intro pins σ H s P α S vs us ds Q I r rv rp af;cases AJ ds S with
 |bad e=>rw[e] at af;exact Aq af
 |int i e =>
  subst e;obtain⟨v,u,rfl,rfl,p,q⟩:=uF rp rv;exact lE pins s σ H _ _ Q I rv (.inl ⟨_,by rw[xI p],xr af r (by simp only[Rep])⟩)
 |bl b e =>
  subst e;obtain⟨v,u,rfl,rfl,p,q⟩:=uF rp rv;simp only[Rep] at p;subst p;exact lE pins s σ H _ _ Q I rv (.inr ⟨_,rfl,xr af r (by simp only[Rep];rfl)⟩)
noncomputable def uX:DF:=λds S=>match ds with
 |[d]=>match xD d with
  |some xs=>.ok (.tup xs) S
  |none=>.bad
 |_=>.bad
theorem WW:yV X (.type "tuple") uX:=by
 intro pins σ H s P α S vs us ds Q I r rv rp af;obtain⟨d,rfl,af1⟩:=XN (X:=X) (β:=D) (g:=λd=>match xD d with|some xs=>.ok (D.tup xs) S|none=>.bad) af
 obtain⟨xs,hx,af2⟩:∃ xs,xD d=Ab xs/\OkV X P α Q (.tup xs) S:=by
  cases hx:xD d with
  |none=>rw[hx] at af1;exact Aq af1
  |some xs=>rw[hx] at af1;exact⟨xs,rfl,af1⟩
 obtain⟨v,u,rfl,rfl,p,q⟩:=uF rp rv;cases itV hx with
 |tup e =>
  subst e;have p0:=p;simp only[Rep] at p;obtain⟨a,ws,rfl,sq,t⟩:=p;exact pH pins s σ H _ _ Q I rv ⟨a,ws,rfl,.inr ⟨w4 r.sub sq,xr af2 r p0⟩⟩
 |lst e =>
  subst e;simp only[Rep] at p;obtain⟨a,ws,rfl,sq,t⟩:=p;exact pH pins s σ H _ _ Q I rv ⟨a,ws,rfl,.inl ⟨(xU r.sub sq).l,λl hl=>gU r hl t af2⟩⟩
end
section
variable {X:Cx}
structure ClsK (K:Aj)(cl:Aa Af):Prop where
 ex:∀ C∈cl,ExnK K C
 one:∀ C∈cl,∀ B∈cl,Lz K (.ref C) (.ref B)=Ab (C == B)
 ve:∀ C∈cl,Lz K (.ref C) (.type "ValueError")=Ab true
noncomputable def O7 (cl:Aa Af):DF:=λds S=>match ds with
 |[.exn (.ref C),.obj B]=>if cl.contains C&&cl.contains B then .ok (.bl (C == B)) S else .bad
 |[.exn (.ref C),.ty b]=>if cl.contains C&&(b == "ValueError") then .ok (.bl true) S else .bad
 |_=>vY ds S
def MtD (X:Cx)(id:Ek)(g:D->Aa D->Sto->Res D):Prop:=
 ∀ (pins:Aa (Af × Cu)) (σ : _L.St) (H:Hp) (s:Ag) (P:Hp) (α : Aa Af) (S:Sto) (v:V) (vv:Ac) (vs:Aa V) (us:Aa Ac) (a:D) (ds:Aa D) (Q:VK),Inv X pins σ H s->Rel X.K H P α S->qG v vv->Rep X.K P α a v->qJ vs us->qC X.K P α ds vs->qV X P α (g a ds S) Q ->
  Ap (As X.prog X.w) X.A (call (.builtin id) (vv::us)) (EP X pins σ Q) X.xe s
noncomputable def dBm (T:Ek)(g:D->Aa D->Sto->Res D)(fo:DE)(fa:DA):DE:=λenv S=>(fo env S).bind λa S1=>if (tyD a S1 == Ab T)=true then (fa env S1).bind λds S2=>g a ds S2 else .bad
theorem eP {H P:Hp}{α:Aa Af}{S:Sto}{a:D}{T:Ek}(r:Rel X.K H P α S)(p:Rep X.K P α a v)(h:tyD a S=Ab T)(hT:T = "list" \/ T = "dict" \/ T = "int" \/ T = "str"):tyV X.K T v H:=by
 cases a with
 |int i=>cases h;simp only[Rep] at p;subst p;rfl
 |str x=>cases h;simp only[Rep] at p;subst p;rfl
 |lst xs =>
  cases h;simp only[Rep] at p;obtain⟨b,vs,rfl,q,t⟩:=p;exact .inl ⟨rfl,vs,(xU r.sub q).l⟩
 |dct0 =>
  cases h;simp only[Rep] at p;obtain⟨b,rfl,q⟩:=p;exact .inr (.inr (.inl ⟨rfl,.inl ⟨[],r.sub _ _ q⟩⟩))
 |loc i =>
  simp only[Rep] at p;obtain⟨b,rfl,q⟩:=p;rcases nG (f:=λ_=>Ab "list") (g:=λ_=>Ab "dict") h with⟨xs,hS,h⟩|⟨kvs,hS,h⟩
  .cases h
   obtain⟨vs,z,t⟩:=r.at' i b _ q hS;exact .inl ⟨rfl,vs,SqL.of z⟩
  .cases h
   obtain⟨vs,z,t⟩:=r.at' i b _ q hS;exact .inr (.inr (.inl ⟨rfl,.inl ⟨vs,z⟩⟩))
 |non=>cases h;exact absurd hT (by decide)
 |bl b=>cases h;exact absurd hT (by decide)
 |tup xs=>cases h;exact absurd hT (by decide)
 |_=>exact nn h
variable {o e:By}{es:Aa By}{fo:DE}{fa:DA}{name:Au}{apos cpos:Fc}{T id:Ek}{g:D->Aa D->Sto->Res D}
theorem MN {P:Hp}{α:Aa Af}{a:D}{S:Sto}{β:Type}{k:Res β}{Ok:β->Sto->Prop}(h:qI X P α (if (tyD a S == Ab T)=true then k else .bad) Ok):tyD a S=Ab T/\qI X P α k Ok:=by
 by_cases z:(tyD a S == Ab T)=true
 .rw[Bd z] at h;exact⟨Wm.mp z,h⟩
 .rw[Bf z] at h;exact Aq h
theorem RO (pa:PlainAttrs T)(slot:Slot T name id)(hty:typeOf (.builtin id)=pure (.type "method_descriptor"))(hT:T = "list" \/ T = "dict" \/ T = "int" \/ T = "str")(hm:MtD X id g)(ho:PE X o (tD X fo))(ha:PA X (e::es) (tDA X fa))
  (hbase:Mm o name X.env (eval o X.env)=eval o X.env:=by rfl)
  (hfew:((Gw cpos (Bo (e::es) X.env)).all (λx=>!x.1)&&(backToKw cpos (keywordEach [] X.env)).all (λx=>x.1.isSome)
   && decide ((e::es).length+([]:Aa Keyword).length+(if ([] : Aa Keyword).isEmpty then 0 else 1)<30))=true:=by rfl)
  (hline:(apos.endLine == cpos.line)=true:=by rfl) (hs:Bo (e::es) X.env=(false,eval e X.env)::Bo es X.env:=by rfl) (hplain:(Gw cpos (Bo es X.env)).any (·.1)=false:=by rfl) :
  PE X (.Call (.Attribute o name apos) (e::es) [] cpos) (tD X (dBm T g fo fa)):=by
 intro pins s σ H Q I h;obtain⟨P,α,env,S,r,re,af⟩:=h;refine wpAny_Call_method_late hbase hfew hline rfl (thn (zO ho I r re af) λvv s1 ⟨v,H1,P1,α1,d,S1,G1,af1⟩=>?_);obtain⟨ht,af2⟩:=MN af1;obtain⟨h1,h2⟩:=eO G1.inv G1.val (eP G1.rel G1.rep ht hT);refine⟨T,id,pa,slot,hty,h1,h2,?_⟩;have hA:=wL ha G1.inv G1.rel G1.env (P:=P1) (α:=α1) (Ok:=OkV X P1 α1 Q) (qV.base G1.same G1.pre (r:=(fa env S1).bind λds S2=>g d ds S2) af2) cpos;rw[hs] at hA ⊢;refine Od (by show (false||(Gw cpos (Bo es X.env)).any (·.1))=false;rw[hplain] <;> rfl) (Vu ?_)
 exact thn hA λus s2 ⟨vs,H2,P2,α2,ds,S2,I2,rv,r2,re2,rp2,e1,e2,af3⟩=>hm pins σ H2 s2 P2 α2 S2 v vv vs us d ds Q I2 r2 G1.val (Rep.mono e1 e2 _ _ G1.rep) rv rp2 (qV.base e1 e2 af3)
noncomputable def xQ:D->Aa D->Sto->Res D:=λa ds S=>match a,ds with
 |.loc i,[d]=>match S[i]? with
  |some (.lst xs)=>if xs.length<lim then .ok .non (S.set i (.lst (xs++[d]))) else .bad
  |_=>.bad
 |_,_=>.bad
inductive ApV (a:D)(ds:Aa D)(S:Sto):Prop
 |bad (e:xQ a ds S=.bad)
 |of (i:Ai) (d:D) (xs:Aa D) (ea:a=.loc i) (ed:ds=[d]) (hS:S[i]? = Ab (.lst xs)) (hl:xs.length<lim) (e:xQ a ds S=.ok .non (S.set i (.lst (xs++[d]))))
theorem apV (a:D)(ds:Aa D)(S:Sto):ApV a ds S:=by
 cases a with
 |loc i =>
  cases ds with
  |nil=>exact .bad rfl
  |cons d ds =>
   cases ds with
   |cons _ _=>exact .bad rfl
   |nil =>
    have z:xQ (.loc i) [d] S=(match S[i]? with|some (.lst xs)=>(if xs.length<lim then .ok .non (S.set i (.lst (xs++[d]))) else .bad)|_=>.bad):=rfl
    cases hS:S[i]? with
    |none=>rw[hS] at z;exact .bad z
    |some m =>
     rw[hS] at z;cases m with
     |lst xs =>
      by_cases hl:xs.length<lim
      .exact .of i d xs rfl rfl hS hl (z.trans (Bd hl))
      .exact .bad (z.trans (Bf hl))
     |_=>exact .bad z
 |_=>exact .bad rfl
theorem X6:MtD X "list.append" xQ:=by
 intro pins σ H s P α S v vv vs us a ds Q I r rv p rvs rps af;cases apV a ds S with
 |bad e=>rw[e] at af;exact Aq af
 |of i d xs ea ed hS hl e =>
  rw[e] at af;subst ea ed;obtain⟨w,u,rfl,rfl,p',q'⟩:=uF rps rvs;simp only[Rep] at p;obtain⟨b,rfl,q⟩:=p;obtain⟨ws,z,t⟩:=r.at' i b _ q hS;refine XB pins s σ H (.ref b) [w] vv [u] Q I rv (.cons q' .nil) ⟨b,ws,w,rfl,rfl,z,by rw[<- t.length,<- zX];exact hl,?_⟩
  exact xr af (r.put (m':=.lst (xs++[d])) q hS (by intro z;cases z) ⟨ws++[w],zD,t.append (.cons p' .nil)⟩) (by simp only[Rep])
end
noncomputable def yC:D->Al Key
 |.int i=>Ab (.inl i)
 |.str x=>Ab (.inr x)
 |_=>none
noncomputable def zZ (kvs:Aa (Key × D))(k:Key):Al D:=(kvs.find? λkv=>decide (kv.1=k)).map (·.2)
noncomputable def w6 (kvs:Aa (Key × D))(k:Key)(v:D):Aa (Key × D):=
 if (kvs.any λkv=>decide (kv.1=k))=true then kvs.map (λkv=>if kv.1=k then (kv.1,v) else kv) else kvs++[(k,v)]
section
variable {K:Aj}{P:Hp}{α : Aa Af}
theorem cV {vs:Aa (Key × V)}(r:KVs K P α kvs vs):kvs.length=vs.length:=Paired.length r
theorem bN {k:Key}:∀ {kvs:Aa (Key × D)} {vs:Aa (Key × V)},KVs K P α kvs vs->(∀ d,zZ kvs k=Ab d->∃ v,yD vs k=Ab v/\Rep K P α d v)/\(zZ kvs k=none->yD vs k=none)
 |_,_,.nil=>⟨λd h=>by simp[zZ] at h,λ_=>rfl⟩
 |(k1,d1)::kvs,(k2,v2)::vs,.cons z t=>by
  obtain⟨e,r⟩:=z;dsimp only at e r;subst e;obtain⟨h1,h2⟩:=bN (k:=k) t;unfold zZ yD at *;by_cases hk:k1=k
  .subst hk
   constructor
   .intro d h
    simp at h;subst h;exact⟨v2,by simp,r⟩
   .intro h
    simp at h
  .constructor
   .intro d h
    rw[Uc (by simpa using hk)] at h ⊢
    exact h1 d h
   .intro h
    rw[Uc (by simpa using hk)] at h ⊢
    exact h2 h
theorem GZ {k:Key}{vs:Aa (Key × V)}(h:KVs K P α kvs vs):(kvs.any λkv=>decide (kv.1=k))=(vs.any λkv=>decide (kv.1=k)):=by
 induction h with
 |nil=>rfl
 |cons z t ih=>rw[La,La,ih,z.1]
theorem P8 {k:Key}(q:Rep K P α d v){kvs:Aa (Key × D)}{vs:Aa (Key × V)}(h:KVs K P α kvs vs):KVs K P α (kvs.map λkv=>if kv.1=k then (kv.1,d) else kv) (vs.map λkv=>if kv.1=k then (kv.1,v) else kv):=by
 induction h with
 |nil=>exact .nil
 |cons z t ih =>
  rw[De,De];refine .cons ?_ ih;rw[<- z.1]
  split
  .exact⟨rfl,q⟩
  .exact z
theorem P7 {k:Key}(q:Rep K P α d v){kvs:Aa (Key × D)}{vs:Aa (Key × V)}(h:KVs K P α kvs vs):KVs K P α (kvs++[(k,d)]) (vs++[(k,v)]):=by
 induction h with
 |nil=>exact .cons ⟨rfl,q⟩ .nil
 |cons z t ih=>exact .cons z ih
theorem cW {k:Key}(q:Rep K P α d v){kvs:Aa (Key × D)}{vs:Aa (Key × V)}(r:KVs K P α kvs vs):KVs K P α (w6 kvs k d) (yN vs k v):=by
 unfold w6 yN;rw[GZ r]
 split
 .exact P8 q r
 .exact P7 q r
theorem mQ {k:Key}(h:yC d=Ab k)(r:Rep K P α d v):v=kV k:=by
 cases d with
 |int i=>cases h;simp only[Rep] at r;exact r
 |str x=>cases h;simp only[Rep] at r;exact r
 |_=>cases h
end
section
variable {X:Cx}{o i e:By}{pos:Fc}{fo fi:DE}
noncomputable def sZ:DE:=λ_ S=>.ok (.loc S.length) (S++[.dct []])
theorem MR:PE X (.Dict [] [] pos) (tD X sZ):=by
 refine peW VU λσ H Q ⟨P,α,env,S,r,re,af⟩ p hp=>?_;have hpre:α<+:α++[p]:=Ng _ _;have r1:=r.new (o:=.dK []) (m:=.dct []) hp ⟨[],zD,.nil⟩;refine af _ _ _ _ r1 (qF.refl _) hpre ?_;simp only[Rep];exact⟨p,rfl,by rw[<- r.len];simp⟩
noncomputable def y9:G3:=λo i d S=>match o with
 |.loc n=>match S[n]? with
  |some (.dct kvs)=>match yC i with
   |some k=>if kvs.length<lim then .ok () (S.set n (.dct (w6 kvs k d))) else .bad
   |none=>.bad
  |_=>fR o i d S
 |_=>fR o i d S
inductive Set2V (a b d:D)(S:Sto):Prop
 |bad (e:y9 a b d S=.bad)
 |old (e:y9 a b d S=fR a b d S)
 |of (n:Ai) (kvs:Aa (Key × D)) (k:Key) (ea:a=.loc n) (hS:S[n]? = Ab (.dct kvs)) (hk:yC b=Ab k) (hl:kvs.length<lim) (e:y9 a b d S=.ok () (S.set n (.dct (w6 kvs k d))))
theorem HQ (a b d:D)(S:Sto):Set2V a b d S:=by
 cases a with
 |loc n =>
  have z:y9 (.loc n) b d S=(match S[n]? with|some (.dct kvs)=>(match yC b with|some k=>(if kvs.length<lim then .ok () (S.set n (.dct (w6 kvs k d))) else .bad)|none=>.bad)|_=>fR (.loc n) b d S):=rfl
  cases hS:S[n]? with
  |none=>rw[hS] at z;exact .old z
  |some m =>
   rw[hS] at z;cases m with
   |dct kvs =>
    cases hk:yC b with
    |none=>rw[hk] at z;exact .bad z
    |some k =>
     rw[hk] at z;by_cases hl:kvs.length<lim
     .exact .of n kvs k rfl hS hk hl (z.trans (Bd hl))
     .exact .bad (z.trans (Bf hl))
   |_=>exact .old z
 |_=>exact .old rfl
theorem SU (hu:X.A.units+1<Du):sI X (sE X y9):=by
 intro pins s σ H o i v ov iv u Q I ro ri rv h;obtain⟨P,α,S,a,b,d,r,pa,pb,pd,af⟩:=h;cases HQ a b d S with
 |bad e=>rw[e] at af;exact Aq af
 |old e =>
  rw[e] at af;exact HR pins s σ H o i v ov iv u Q I ro ri rv ⟨P,α,S,a,b,d,r,pa,pb,pd,af⟩
 |of n kvs k ea hS hk hl e =>
  rw[e] at af;subst ea;simp only[Rep] at pa;obtain⟨p,rfl,q⟩:=pa;obtain⟨vs,z,t⟩:=r.at' n p _ q hS;cases mQ hk pb;cases (show ov=Dh p from ro)
  refine QZ hu I (tH.k (v:=v) z (by rw[<- cV t,<- zX];exact hl)) ri rv λs' I'=>⟨_,I',?_⟩
  exact af _ P α (r.put (m':=.dct (w6 kvs k d)) q hS (by intro z;cases z) ⟨_,zD,cW pd t⟩) (qF.refl _) (Be _)
end
noncomputable def dO (S:Sto):Sto:=S.map λ_=>.dead
noncomputable def iS (H P:Hp)(α : Aa Af):Hp:=λb=>if (P b).isSome then P b else if b∈α then H b else none
section
variable {K:Aj}{H P:Hp}{α : Aa Af}{S:Sto}
theorem YU (r:Rel K H P α S):qF (iS H P α) H:=λb o e=>by
 unfold iS at e
 split at e
 .exact r.sub b o e
 .split at e
  .exact e
  .cases e
theorem Rel.frz (r:Rel K H P α S):Rel K H (iS H P α) α (dO S) where
 tb:=r.tb.keep (λ_ _ q _=>q) λb u q _ p n=>⟨by unfold iS;rw[p];simp[n],n⟩
 sub:=YU r
 len:=by rw[r.len];simp[dO]
 nd:=r.nd
 sep:=λi a o h1 h2 h3=>by
  unfold dO at h2;rw[Dy] at h2;cases q:S[i]? with
  |none=>rw[q] at h2;cases h2
  |some m=>rw[q] at h2;cases h2;exact absurd rfl h3
 at':=λi a o h1 h2=>by
  unfold dO at h2;rw[Dy] at h2;cases q:S[i]? with
  |none=>rw[q] at h2;cases h2
  |some m=>rw[q] at h2;cases h2;trivial
 own:=r.own
end
noncomputable def vV (t:DT)(f:DS):Ai->qB->Sto->Out
 |0,_,_=>.bad
 |n+1,env,S=>(t env S).toS env λb S1=>if b then (match f env S1 with
   |.nx env2 S2=>vV t f n env2 S2
   |.ct env2 S2=>vV t f n env2 S2
   |.bk env2 S2=>.nx env2 S2
   |o=>o) else .nx env S1
theorem QD:∃ n:Ai,n=2 ^ 60:=⟨_,rfl⟩
def big:Ai:=Md QD
theorem M8:big=2 ^ 60:=Lp QD
def tE (t:DT)(f:DS):DS:=λenv S=>vV t f big env S
section
variable {X:Cx}{pos:Fc}
inductive WhI (X:Cx)(P:Hp)(α : Aa Af)(t:DT)(f:DS)(D:Ends)(m:Ai)(σ : _L.St)(H:Hp):Prop
 |mk (P2:Hp) (α2:Aa Af) (env2:qB) (S2:Sto) (r:Rel X.K H P2 α2 S2) (re:zG X.K P2 α2 σ env2) (e1:qF P P2) (e2:α<+:α2) (af:z9 X P2 α2 (vV t f m env2 S2) D):WhI X P α t f D m σ H
theorem YG {c:By}{body:Aa Gd}{t:DT}{f:DS}(hp:Rk (As X.prog X.w) X.A X.env X.xe)(hc:PT X c (tDT X t))(hb:PSs X body (tDS X f)):PS X (.While c body [] pos) (tDS X (tE t f)):=
 psW (VY hp hc hb) λD σ H ⟨P,α,env,S,r,re,af⟩=>by
  refine⟨WhI X P α t f D,⟨big,P,α,env,S,r,re,qF.refl _,Be _,af⟩,?_⟩;rintro m σ2 H2 ⟨P2,α2,env2,S2,r2,re2,e1,e2,af2⟩;cases m with
  |zero=>exact Aq af2
  |succ m =>
   have af3:=xH af2;refine⟨P2,α2,env2,S2,r2,re2,?_⟩;cases q:t env2 S2 with
   |bad=>rw[q] at af3;exact af3
   |ex c x S'=>rw[q] at af3;exact af3
   |ok b S3 =>
    rw[q] at af3;intro H3 P3 α3 r3 e3 e4;have af4:z9 X P3 α3 (if b then (match f env2 S3 with|.nx env2 S2=>vV t f m env2 S2|.ct env2 S2=>vV t f m env2 S2|.bk env2 S2=>.nx env2 S2|o=>o) else .nx env2 S3) D:=z9.base e3 e4 af3
    cases b with
    |false=>exact af4 σ2 H3 P3 α3 r3 (re2.mono e3 e4) (qF.refl _) (Be _)
    |true =>
     simp only[Ds] at af4 ⊢;refine⟨WhI X P α t f D m,λσ' H' w=>⟨m,Jb _,w⟩,P3,α3,env2,S3,r3,re2.mono e3 e4,?_⟩;cases q2:f env2 S3 with
     |bad=>rw[q2] at af4;exact af4
     |ex c x env4 S4=>rw[q2] at af4;exact af4
     |rt d4 S4=>rw[q2] at af4;exact af4
     |bk env4 S4=>rw[q2] at af4;exact af4
     |nx env4 S4 =>
      rw[q2] at af4;exact λσ5 H5 P5 α5 r5 re5 e8 e9=>⟨P5,α5,env4,S4,r5,re5,(e1.trans e3).trans e8,(e2.trans e4).trans e9,z9.base e8 e9 af4⟩
     |ct env4 S4 =>
      rw[q2] at af4;exact λσ5 H5 P5 α5 r5 re5 e8 e9=>⟨P5,α5,env4,S4,r5,re5,(e1.trans e3).trans e8,(e2.trans e4).trans e9,z9.base e8 e9 af4⟩
end
section
variable {X:Cx}{a b c e:By}{pos:Fc}{fa fe:DE}
def IC (X:Cx)(g:G2):TIp:=λx y H Q=>∃ P α S a b,Rel X.K H P α S/\Rep X.K P α a x/\Rep X.K P α b y/\qV X P α (g a b S) Q
def IpD (X:Cx)(op:Oc)(g:G2):Prop:=PIp X op (IC X g)
noncomputable def b8 (i:Ai)(g:G2)(fe:DE):DS:=λenv S=>match env[i]? with
 |some (Ab x)=>(fe env S).toS env λy S1=>(g x y S1).toS env λz S2=>.nx (env.set i (Ab z)) S2
 |_=>.bad
set_option tactic.hygienic true in
theorem TC {i:Ai}{x:Au}{op:Oc}{g:G2}{pos':Fc}(hN:X.N.Nodup)(he:PE X e (tD X fe))(ho:IpD X op g)(hi:X.N[i]? = Ab x:=by rfl)(hx:Loc X.env.scope x:=by first|exact Zl rfl|exact Xa rfl)
  (hf:X.fn x=true\/X.env.scope.names.lookup x=Ab .local:=by first|exact .inl rfl|exact .inr rfl|assumption):PS X (.AugAssign (.Name x pos') op e pos) (tDS X (b8 i g fe)):=
 psW (D1 hN hi hx he ho hf) λD σ H ⟨P,α,env,S,r,re,af⟩=>by
  unfold b8 at af
  split at af
  .rename_i d hd
   obtain⟨v,hv,pv⟩:=re.2 i d hd;refine⟨v,hv,P,α,env,S,r,re,?_⟩;have af1:=xH af;cases q:fe env S with
   |bad=>rw[q] at af1;exact af1
   |ex c x S'=>rw[q] at af1;exact af1
   |ok y S1 =>
    rw[q] at af1;intro u H1 P1 α1 r1 e1 e2 rp;refine⟨P1,α1,S1,d,y,r1,Rep.mono e1 e2 _ _ pv,rp,?_⟩;have af2:=xH (z9.base e1 e2 af1);cases q2:g d y S1 with
    |bad=>rw[q2] at af2;exact af2
    |ex c x S'=>rw[q2] at af2;exact af2
    |ok z S2 =>
     rw[q2] at af2;exact λw H2 P2 α2 r2 e3 e4 rp2=>af2 _ H2 P2 α2 r2 (((re.mono e1 e2).mono e3 e4).set i rp2) e3 e4
  .exact Aq af
noncomputable def iT:G2:=i2 (λ_ _=>true) λi j=>.int (i+j)
theorem GN:IpD X .Add iT:=by
 intro pins s σ H x y v u Q I rx ry h;obtain⟨P,α,S,a,b,r,pa,pb,af⟩:=h;obtain⟨i,j,rfl,rfl,_,ok⟩:=iZ af;exact N6 pins s σ H x y v u Q I rx ry ⟨i,j,xI pa,xI pb,xr ok r (by simp only[Rep])⟩
noncomputable def xO (xs:Aa D)(lo hi:Al An):Aa D:=(xs.drop (_H.sIx xs.length 0 lo)).take (_H.sIx xs.length xs.length hi-_H.sIx xs.length 0 lo)
abbrev DO:=qB->Sto->Res (Al An)
def OkO (X:Cx)(P:Hp)(α : Aa Af)(Q:Al An->Hp->Prop)(o:Al An)(S':Sto):Prop:=∀ H' P' α',Rel X.K H' P' α' S'->qF P P'->α<+:α'->Q o H'
def tDO (X:Cx)(f:DO):TO:=λσ H Q=>∃ P α env S,Rel X.K H P α S/\zG X.K P α σ env/\qI X P α (f env S) (OkO X P α Q)
noncomputable def xX:DO:=λ_ S=>.ok none S
noncomputable def xA (f:DE):DO:=λenv S=>(f env S).bind λd S1=>match d with
 |.int i=>.ok (Ab i) S1
 |_=>.bad
theorem KU:PO X none (tDO X xX):=λpins s σ H Q I ⟨P,α,env,S,r,re,af⟩=>B7 pins s σ H Q I (af H P α r (qF.refl _) (Be _))
theorem KW (he:PE X e (tD X fe)):PO X (Ab e) (tDO X (xA fe)):=by
 intro pins s σ H Q I h;obtain⟨P,α,env,S,r,re,af⟩:=h;refine B8 (te:=tD X fe) he pins s σ H Q I ⟨P,α,env,S,r,re,?_⟩;have af':qI X P α ((fe env S).bind λd S1=>match d with|.int i=>.ok (Ab i) S1|_=>.bad) (OkO X P α Q):=af
 cases q:fe env S with
 |bad=>rw[q] at af';exact af'
 |ex c x S'=>rw[q] at af';exact af'
 |ok d S1 =>
  rw[q] at af';intro v H1 P1 α1 r1 e1 e2 rp;cases d with
  |int i=>exact⟨i,xI rp,af' H1 P1 α1 r1 e1 e2⟩
  |_=>exact Aq af'
theorem qC.cut {K:Aj}{P:Hp}{α:Aa Af}(r:qC K P α ds vs)(lo hi:Al An):qC K P α (xO ds lo hi) (pP vs lo hi):=by
 unfold xO pP;rw[r.length];exact(r.drop _).take _
noncomputable def gSl (d:D)(lo hi:Al An)(S:Sto):Res D:=match d with
 |.lst xs=>.ok (.lst (xO xs lo hi)) S
 |.loc i=>match S[i]? with
  |some (.lst xs)=>.ok (.lst (xO xs lo hi)) S
  |_=>.bad
 |.tup xs=>.ok (.tup (xO xs lo hi)) S
 |_=>.bad
noncomputable def dSl (fe:DE)(fl fh:DO):DE:=λenv S=>(fe env S).bind λd S1=>(fl env S1).bind λlo S2=>(fh env S2).bind λhi S3=>gSl d lo hi S3
end
end _D
namespace _D
open PySem PySem.Spec PyProof.Rows _L _H
section
variable {prog:Bg}{w:Ca}{A:Bt}{E:Ac->Ag->Prop}{s:Ag}
theorem pI {t sl:Af}{items:Ax Ac}{vl vu:Ac}{lo hi:Al An}{Q:Ac->Ag->Prop}(ht:Of s.heap t items)(hs:s.heap.IsSliceOf sl vl vu .none)(pl:Qy vl lo)(pu:Qy vu hi)
  (hw:sIx items.size 0 lo=0/\sIx items.size items.size hi=items.size) (h:Q (.ref t) s):Ap (As prog w) A (Nk (.ref t) (.ref sl)) Q E s:=by
 obtain⟨ob,hob,hcb,_⟩:=id hs;have hTs:s.TypeIs (.ref sl) "slice":=⟨ob,hob,hcb⟩;unfold Nk
 try with_reducible refine Ej ?_
 first|refine Ad (Am ?_)|skip
 refine Ad (Yl ht.typeIs (by decide) ?_)
 refine Ad (Eg (name:=Gg "__getitem__") ht.typeIs Fg
  (Em Fg ht.typeIs Wh ?_ (Xg _ _)))
 show Ap _ _ (Ra (.ref t) >>= _) _ _ s;refine Ad (tupleItemsOf_ ht ?_);refine Ad (Nl hTs ?_);rw[Bd (by decide)]
 refine Ad (jF hs pl pu ?_);show Ap _ _ (if (((sIx items.size 0 lo:Ai):An) == 0&&(1:An) == 1&&(sIx items.size items.size hi-sIx items.size 0 lo) == items.size)=true then _ else _) _ _ s
 rw[hw.1,hw.2,Bd (by simp)]
 unfold Builtin.Tuple.tupleIsExact;refine Ad (Ad (Nl ht.typeIs (Am ?_)));rw[Bd (by decide)]
 exact Ad (Go (Am ⟨_,rfl,Am h⟩))
end
section
variable {X:Cx}{e:By}{fe:DE}{pos p2:Fc}
def AY (X:Cx):V->Al An->Al An->Hp->VK->Prop:=λx lo hi H Q=>∃ P α S d,Rel X.K H P α S/\Rep X.K P α d x/\qV X P α (gSl d lo hi S) Q
theorem I9:SlR X (AY X):=by
 intro pins s σ H x v vl vu lo hi sl Q I rx hs pl pu h;obtain⟨P,α,S,d,r,p,af⟩:=h;cases d with
 |lst xs =>
  simp only[Rep] at p;obtain⟨a,vs,rfl,q,t⟩:=p;exact aU pins s σ H _ v vl vu lo hi sl Q I rx hs pl pu ⟨a,vs,rfl,(xU r.sub q).l,λb hb=>yM r hb (qC.cut t lo hi) af⟩
 |loc i =>
  obtain⟨xs,hS,af⟩:=gT (X:=X) (f:=λxs=>Res.ok (D.lst (xO xs lo hi)) S) af;simp only[Rep] at p;obtain⟨a,rfl,q⟩:=p;obtain⟨vs,z,t⟩:=r.at' i a _ q hS;exact aU pins s σ H _ v vl vu lo hi sl Q I rx hs pl pu ⟨a,vs,rfl,SqL.of z,λb hb=>yM r hb (qC.cut t lo hi) af⟩
 |tup xs =>
  have p0:=p;simp only[Rep] at p;obtain⟨a,vs,rfl,q,t⟩:=p;by_cases hw:sIx vs.length 0 lo=0/\sIx vs.length vs.length hi=vs.length
  .cases rx
   obtain⟨its,rv,ht,hz⟩:=I.tuple (w4 r.sub q);have hlen:its.toArray.size=vs.length:=by rw[Bj];exact rv.length.symm
   refine⟨"tuple",_,Fg.lookup,ht.typeIs,pI ht hs pl pu (by rw[hlen];exact hw) ⟨.ref a,H,I,rfl,xr af r ?_⟩⟩
   have e:xO xs lo hi=xs:=by
    unfold xO;rw[t.length,hw.1,hw.2,<- t.length];simp
   rw[e];exact p0
  .exact SW pins s σ H _ v vl vu lo hi sl Q I rx hs pl pu ⟨a,vs,rfl,w4 r.sub q,hw,λb hb=>gU r hb (qC.cut t lo hi) af⟩
 |_=>exact Aq af
theorem Y7 {lo hi:Al By}{fl fh:DO}(he:PE X e (tD X fe))(hl:PO X lo (tDO X fl))(hu:PO X hi (tDO X fh)):PE X (.Subscript e (.Slice lo hi none p2) pos) (tD X (dSl fe fl fh)):=
 peW (VV I9 he hl hu) λσ H Q ⟨P,α,env,S,r,re,af⟩=>by
  refine⟨P,α,env,S,r,re,?_⟩;have af':qI X P α ((fe env S).bind λd S1=>(fl env S1).bind λlo S2=>(fh env S2).bind λhi S3=>gSl d lo hi S3) (OkV X P α Q):=af;cases q:fe env S with
  |bad=>rw[q] at af';exact af'
  |ex c x S'=>rw[q] at af';exact af'
  |ok d S1 =>
   rw[q] at af';intro v H1 P1 α1 r1 e1 e2 rp;refine⟨P1,α1,env,S1,r1,re.mono e1 e2,?_⟩;have af2:qI X P1 α1 ((fl env S1).bind λlo S2=>(fh env S2).bind λhi S3=>gSl d lo hi S3) (OkV X P1 α1 Q):=qV.base e1 e2 af';cases q2:fl env S1 with
   |bad=>rw[q2] at af2;exact af2
   |ex c x S'=>rw[q2] at af2;exact af2
   |ok l S2 =>
    rw[q2] at af2;intro H2 P2 α2 r2 e3 e4;refine⟨P2,α2,env,S2,r2,(re.mono e1 e2).mono e3 e4,?_⟩;have af3:qI X P2 α2 ((fh env S2).bind λhi S3=>gSl d l hi S3) (OkV X P2 α2 Q):=qV.base e3 e4 af2;cases q3:fh env S2 with
    |bad=>rw[q3] at af3;exact af3
    |ex c x S'=>rw[q3] at af3;exact af3
    |ok u S3 =>
     rw[q3] at af3;intro H3 P3 α3 r3 e5 e6;exact⟨P3,α3,S3,d,r3,Rep.mono (e3.trans e5) (e4.trans e6) _ _ rp,qV.base e5 e6 af3⟩
noncomputable def tU (d:D)(S:Sto):Res D:=match d with
 |.int i=>if i.natAbs.log2<1920 then .ok (.str (toString i)) S else .bad
 |.str x=>if x.length<=lim then .ok (.str x) S else .bad
 |_=>.bad
set_option tactic.hygienic true in
theorem MS (he:PE X e (tD X fe)):PE X (.FormattedValue e (-1) none pos) (tD X (d1 tU fe)):=by
 intro pins s σ H Q I h;obtain⟨P,α,env,S,r,re,af⟩:=h;refine FormattedValue_plain (thn (zO he I r re af) λvv s1 ⟨v,H1,P1,α1,d,S1,G1,af1⟩=>?_);have p:=G1.rep;have rv:=G1.val;have af2:=qV.base G1.same G1.pre af1;cases d with
 |int i =>
  simp only[tU] at af2
  split at af2
  .rename_i hd
   simp only[Rep] at p;subst p;obtain⟨t,rfl⟩:=rv;exact formatField_int_small hd ⟨.str _,H1,G1.inv.tok _,⟨_,rfl⟩,xr af2 G1.rel (by simp only[Rep])⟩
  .exact Aq af2
 |str x =>
  simp only[tU] at af2
  split at af2
  .rename_i hd
   simp only[Rep] at p;subst p;obtain⟨t,rfl⟩:=rv;exact formatField_str (λt' tk=>⟨.str _,H1,G1.inv.tok _,⟨_,rfl⟩,xr af2 G1.rel (by simp only[Rep])⟩) (by rw[<- zX];exact hd)
  .exact Aq af2
 |_=>exact Aq af2
noncomputable def dX (out:Au):Aa DE->qB->Sto->Res D
 |[],_,S=>if out.length<=lim then .ok (.str out) S else .bad
 |p::ps,env,S=>(p env S).bind λd S1=>match d with
  |.str y=>if (out++y).length<=lim then dX (out++y) ps env S1 else .bad
  |_=>.bad
def PJ (X:Cx)(es:Aa By)(fs:Aa DE):Prop:=
 ∀ (out:Au) (pins:Aa (Af × Cu)) (s:Ag) (σ : _L.St) (H P:Hp) (α : Aa Af) (env:qB) (S:Sto) (Q:VK),Inv X pins σ H s->Rel X.K H P α S->zG X.K P α σ env->qV X P α (dX out fs env S) Q ->
  Ap (As X.prog X.w) X.A (joinParts out (evalEach es X.env)) (EP X pins σ Q) X.xe s
theorem D0:PJ X [] []:=by
 intro out pins s σ H P α env S Q I r re af;obtain⟨hl,af⟩:=wO (X:=X) af;exact joinParts_nil ⟨.str _,H,I.tok _,⟨_,rfl⟩,xr af r (by simp only[Rep])⟩ (by rw[<- zX];exact hl)
theorem B5 {es:Aa By}{fs:Aa DE}(he:PE X e (tD X fe))(hr:PJ X es fs):PJ X (e::es) (fe::fs):=by
 intro out pins s σ H P α env S Q I r re af;have af:qI X P α ((fe env S).bind λd S1=>match d with|.str y=>if (out++y).length<=lim then dX (out++y) fs env S1 else .bad|_=>.bad) (OkV X P α Q):=af
 refine joinParts_cons (thn (zO he I r re af) λvv s1 ⟨v,H1,P1,α1,d,S1,G1,af1⟩=>?_);cases d with
 |str y =>
  have p:=G1.rep;simp only[Rep] at p;subst p;obtain⟨t,rfl⟩:=G1.val;obtain⟨hl,af1⟩:=wO (X:=X) af1;exact⟨by rw[<- zX];exact hl,hr (out++y) pins s1 σ H1 P1 α1 env S1 Q G1.inv G1.rel G1.env (qV.base G1.same G1.pre af1)⟩
 |_=>exact Aq af1
noncomputable def iM (fs:Aa DE):DE:=λenv S=>dX AaD fs env S
theorem KJ {v₁ v₂:By}{rest:Aa By}{fs:Aa DE}(h:PJ X (v₁::v₂::rest) fs):PE X (.JoinedStr (v₁::v₂::rest) pos) (tD X (iM fs)):=by
 intro pins s σ H Q I hq;obtain⟨P,α,env,S,r,re,af⟩:=hq;exact JoinedStr_many (h AaD pins s σ H P α env S Q I r re af)
end
end _D
namespace _D
open PySem PySem.Spec PyProof.Rows _L
variable {α:Aa Af}{ns:Aa An}{N:Aa Au}{its ds dsF:Aa D}{body:Aa Gd}{vs:Aa V}{Q:Ac->Ag->Prop}{Qa Qd:Ag->Prop}{m:Ai}{o':Al (Ai × MO)}{tp:Ar}{xs ys:Ax Ac}{h':Bw}{R:It->Hp->Prop}{S SF:Sto}{env envF:qB}
def zJ (tp:Ar)(h:Bw)(it l:Af)(k:Ai):Prop:=if tp then h.IsTupleIter it l k else h.IsListIter it l k
def xR (tp:Ar)(h:Bw)(l:Af)(xs:Ax Ac):Prop:=if tp then h.IsTuple l xs else h.IsList l xs
theorem zJ.keep {h:Bw}{it l:Af}{k:Ai}(x:zJ tp h it l k)(q:∀ o,h.get? it=Ab o->h'.get? it=Ab o):zJ tp h' it l k:=by
 cases tp <;> (obtain⟨o,e,r⟩:=x;exact⟨o,q o e,r⟩)
theorem xR.keep {h:Bw}{l:Af}(x:xR tp h l xs)(q:∀ o,h.get? l=Ab o->h'.get? l=Ab o):xR tp h' l xs:=by
 cases tp <;> (obtain⟨o,e,r⟩:=x;exact⟨o,q o e,r⟩)
theorem zJ.there {h:Bw}{it l:Af}{k:Ai}(x:zJ tp h it l k):∃ o,h.get? it=Ab o/\∀ v,o.data≠.cell v:=by
 cases tp <;> (obtain⟨o,e,_,d⟩:=x;exact⟨o,e,λv z=>by rw[d] at z;cases z⟩)
section
variable {prog:Bg}{w:Ca}{A:Bt}{E:Ac->Ag->Prop}{s:Ag}
theorem VO {it t:Af}{i:Ai}{items:Ax Ac}{x:Ac}(hit:s.heap.IsTupleIter it t i)(ht:s.heap.IsTuple t items)(hx:items[i]? = Ab x)
  (hQ:∀ h',h'.IsTupleIter it t (i+1)->Ez it s.heap h'->Q x { s with heap:=h' }) : Ap (As prog w) A (Ea (.ref it)) Q E s:=by
 obtain⟨o,e,c,d⟩:=id hit;obtain⟨u,eu,_,m,du⟩:=ht;unfold Ea;refine Ad (Eg (name:=Gg "__next__") hit.typeIs Ji (Em Ji hit.typeIs Qh ?_ (Pw _)));show Ap _ _ (field (.ref it) 0 >>= _) _ _ s;refine Ad (El e d (x:=.ref t) rfl ?_);show Ap _ _ (if (Dh t == Dq)=true then _ else _) _ _ s;rw[Bf (show ¬ ((Dh t == Dq)=true) from Ic)]
 show Ap _ _ (field (.ref it) 1 >>= _) _ _ s;refine Ad (El e d (x:=.int i 0) rfl ?_);show Ap _ _ (seqItems? (.ref t) >>= _) _ _ s;refine Ad (Fe eu du ?_);simp only[Gq,hx];refine Ad (Nr e d (by simp) (Am ⟨x,rfl,Am (hQ _ ⟨_,Es _ e (Obj.isFreed_of_fields (Xm d _)),(Obj.cls_mapFields ..).trans c,?_⟩ (Hs ..))⟩))
 rw[Xm d];simp[Ol]
theorem rT {it t:Af}{i:Ai}{items:Ax Ac}{Q:Ac->Ag->Prop}(hh:A.handled=none)(hit:s.heap.IsTupleIter it t i)(ht:s.heap.IsTuple t items)(hx:items[i]? = none)
  (hE:∀ h' e,Heap.ExtBut it s.heap h'->(∃ o,h'.get? e=Ab o/\o.cls=.type "StopIteration")->E (.ref e) { s with heap:=h' }) : Ap (As prog w) A (Ea (.ref it)) Q E s:=by
 obtain⟨o,e,c,d⟩:=id hit;obtain⟨u,eu,_,m,du⟩:=ht;unfold Ea;refine Ad (Eg (name:=Gg "__next__") hit.typeIs Ji (Em Ji hit.typeIs Qh ?_ (Pw _)));show Ap _ _ (field (.ref it) 0 >>= _) _ _ s;refine Ad (El e d (x:=.ref t) rfl ?_);show Ap _ _ (if (Dh t == Dq)=true then _ else _) _ _ s;rw[Bf (show ¬ ((Dh t == Dq)=true) from Ic)]
 show Ap _ _ (field (.ref it) 1 >>= _) _ _ s;refine Ad (El e d (x:=.int i 0) rfl ?_);show Ap _ _ (seqItems? (.ref t) >>= _) _ _ s;refine Ad (Fe eu du ?_);simp only[Gq,hx];refine Ad (Go (Ad (Nr e d (by simp) ?_)))
 show Ap _ _ (newExc (.type "StopIteration") [] >>= _) _ _ _;refine Ad ?_;simp only[newExc,newTuple];refine Ad (Ee ?_ (by size_fits))
 refine Ad (m:=Qi _ _) (Ux (a:=Dq) (by first|rfl|(simp only[Qi];rfl)) (Ee ?_ (by size_fits)))
 simp only[raiseNew];refine Ad (wpAny_handled ?_)
 first|rw[show A.in1.handled=none from hh]|rw[hh]
 exact Ad (Am (wpAny_throw (hE _ _ (((Hs ..).extBut.push _).push _) ⟨_,Ay _ rfl,rfl⟩)))
theorem gS {it l:Af}{k:Ai}{x:Ac}(hit:zJ tp s.heap it l k)(hl:xR tp s.heap l xs)(hx:xs[k]? = Ab x)
  (hQ:∀ h',zJ tp h' it l (k+1)->Ez it s.heap h'->Q x { s with heap:=h' }) : Ap (As prog w) A (Ea (.ref it)) Q E s:=by
 cases tp with
 |false=>exact wpAny_nextOf_list_item hit hl hx hQ
 |true=>exact VO hit hl hx hQ
theorem jB {it l:Af}{k:Ai}{Q:Ac->Ag->Prop}(hh:A.handled=none)(hit:zJ tp s.heap it l k)(hl:xR tp s.heap l xs)(hx:xs[k]? = none)
  (hE:∀ h' e,Heap.ExtBut it s.heap h'->(∃ o,h'.get? e=Ab o/\o.cls=.type "StopIteration")->E (.ref e) { s with heap:=h' }) : Ap (As prog w) A (Ea (.ref it)) Q E s:=by
 cases tp with
 |false=>exact wpAny_nextOf_list_end hh hit hl hx hE
 |true=>exact rT hh hit hl hx hE
structure ZA (z I O i j:Af):Prop where
 Iz:I≠z
 Oz:O≠z
 iz:i≠z
 jz:j≠z
 IO:I≠O
 Ii:I≠i
 Ij:I≠j
 Oi:O≠i
 Oj:O≠j
 ij:i≠j
structure Off (z O i j a:Af):Prop where
 z:a≠z
 O:a≠O
 i:a≠i
 j:a≠j
abbrev WK (z O i j:Af)(h h':Bw):Prop:=∀ c o,c≠z->c≠O->c≠i->c≠j->h.get? c=Ab o->h'.get? c=Ab o
theorem J6 {tq:Ar}{z I O i j a b:Af}{k:Ai}{x y p q:Ac}(D:ZA z I O i j)(Da:Off z O i j a)(Db:Off z O i j b)
  (hz:Qj s.heap z I O .none) (hI:Jj s.heap I (.ref i) (.ref j)) (hO:Jj s.heap O p q) (h1:zJ tp s.heap i a k) (h2:zJ tq s.heap j b k) (ha:xR tp s.heap a xs) (hb:xR tq s.heap b ys) (hx:xs[k]? = Ab x) (hy:ys[k]? = Ab y)
  (hQ:∀ h',Qj h' z I O (Ol s.heap.objs.size)->Jj h' O x y->zJ tp h' i a (k+1)->zJ tq h' j b (k+1)->Jj h' s.heap.objs.size x y->h'.objs.size=s.heap.objs.size+1->WK z O i j s.heap h'->Q (.ref s.heap.objs.size) { s with heap:=h' }) :
  Ap (As prog w) A (Ih.«zip.__next__» ⟨[.ref z],[]⟩) (λfin s'=>∃ v,fin=.done (.ret v)/\Q v s') E s:=by
 show Ap _ _ (field (.ref z) 2 >>= _) _ _ _;refine Ad (El hz rfl (x:=.bool false) rfl ?_);show Ap _ _ (field (.ref z) 3 >>= _) _ _ _;refine Ad (El hz rfl (x:=.ref I) rfl (Ad (Fe hI rfl ?_)));show Ap _ _ (Er (.ref z) >>= _) _ _ _;refine Ad ?_;unfold Er;refine Ad (El hz rfl (x:=.none) rfl (Am ?_));simp only[Ds];refine Ad (Go (Ad (El hz rfl (x:=.ref O) rfl (Ad (EQ hz (by simp) λg1 z1 s1=>?_)))))
 replace z1:Qj g1 z I O .ellipsis:=z1
 refine Ad ?_;simp only[Ta,sB,Mt,Nq];refine Ad (Ad (Rx ?_));show Ap _ _ (Ea (.ref i) >>= _) _ _ _;refine Ad (gS (h1.keep λo e=>s1.extBut _ _ D.iz e) (ha.keep λo e=>s1.extBut _ _ Da.z e) hx λg2 i2 s2=>Am ?_);have O2:Jj g2 O p q:=s2.extBut _ _ D.Oi (s1.extBut _ _ D.Oz hO);refine Ad (Fe O2 rfl (Ad (Pe O2 λg3 O3 s3=>Ad (Lr (Am ?_)))))
 replace O3:Jj g3 O x q:=O3
 refine Ad (Ad (Rx ?_));show Ap _ _ (Ea (.ref j) >>= _) _ _ _;refine Ad (gS (h2.keep λo e=>s3.extBut _ _ D.Oj.symm (s2.extBut _ _ D.ij.symm (s1.extBut _ _ D.jz e))) (hb.keep λo e=>s3.extBut _ _ Db.O (s2.extBut _ _ Db.i (s1.extBut _ _ Db.z e))) hy λg4 j4 s4=>Am ?_);have O4:Jj g4 O x q:=s4.extBut _ _ D.Oj O3;refine Ad (Fe O4 rfl (Ad (Pe O4 λg5 O5 s5=>Ad (Lr (Am (Am ?_))))))
 replace O5:Jj g5 O x y:=O5
 refine Ad (Fe O5 rfl (Ad (Vk ?_)));have sz:g5.objs.size=s.heap.objs.size:=by rw[s5.1,s4.1,s3.1,s2.1,s1.1]
 have z5:Qj g5 z I O .ellipsis:=s5.extBut _ _ D.Oz.symm (s4.extBut _ _ D.jz.symm (s3.extBut _ _ D.Oz.symm (s2.extBut _ _ D.iz.symm z1)));have k5:WK z O i j s.heap g5:=λc o c1 c2 c3 c4 e=>s5.extBut _ _ c2 (s4.extBut _ _ c4 (s3.extBut _ _ c2 (s2.extBut _ _ c3 (s1.extBut _ _ c1 e))));have i5:zJ tp g5 i a (k+1):=i2.keep λo e=>s5.extBut _ _ D.Oi.symm (s4.extBut _ _ D.ij (s3.extBut _ _ D.Oi.symm e));have j5:zJ tq g5 j b (k+1):=j4.keep λo e=>s5.extBut _ _ D.Oj.symm e;have zl:z<g5.objs.size:=Ba z5;show Ap _ _ (Gx (.ref z) (.ref g5.objs.size) >>= _) _ _ _;refine Ad ?_;unfold Gx;have z6:Qj (g5.push { cls:=.type "tuple",data:=.seq #[x,y] }) z I O .ellipsis:=Ah _ z5;refine Ad (EQ z6 (by simp) λg7 z7 s7=>?_)
 replace z7:Qj g7 z I O (Ol g5.objs.size):=z7
 refine EQ z7 (by simp) λg8 z8 s8=>?_
 replace z8:Qj g8 z I O (Ol g5.objs.size):=z8
 have up:∀ c o,c≠z->g5.get? c=Ab o->g8.get? c=Ab o:=λc o c1 e=>s8.extBut _ _ c1 (s7.extBut _ _ c1 (Ah _ e));have T8:Jj g8 g5.objs.size x y:=s8.extBut _ _ (Gf zl) (s7.extBut _ _ (Gf zl) (Ay _ rfl));have sz8:g8.objs.size=g5.objs.size+1:=by rw[s8.1,s7.1,Dt]
 rw[sz] at z8 T8 sz8;refine Am ⟨_,rfl,?_⟩;show Q (.ref g5.objs.size) _;rw[sz];exact hQ g8 z8 (up _ _ D.Oz O5) (i5.keep λo e=>up _ o D.iz e) (j5.keep λo e=>up _ o D.jz e) T8 sz8 λc o c1 c2 c3 c4 e=>up c o c1 (k5 c o c1 c2 c3 c4 e)
end
section
variable {prog:Bg}{w:Ca}{A:Bt}{E:Ac->Ag->Prop}{s:Ag}
theorem J7 {tq:Ar}{z I O i j a b:Af}{k:Ai}{p q:Ac}{Q:Fin->Ag->Prop}(hh:A.handled=none)(D:ZA z I O i j)(Da:Off z O i j a)(Db:Off z O i j b)
  (hz:Qj s.heap z I O .none) (hI:Jj s.heap I (.ref i) (.ref j)) (hO:Jj s.heap O p q) (h1:zJ tp s.heap i a k) (h2:zJ tq s.heap j b k) (ha:xR tp s.heap a xs) (hb:xR tq s.heap b ys) (hend:xs[k]? = none\/ys[k]? = none)
  (hE:∀ h' e,WK z O i j s.heap h'->(∃ o,h'.get? e=Ab o/\o.cls=.type "StopIteration")->E (.ref e) { s with heap:=h' }) : Ap (As prog w) A (Ih.«zip.__next__» ⟨[.ref z],[]⟩) Q E s:=by
 show Ap _ _ (field (.ref z) 2 >>= _) _ _ _;refine Ad (El hz rfl (x:=.bool false) rfl ?_);show Ap _ _ (field (.ref z) 3 >>= _) _ _ _;refine Ad (El hz rfl (x:=.ref I) rfl (Ad (Fe hI rfl ?_)));show Ap _ _ (Er (.ref z) >>= _) _ _ _;refine Ad ?_;unfold Er;refine Ad (El hz rfl (x:=.none) rfl (Am ?_));simp only[Ds];refine Ad (Go (Ad (El hz rfl (x:=.ref O) rfl (Ad (EQ hz (by simp) λg1 z1 s1=>?_)))))
 replace z1:Qj g1 z I O .ellipsis:=z1
 refine Ad ?_;simp only[Ta,sB,Mt,Nq];refine Ad (Ad (Rx ?_));show Ap _ _ (Ea (.ref i) >>= _) _ _ _;have it1:zJ tp g1 i a k:=h1.keep λo e=>s1.extBut _ _ D.iz e;have sq1:xR tp g1 a xs:=ha.keep λo e=>s1.extBut _ _ Da.z e;cases hx:xs[k]? with
 |none =>
  refine Ad (jB hh it1 sq1 hx λg2 e x2 he=>?_);obtain⟨oe,h3,h4⟩:=he;have z2:Qj g2 z I O .ellipsis:=x2 _ _ D.iz.symm z1;have ne:e≠z:=λy=>by subst y;rw[z2] at h3;cases h3;simp at h4
  exact EQ z2 (by simp) λg3 _ s3=>hE g3 e (λc o c1 _ c3 _ y=>s3.extBut _ _ c1 (x2 _ _ c3 (s1.extBut _ _ c1 y))) ⟨oe,s3.extBut _ _ ne h3,h4⟩
 |some x =>
  have hy:ys[k]? = none:=by
   rcases hend with y|y
   .rw[hx] at y;cases y
   .exact y
  refine Ad (gS it1 sq1 hx λg2 i2 s2=>Am ?_);have O2:Jj g2 O p q:=s2.extBut _ _ D.Oi (s1.extBut _ _ D.Oz hO);refine Ad (Fe O2 rfl (Ad (Pe O2 λg3 O3 s3=>Ad (Lr (Am ?_)))));refine Ad (Ad (Rx ?_));show Ap _ _ (Ea (.ref j) >>= _) _ _ _;refine Ad (jB hh (h2.keep λo e=>s3.extBut _ _ D.Oj.symm (s2.extBut _ _ D.ij.symm (s1.extBut _ _ D.jz e))) (hb.keep λo e=>s3.extBut _ _ Db.O (s2.extBut _ _ Db.i (s1.extBut _ _ Db.z e))) hy λg4 e x4 he=>?_);obtain⟨oe,h3,h4⟩:=he;have z4:Qj g4 z I O .ellipsis:=x4 _ _ D.jz.symm (s3.extBut _ _ D.Oz.symm (s2.extBut _ _ D.iz.symm z1));have ne:e≠z:=λy=>by subst y;rw[z4] at h3;cases h3;simp at h4
  exact EQ z4 (by simp) λg5 _ s5=>hE g5 e (λc o c1 c2 c3 c4 y=>s5.extBut _ _ c1 (x4 _ _ c4 (s3.extBut _ _ c2 (s2.extBut _ _ c3 (s1.extBut _ _ c1 y))))) ⟨oe,s5.extBut _ _ ne h3,h4⟩
noncomputable abbrev vK (tp:Ar)(l:Af):Cu:={ cls:=.type (if tp then "tuple_iterator" else "list_iterator"),data:=.fields #[.ref l,.int 0 0] }
noncomputable abbrev zh1 (tp:Ar)(h:Bw)(a:Af):Bw:=h.push (vK tp a)
noncomputable abbrev zh2 (tp tq:Ar)(h:Bw)(a b:Af):Bw:=(zh1 tp h a).push (vK tq b)
noncomputable abbrev zh3 (tp tq:Ar)(h:Bw)(a b:Af):Bw:=(zh2 tp tq h a b).push { cls:=.type "tuple",data:=.seq #[.ref h.objs.size,.ref (zh1 tp h a).objs.size] }
noncomputable abbrev zh4 (tp tq:Ar)(h:Bw)(a b:Af):Bw:=(zh3 tp tq h a b).push { cls:=.type "tuple",data:=.seq #[.none,.none] }
noncomputable abbrev zh5 (tp tq:Ar)(h:Bw)(a b:Af):Bw:=(zh4 tp tq h a b).push { cls:=.type "zip",data:=.fields #[.none,.bool false,.bool false,.ref (zh2 tp tq h a b).objs.size,.ref (zh3 tp tq h a b).objs.size] }
set_option maxHeartbeats 4000000 in
theorem FV (tp:Ar)(a b:Af)(xs ys:Ax Ac) :
  Meets (Ih.«zip.__new__» ⟨[.type "zip",.ref a,.ref b],[]⟩) (λ_ R s=>xR tp s.heap a xs/\xR tp s.heap b ys/\R (.ok (.ret (.ref (zh4 tp tp s.heap a b).objs.size))) { s with heap:=zh5 tp tp s.heap a b }):=
 .of_wp λprog w A R s h=>by
  obtain⟨hp,g,d,tk,os⟩:=s;obtain⟨q1,q2,h⟩:=h;have hsub:=sub_zip;have e2:∀ ob:Cu,xR tp (hp.push ob) b ys:=λob=>q2.keep λo e=>Ah _ e;cases tp
  .have l1:Zm (Oq ⟨hp,g,d,tk,os⟩) a xs:=q1
   have l2:Zm (Oq ⟨hp.push { cls:=.type "list_iterator",data:=.fields #[.ref a,.int 0 0] },g,d,tk,os⟩) b ys:=e2 _
   wp_walk using Fz l1,Fz l2
   exact⟨_,rfl,h⟩
  .have l1:Xz (Oq ⟨hp,g,d,tk,os⟩) a xs:=q1
   have l2:Xz (Oq ⟨hp.push { cls:=.type "tuple_iterator",data:=.fields #[.ref a,.int 0 0] },g,d,tk,os⟩) b ys:=e2 _
   wp_walk using Ha l1,Ha l2
   exact⟨_,rfl,h⟩
theorem gM {h:Bw}{it l:Af}(e:h.get? it=Ab (vK tp l)):zJ tp h it l 0:=by
 cases tp
 .exact⟨_,e,rfl,rfl⟩
 .exact⟨_,e,rfl,rfl⟩
theorem WV {a b:Af}(ha:xR tp s.heap a xs)(hb:xR tp s.heap b ys)
  (h:∀ h',Qj h' (s.heap.objs.size+4) (s.heap.objs.size+2) (s.heap.objs.size+3) .none->Jj h' (s.heap.objs.size+2) (.ref s.heap.objs.size) (.ref (s.heap.objs.size+1)) ->
   Jj h' (s.heap.objs.size+3) .none .none->zJ tp h' s.heap.objs.size a 0->zJ tp h' (s.heap.objs.size+1) b 0->h'.objs.size=s.heap.objs.size+5->(∀ c o,s.heap.get? c=Ab o->h'.get? c=Ab o)->Q (.ref (s.heap.objs.size+4)) { s with heap:=h' }) :
  Ap (As prog w) A (call (.type "zip") [.ref a,.ref b]) Q E s:=by
 refine callType_new F.called_zip (by decide) (F.typeCall_zip_2 _ _) (F.newCall_zip_2 _ _) (λobj=>F.args_object_init_3 obj _ _) F.entry_zip_new (FV tp a b xs ys) ⟨ha,hb,?_⟩
 have y1:(zh1 tp s.heap a).objs.size=s.heap.objs.size+1:=Dt ..;have y2:(zh2 tp tp s.heap a b).objs.size=s.heap.objs.size+2:=by rw[Dt,y1]
 have y3:(zh3 tp tp s.heap a b).objs.size=s.heap.objs.size+3:=by rw[Dt,y2]
 have y4:(zh4 tp tp s.heap a b).objs.size=s.heap.objs.size+4:=by rw[Dt,y3]
 have y5:(zh5 tp tp s.heap a b).objs.size=s.heap.objs.size+5:=by rw[Dt,y4]
 have g5:(zh5 tp tp s.heap a b).get? (zh4 tp tp s.heap a b).objs.size=Ab _:=Ay _ rfl;have g4:(zh5 tp tp s.heap a b).get? (zh3 tp tp s.heap a b).objs.size=Ab _:=Ah _ (Ay _ rfl);have g3:(zh5 tp tp s.heap a b).get? (zh2 tp tp s.heap a b).objs.size=Ab _:=Ah _ (Ah _ (Ay _ rfl));have g2:(zh5 tp tp s.heap a b).get? (zh1 tp s.heap a).objs.size=Ab (vK tp b):=Ah _ (Ah _ (Ah _ (Ay _ rfl)));have g1:(zh5 tp tp s.heap a b).get? s.heap.objs.size=Ab (vK tp a):=Ah _ (Ah _ (Ah _ (Ah _ (Ay _ rfl))));have kp:∀ c o,s.heap.get? c=Ab o->(zh5 tp tp s.heap a b).get? c=Ab o:=λc o e=>Ah _ (Ah _ (Ah _ (Ah _ (Ah _ e))));show _/\_;rw[y2,y3,y4] at g5;rw[y1,y2] at g3;rw[y3] at g4;rw[y1] at g2;rw[y4];exact⟨⟨_,g5,rfl⟩,h _ g5 g3 g4 (gM g1) (gM g2) y5 kp⟩
end
def Sq (tp:Ar)(K:Aj)(H:Hp)(a:Af)(xs:Aa V):Prop:=if tp then SqT K H a xs else SqL K H a xs
section
variable {X:Cx}{pins:Aa (Af × Cu)}{σ : _L.St}{H:Hp}{s:Ag}
theorem Sq.at {a:Af}{xs:Aa V}(I:Inv X pins σ H s)(q:Sq tp X.K H a xs):∃ its,qJ xs its/\xR tp s.heap a its.toArray:=by
 cases tp with
 |true =>
  obtain⟨its,rv,p,_⟩:=I.tuple q;exact⟨its,rv,p⟩
 |false =>
  obtain⟨its,rv,p,_⟩:=I.list q;exact⟨its,rv,p.isList⟩
theorem Sq.inj {a:Af}{xs ys:Aa V}(I:Inv X pins σ H s)(q:Sq tp X.K H a xs)(q':Sq tp X.K H a ys):xs=ys:=by
 cases tp with
 |true=>exact I.tuple_inj q q'
 |false=>exact I.list_inj q q'
theorem Sq.off {a b:Af}{xs:Aa V}(I:Inv X pins σ H s)(q:Sq tp X.K H a xs)(f:xC X pins H b):a≠b:=by
 have key:H a≠none\/∃ o,X.K.lookup a=Ab o:=by
  cases tp with
  |true =>
   rcases q with (q|⟨o,q⟩)|⟨o,_,_,q,_⟩
   .exact .inl (by rw[q];intro z;cases z)
   .exact .inl (by rw[q];intro z;cases z)
   .exact .inr ⟨_,q⟩
  |false =>
   rcases q with (q|⟨o,q⟩)|⟨o,_,_,q,_⟩
   .exact .inl (by rw[q];intro z;cases z)
   .exact .inl (by rw[q];intro z;cases z)
   .exact .inr ⟨_,q⟩
 rintro rfl;rcases key with k|⟨o,k⟩
 .exact k f.1
 .have e:=I.mod.kin a o k
  rcases f.2.2.2.1 with z|z
  .exact I.ok.noex a o e z
  .exact absurd (Ba (I.ok.bs a o e).1) (Lo.mpr z)
theorem Inv.turnLay {fp:Aa Af}{T:Af}{xs:Aa V}{its:Aa Ac}(I:Inv X pins σ H s)(hf:∀ b∈fp,xC X pins H b)(k:∀ b o,b ∉ fp->s.heap.get? b=Ab o->h'.get? b=Ab o)(th:∀ b∈fp,∃ o,h'.get? b=Ab o)
  (hT:s.heap.objs.size<=T) (rv:qJ xs its) (hx:Of h' T its.toArray) (hz:xs.length<=sizeLine):Inv X pins σ (upd H T (.tup xs)) { s with heap:=h' }:=by
 have hn:H T=none:=I.hok.fresh hT;have ne:∀ b o,s.heap.get? b=Ab o->b≠T:=λb o e=>Cw (Bh (Ba e) hT);refine I.step (g':=s.gens) (d':=s.drawn) (t':=s.toks) (ch:=fp) (λb hb=>⟨(hf b hb).2.2.2.1,(hf b hb).2.1,(hf b hb).2.2.2.2.1,(hf b hb).2.2.2.2.2⟩) (λb o _ _ hc e _=>k b o hc e) (λb o _ _ hc e _=>⟨o.slots,k b o hc e⟩)
  (λb o _ e n=>by rw[qP (ne b o e)];exact n) (λb o hc e=>⟨o,k b o hc e⟩) (λb ys e=>by rw[qP (zF e hn)];exact e) (λb o u e=>by rw[qP (zF e hn)];exact e)
  (λb ps e=>⟨#[],by rw[qP (zF e hn),e];simp⟩) (λm hm=>?_) (λb u e=>?_) I.bare
 .obtain⟨o,es,ep,ho,r⟩:=hm
  exact⟨o,es,ep,k _ o (λz=>(hf _ z).2.1 rfl) ho,r⟩
 .by_cases hb:b=T
  .subst hb
   rw[zD] at e;cases e;exact⟨hz,its,rv,hx⟩
  .rw[qP hb] at e
   refine(I.hok b u e).stay (λc v hc q=>k c v (λz=>?_) q) (λc q=>by rw[qP (zF q hn)];exact q) λc ys q=>by rw[qP (zF q hn)];exact q
   have hcn:=(hf c z).1;rcases hc with rfl|hc
   .rw[hcn] at e;cases e
   .rw[hcn] at hc;cases hc
theorem Inv.turnL {fp:Aa Af}(I:Inv X pins σ H s)(hf:∀ b∈fp,xC X pins H b)(k:∀ b o,b ∉ fp->s.heap.get? b=Ab o->h'.get? b=Ab o):Inv X pins σ H { s with heap:=h' }:=by
 refine I.step (g':=s.gens) (d':=s.drawn) (t':=s.toks) (ch:=fp) (λb hb=>⟨(hf b hb).2.2.2.1,(hf b hb).2.1,(hf b hb).2.2.2.2.1,(hf b hb).2.2.2.2.2⟩) (λb o _ _ hc e _=>k b o hc e) (λb o _ _ hc e _=>⟨o.slots,k b o hc e⟩)
  (λb o _ e n=>n) (λb o hc e=>⟨o,k b o hc e⟩) (λb ys e=>e) (λb o u e=>e) (λb ps e=>⟨#[],by rw[e];simp⟩) (λm hm=>?_) (λb u e=>?_) I.bare
 .obtain⟨o,es,ep,ho,r⟩:=hm
  exact⟨o,es,ep,k _ o (λz=>(hf _ z).2.1 rfl) ho,r⟩
 .refine(I.hok b u e).stay (λc v hc q=>k c v (λz=>?_) q) (λc q=>q) λc ys q=>q
  have hcn:=(hf c z).1;rcases hc with rfl|hc
  .rw[hcn] at e;cases e
  .rw[hcn] at hc;cases hc
end
noncomputable def Itz (tp:Ar)(K:Aj)(a b:Af):It:=
  ⟨λi H=>∃ xs ys x y,Sq tp K H a xs/\Sq tp K H b ys/\xs[i]? = Ab x/\ys[i]? = Ab y,
   λi H v H'=>∃ T x y,v=.ref T/\H T=none/\H'=upd H T (.tup [x,y])/\(∀ xs,Sq tp K H a xs->xs[i]? = Ab x)/\∀ ys,Sq tp K H b ys->ys[i]? = Ab y,
   λi H=>∃ xs ys,Sq tp K H a xs/\Sq tp K H b ys/\(xs.length<=i\/ys.length<=i)⟩
def iF (tp:Ar)(z I O i j a b:Af)(k:Ai)(h:Bw):Prop:=∃ p q,Qj h z I O .none/\Jj h I (.ref i) (.ref j)/\Jj h O p q/\zJ tp h i a k/\zJ tp h j b k
theorem bB {z I O i j a b:Af}{k:Ai}{h:Bw}(st:iF tp z I O i j a b k h):∀ c∈[z,I,O,i,j],∃ o,h.get? c=Ab o/\∀ v,o.data≠.cell v:=λc hc=>by
 obtain⟨p,q,s1,s2,s3,s4,s5⟩:=st;simp only[Az,Dm,Hd] at hc;rcases hc with rfl|rfl|rfl|rfl|rfl
 .exact⟨_,s1,λv y=>by cases y⟩
 .exact⟨_,s2,λv y=>by cases y⟩
 .exact⟨_,s3,λv y=>by cases y⟩
 .exact s4.there
 .exact s5.there
theorem JR {c z I O i j:Af}(h:c ∉ [z,I,O,i,j]):c≠z/\c≠O/\c≠i/\c≠j:=by
 simp only[Az,Dm,Hd,Uy] at h;exact⟨h.1,h.2.2.1,h.2.2.2.1,h.2.2.2.2⟩
theorem UW {P:Bg}{w:Ca}{K:Aj}{elts:Aa By}{x1:Ai}{tpos:Fc}{z I O i j a b:Af}(D:ZA z I O i j):Turn P w K (.Tuple elts x1 tpos) (Itz tp K a b) [z,I,O,i,j] z (iF tp z I O i j a b) where
 mem:=.head _
 obj:=λk h st=>bB st
 keep:=λk h h' st kp=>by
  obtain⟨p,q,s1,s2,s3,s4,s5⟩:=st;exact⟨p,q,kp z (.head _) _ s1,kp I (.tail _ (.head _)) _ s2,kp O (.tail _ (.tail _ (.head _))) _ s3,s4.keep λo e=>kp i (.tail _ (.tail _ (.tail _ (.head _)))) o e,s5.keep λo e=>kp j (.tail _ (.tail _ (.tail _ (.tail _ (.head _))))) o e⟩
 item:=by
  intro X hP hw hK hc k pins s σ H E Iv hf st hg;subst hP hw hK;obtain⟨p,q,s1,s2,s3,s4,s5⟩:=st;obtain⟨xs,ys,x,y,qa,qb,hx,hy⟩:=hg;obtain⟨ia,ra,ha⟩:=qa.at Iv;obtain⟨ib,rb,hb⟩:=qb.at Iv;obtain⟨u,hu,ru⟩:=ra.get hx;obtain⟨u',hu',ru'⟩:=rb.get hy;have off:∀ {c:Af} {zs:Aa V},Sq tp X.K H c zs->Off z O i j c:=λ{c zs} qc=>⟨qc.off Iv (hf z (.head _)),qc.off Iv (hf O (.tail _ (.tail _ (.head _)))),qc.off Iv (hf i (.tail _ (.tail _ (.tail _ (.head _))))),qc.off Iv (hf j (.tail _ (.tail _ (.tail _ (.tail _ (.head _))))))⟩;have hT:s.TypeIs (.ref z) "zip":=⟨_,s1,rfl⟩;unfold No;refine Ad (Ld (Eg (name:=Gg "__next__") hT Pm (Em Pm hT Zn
   (J6 D (off qa) (off qb) s1 s2 s3 s4 s5 ha hb (by simpa using hu) (by simpa using hu') λh' a1 a2 a3 a4 a5 a6 a7=>Am ?_) (Yr _))))
  refine⟨_,rfl,wpAny_letOwnedTupleGo_zip (s:={ s with heap:=h' }) a1 λh2 b1 b2=>?_⟩
  have up:∀ c o,c≠z->h'.get? c=Ab o->h2.get? c=Ab o:=λc o n e=>(b2.2 c n).trans e;have zl:z<s.heap.objs.size:=Ba s1;have T2:Jj h2 s.heap.objs.size u u':=up _ _ (Gf zl) a5;have st2:iF tp z I O i j a b (k+1) h2:=⟨u,u',b1,up _ _ D.Iz (a7 I _ D.Iz D.IO D.Ii D.Ij s2),up _ _ D.Oz a2,a3.keep λo e=>up _ o D.iz e,a4.keep λo e=>up _ o D.jz e⟩;refine⟨.ref s.heap.objs.size,upd H s.heap.objs.size (.tup [x,y]),?_,rfl,⟨_,x,y,rfl,Iv.hok.fresh (Av _),rfl,λzs qz=>by rw[qz.inj Iv qa];exact hx,λzs qz=>by rw[qz.inj Iv qb];exact hy⟩,st2,λc hc=>?_⟩
  .show _L.Inv X pins σ (upd H s.heap.objs.size (.tup [x,y])) { s with heap:=h2 }
   refine Inv.turnLay (fp:=[z,I,O,i,j]) (its:=[u,u']) Iv hf (λc o hc e=>?_) (λc hc=>?_) (Av _) (.cons ru (.cons ru' .nil)) ⟨_,T2,rfl,_,rfl⟩ (by show 2<=sizeLine;decide)
   .have hc:=JR hc
    exact up c o hc.1 (a7 c o hc.1 hc.2.1 hc.2.2.1 hc.2.2.2 e)
   .obtain⟨o,e,_⟩:=bB st2 c hc
    exact⟨o,e⟩
  .have hn:=(hf c hc).1
   rw[qP ?_]
   .exact hn
   .rintro rfl
    obtain⟨o,e,_⟩:=bB ⟨p,q,s1,s2,s3,s4,s5⟩ _ hc;exact absurd (Ba e) (Ei _)
 done:=by
  intro X hP hw hK hc k pins s σ H E Iv hf st hg;subst hP hw hK;obtain⟨p,q,s1,s2,s3,s4,s5⟩:=st;obtain⟨xs,ys,qa,qb,hend⟩:=hg;obtain⟨ia,ra,ha⟩:=qa.at Iv;obtain⟨ib,rb,hb⟩:=qb.at Iv;have off:∀ {c:Af} {zs:Aa V},Sq tp X.K H c zs->Off z O i j c:=λ{c zs} qc=>⟨qc.off Iv (hf z (.head _)),qc.off Iv (hf O (.tail _ (.tail _ (.head _)))),qc.off Iv (hf i (.tail _ (.tail _ (.tail _ (.head _))))),qc.off Iv (hf j (.tail _ (.tail _ (.tail _ (.tail _ (.head _))))))⟩;have hT:s.TypeIs (.ref z) "zip":=⟨_,s1,rfl⟩;have l1:=ra.length;have l2:=rb.length;unfold No;refine Ad (Ld (Eg (name:=Gg "__next__") hT Pm (Em Pm hT Zn
   (J7 (Iv.ok.hd hc) D (off qa) (off qb) s1 s2 s3 s4 s5 ha hb ?_ λh' e kp he=>?_) (Yr _))))
  .rcases hend with y|y
   .exact .inl (by simp;lia)
   .exact .inr (by simp;lia)
  .obtain⟨o,ho,hcl⟩:=he
   refine Ad (Os (T:="StopIteration") (b:=true) ⟨o,ho,hcl⟩ Vl (Am ⟨rfl,Inv.turnL (fp:=[z,I,O,i,j]) Iv hf λc o hc e=>?_⟩));have hc:=JR hc;exact kp c o hc.1 hc.2.1 hc.2.2.1 hc.2.2.2 e
 self:=λ_ _ _ _ _ st h=>by
  obtain⟨p,q,s1,_⟩:=st;exact Zo s1 h
noncomputable def vI (xs ys:Aa D):Aa D:=List.zipWith (λx y=>D.tup [x,y]) xs ys
noncomputable def RE (ds:Aa D):Al (Aa D):=match ds with
 |[.tup xs,.tup ys]=>Ab (vI xs ys)
 |[.lst xs,.lst ys]=>Ab (vI xs ys)
 |_=>none
noncomputable def iN (f:DA):DI:=λenv S=>(f env S).bind λds S1=>yO (RE ds) S1
theorem J3 {xs ys:Aa D}{i:Ai}:(vI xs ys)[i]? = match xs[i]?,ys[i]? with|some x,Ab y=>Ab (D.tup [x,y])|_,_=>none:=by
 unfold vI;rw[List.getElem?_zipWith];cases xs[i]? <;> cases ys[i]? <;> rfl
theorem mB (xs ys:Aa D):(vI xs ys).length=min xs.length ys.length:=by simp[vI]
section
variable {K:Aj}
theorem Sq.mono {P P':Hp}(e:qF P P'){a:Af}{xs:Aa V}(q:Sq tp K P a xs):Sq tp K P' a xs:=by
 cases tp with
 |true=>exact vF e q
 |false=>exact e.seq q
theorem GU {P:Hp}{a b:Af}{xs ys:Aa D}{ws:Aa V}(qa:Sq tp K P a vs)(qb:Sq tp K P b ws)(ta:qC K P α xs vs)(tb:qC K P α ys ws):ItD K (Itz tp K a b) P α (vI xs ys) where
 go:=λi H P1 α1 S hi r e _=>by
  rw[mB] at hi;have h1:i<vs.length:=by rw[<- ta.length];lia
  have h2:i<ws.length:=by rw[<- tb.length];lia
  exact⟨vs,ws,vs[i],ws[i],qa.mono (e.trans r.sub),qb.mono (e.trans r.sub),by simp,by simp⟩
 yld:=λi H x H' P1 α1 S hi r e e2 y=>by
  obtain⟨T,u,w,rfl,hT,rfl,hu,hw⟩:=y;rw[mB] at hi;have h1:i<xs.length:=by lia
  have h2:i<ys.length:=by lia
  obtain⟨v1,z1,p1⟩:=ta.get (Ao h1);obtain⟨v2,z2,p2⟩:=tb.get (Ao h2);have eu:=hu vs (qa.mono (e.trans r.sub));have ew:=hw ws (qb.mono (e.trans r.sub));rw[z1] at eu;cases eu;rw[z2] at ew;cases ew;obtain⟨r1,s1⟩:=r.pure (o:=.tup [u,w]) hT;refine⟨_,.tup [xs[i],ys[i]],?_,r1,s1,?_⟩
  .rw[J3,Ao h1,Ao h2]
  .exact bU (.of zD) (.cons (Rep.mono (e.trans s1) e2 _ _ p1) (.cons (Rep.mono (e.trans s1) e2 _ _ p2) .nil))
 stop:=λi H P1 α1 S hi r e _=>by
  rw[mB] at hi;have l1:=ta.length;have l2:=tb.length;exact⟨vs,ws,qa.mono (e.trans r.sub),qb.mono (e.trans r.sub),by lia⟩
end
section
variable {X:Cx}{e1 e2:By}{elts:Aa By}{x1:Ai}{tpos:Fc}{f:DA}{p pos:Fc}
theorem WG {pins:Aa (Af × Cu)}{σ:_L.St}{H P:Hp}{s:Ag}{a b:Af}{xs ys:Aa D}{ws:Aa V}(I:Inv X pins σ H s)(r:Rel X.K H P α S)(qa:Sq tp X.K P a vs)(qb:Sq tp X.K P b ws)(ta:qC X.K P α xs vs)(tb:qC X.K P α ys ws)
  (q:OkI X P α R (vI xs ys) S):Ap (As X.prog X.w) X.A (call (.type "zip") [.ref a,.ref b]) (λv s1=>Ap (As X.prog X.w) X.A (Oh v) (PIE X pins σ (.Tuple elts x1 tpos) R) X.xe s1) X.xe s:=by
 obtain⟨ia,ra,ha⟩:=(qa.mono r.sub).at I;obtain⟨ib,rb,hb⟩:=(qb.mono r.sub).at I;refine WV ha hb λh' z1 z2 z3 z4 z5 z6 z7=>?_;refine Zo (s:={ s with heap:=h' }) z1 ?_
 have D:ZA (s.heap.objs.size+4) (s.heap.objs.size+2) (s.heap.objs.size+3) s.heap.objs.size (s.heap.objs.size+1):=by constructor <;> (intro z;simp at z)
 refine⟨_,[s.heap.objs.size+4,s.heap.objs.size+2,s.heap.objs.size+3,s.heap.objs.size,s.heap.objs.size+1],_,_,H,rfl,I.kept (t':=s.toks) z7,UW (a:=a) (b:=b) D,⟨_,_,z1,z2,z3,z4,z5⟩,λc hc=>?_,q _ _ P α r (qF.refl _) (Be _) (GU qa qb ta tb)⟩;have hl:s.heap.objs.size<=c:=by
  simp only[Az,Dm,Hd] at hc;rcases hc with rfl|rfl|rfl|rfl|rfl <;> simp
 exact I.fpOk hl (I.hok.fresh hl)
inductive ZipV (ds:Aa D)(its:Aa D):Prop
 |tup (xs ys:Aa D) (ed:ds=[.tup xs,.tup ys]) (e:its=vI xs ys)
 |lst (xs ys:Aa D) (ed:ds=[.lst xs,.lst ys]) (e:its=vI xs ys)
theorem FU (h:RE ds=Ab its):ZipV ds its:=by
 cases ds with
 |nil=>exact nn h
 |cons a ds =>
  cases a with
  |tup xs =>
   cases ds with
   |nil=>exact nn h
   |cons b ds =>
    cases b with
    |tup ys =>
     cases ds with
     |nil=>exact .tup xs ys rfl (Dd h).symm
     |cons _ _=>exact nn h
    |_=>exact nn h
  |lst xs =>
   cases ds with
   |nil=>exact nn h
   |cons b ds =>
    cases b with
    |lst ys =>
     cases ds with
     |nil=>exact .lst xs ys rfl (Dd h).symm
     |cons _ _=>exact nn h
    |_=>exact nn h
  |_=>exact nn h
theorem T9 (hg:Gl X "zip")(hm:X.mg "zip" = none)(ha:PA X [e1,e2] (tDA X f))(hs:Bo [e1,e2] X.env=(false,eval e1 X.env)::Bo [e2] X.env:=by rfl)(hpl:(Gw pos (Bo [e2] X.env)).any (·.1)=false:=by rfl) :
  PI X (.Tuple elts x1 tpos) (.Call (.Name "zip" p) [e1,e2] [] pos) (tDI X (iN f)):=by
 intro pins s σ H R I h;obtain⟨P,α,env,S,r,re,af⟩:=h;refine Call_ (v7 I hg hm boot_zip (Hk (thn (wL ha I r re af pos) λus s1 ⟨vs,H1,P1,α1,ds,S1,I1,rv,r1,re1,rp,e1,e2,af1⟩=>?_) hs hpl));obtain⟨its,hi,q⟩:=vE af1;cases FU hi with
 |tup xs ys ed e =>
  subst ed e;obtain⟨v,w,u,x,rfl,rfl,p1,p2,q1,q2⟩:=sC rp rv;simp only[Rep] at p1 p2;obtain⟨a,va,rfl,qa,ta⟩:=p1;obtain⟨b,vb,rfl,qb,tb⟩:=p2;cases (show u=Dh a from q1)
  cases (show x=Dh b from q2)
  exact WG (tp:=true) I1 r1 qa qb ta tb (q.base e1 e2)
 |lst xs ys ed e =>
  subst ed e;obtain⟨v,w,u,x,rfl,rfl,p1,p2,q1,q2⟩:=sC rp rv;simp only[Rep] at p1 p2;obtain⟨a,va,rfl,qa,ta⟩:=p1;obtain⟨b,vb,rfl,qb,tb⟩:=p2;cases (show u=Dh a from q1)
  cases (show x=Dh b from q2)
  exact WG (tp:=false) I1 r1 qa.l qb.l ta tb (q.base e1 e2)
end
def Src (K:Aj)(mg:Au->Al Ac)(x:Au)(st:Gd)(ps:Aa Au):Prop:=∃ f fd,mg x=Ab (.ref f)/\Fun K x x st f fd/\u7 K fd ps []
def Lk (K:Aj)(f:Af)(fd:Fx):Prop:=∃ oc od osl,K.lookup f=Ab ⟨oc,od,.func fd,osl⟩
theorem mS {K:Aj}{x q:Au}{st:Gd}{f:Af}{fd:Fx}(F:Fun K x q st f fd):Lk K f fd:=by
 obtain⟨oc,od,kV,doc,pm,an,cdv,ct,osl,_,lk,_⟩:=F.ex;exact⟨oc,od,osl,lk⟩
theorem Lk.one {K:Aj}{f:Af}{fd fd':Fx}(h:Lk K f fd)(h':Lk K f fd'):fd=fd':=by
 obtain⟨oc,od,osl,e⟩:=h;obtain⟨oc',od',osl',e'⟩:=h';rw[e] at e';cases e';rfl
noncomputable def Def (P:Bg)(w:Ca)(K:Aj)(mg:Au->Al Ac)(base:Bw)(cm:Ar)(k:Ai)(x:Au)(n:Ai)(F:DF):Prop:=
 ∃ f fd ps,ps.length=n/\mg x=Ab (.ref f)/\Gv K (.ref f)=true/\u7 K fd ps [] /\ Lk K f fd/\FnX P w K mg base cm k f fd ps (spD K n F)
def sH (P:Bg)(w:Ca)(K:Aj)(mg:Au->Al Ac)(base:Bw)(cm:Ar)(k:Ai)(x:Au)(ps:Aa Au)(F:DF):Prop:=
 ∃ f fd,mg x=Ab (.ref f)/\Gv K (.ref f)=true/\u7 K fd ps [] /\ Lk K f fd/\FnX P w K mg base cm k f fd ps (spD K ps.length F)
section
variable {P:Bg}{w:Ca}{K:Aj}{mg:Au->Al Ac}{base:Bw}{cm:Ar}
theorem JB {x:Au}{f:Af}{fd:Fx}{cdv:Ac}(hm:mg x=Ab (.ref f))(lk:Lk K f fd)(h:fd.code=cdv/\Mod K mg base):fH K x cdv:=λc T e=>by
 obtain⟨oc,od,osl,lk⟩:=lk;rw[<- h.1];exact PySem.W.law_code h.2.kin h.2.glob e hm (h.2.kin _ _ lk) rfl
theorem T3 {x:Au}{st:Gd}{ps:Aa Au}{k:Ai}{g:DS}(h:Src K mg x st ps)(S:FnScope N ps (qK st))
  (hbody:∀ (f:Af) (cdv:Ac) (A:Bt) (outer:Aa Kc) (s:Ag) (H:Hp) (E:XK),fH K x cdv->RoomC cm k (A.deeper (Hc x (qK st) s.heap.objs.size f cdv)) ->
   PSs (cxC cm P w K mg base N x (qK st) f cdv A outer s H E) (zU st) (tDS (cxC cm P w K mg base N x (qK st) f cdv A outer s H E) g)):Def P w K mg base cm (k+1) x ps.length (qL N.length g):=by
 obtain⟨f,fd,hm,F,hb⟩:=h;exact⟨f,fd,ps,rfl,hm,F.kp,hb,mS F,fnX F S λcdv A outer s H E hc hr=>hbody f cdv A outer s H E (JB hm (mS F) hc) hr⟩
theorem KN {x:Au}{st:Gd}{ps:Aa Au}{k:Ai}{g:DS}(h:Src K mg x st ps)(S:FnScope N ps (qK st))
  (hbody:∀ (f:Af) (cdv:Ac) (A:Bt) (outer:Aa Kc) (s:Ag) (H:Hp) (E:XK),fH K x cdv->RoomC cm k (A.deeper (Hc x (qK st) s.heap.objs.size f cdv)) ->
   PSs (cxC cm P w K mg base N x (qK st) f cdv A outer s H E) (zU st) (tDS (cxC cm P w K mg base N x (qK st) f cdv A outer s H E) g)):sH P w K mg base cm (k+1) x ps (qL N.length g):=by
 obtain⟨f,fd,hm,F,hb⟩:=h;exact⟨f,fd,hm,F.kp,hb,mS F,fnX F S λcdv A outer s H E hc hr=>hbody f cdv A outer s H E (JB hm (mS F) hc) hr⟩
theorem Def.any {x:Au}{k n:Ai}{F:DF}(h:Def P w K mg base false k x n F):Def P w K mg base cm k x n F:=by
 obtain⟨f,fd,ps,hn,hm,kp,hb,hl,X⟩:=h;exact⟨f,fd,ps,hn,hm,kp,hb,hl,X.any⟩
end
section
variable {X:Cx}{cm:Ar}{k n:Ai}{F:DF}{x:Au}{p pos:Fc}{e:By}{es:Aa By}{fa:DA}
theorem dcN (G:Def X.prog X.w X.K X.mg X.base cm k x n F)(hr:RoomC cm k X.A)(hF:Fn1 X)(hg:Gl X x)(ha:PA X (e::es) (tDA X fa))(hdb:(x == ("__debug__" : Au))=false:=by decide)(he:Bo (e::es) X.env=(false,eval e X.env)::Bo es X.env:=by rfl)(hpl:(Gw pos (Bo es X.env)).any (·.1)=false:=by rfl) :
  PE X (.Call (.Name x p) (e::es) [] pos) (tD X (qE n F fa)):=by
 obtain⟨f,fd,ps,hn,hm,kp,hb,hl,G⟩:=G;exact KG G hr hF hg hm kp hb ha hdb he hpl
end
noncomputable def zT:DF:=λds S=>match ds with
 |[.dct0]=>.bad
 |_=>rD ds S
theorem K9 {X:Cx}:yV X (.builtin "len") zT:=MG trivial
theorem J9:∃ C:An->An->Ar,C=sO:=⟨_,rfl⟩
def J8:An->An->Ar:=Md J9
theorem sQ:J8=sO:=Lp J9
def xV:G2:=i2 J8 λi j=>.int (i*j)
theorem PR {X:Cx}:OpD X (Fm .Mult) xV:=by
 unfold xV;rw[sQ];exact PQ
theorem hu1 {cm:Ar}{k:Ai}{A:Bt}(hr:RoomC cm k A):A.units+1<Du:=by have:=hr.units;lia
noncomputable def okO (F:DF):DF:=λds S=>match F ds S with
 |.ok d S'=>.ok d S'
 |_=>.bad
theorem LI {F:DF}{S':Sto}{d:D}(h:F ds S=.ok d S'):okO F ds S=.ok d S':=by unfold okO;rw[h]
section
variable {X:Cx}{cm:Ar}{k n:Ai}{F:DF}{x:Au}{p pos:Fc}{e:By}{es:Aa By}{fa:DA}{f:Af}{fd:Fx}{ps:Aa Au}
theorem F0 {pins:Aa (Af × Cu)}{σ:_L.St}{H:Hp}{s:Ag}{Q:VK}{us:Aa Ac}{P:Hp}(G:FnX X.prog X.w X.K X.mg X.base cm k f fd ps (spD X.K n F))(hr:RoomC cm k X.A)(hb:u7 X.K fd ps [])
  (I:Inv X pins σ H s) (r:Rel X.K H P α S) (rv:qJ vs us) (rp:qC X.K P α ds vs) (hn:ds.length=n) (af:qV X P α (okO F ds S) Q):Ap (As X.prog X.w) X.A (call (.ref f) us) (EP X pins σ Q) X.xe s:=by
 have hvn:vs.length=n:=by rw[<- rp.length];exact hn
 have hsp:spD X.K n F vs H Q λ_ _ _=>Fv:=by
  refine⟨hvn,P,α,ds,S,r,rp,?_⟩;unfold okO at af;cases q:F ds S with
  |ok d S'=>rw[q] at af;exact af
  |ex c x S'=>rw[q] at af;exact Aq af
  |bad=>rw[q] at af;exact af
 have hl:us.length=ps.length:=by rw[<- rv.length];exact G.len _ _ _ _ hsp
 have hb':=hb s us I.kIn (by rw[Fq];exact hl)
 rw[Fq] at hb';refine Wl (Jm (G.run X.A X.stack s H ⟨us,[]⟩ us vs Q _ hr I.env0 hb' rv hsp) λr s' hq=>?_);cases r with
 |error u =>
  obtain⟨_,_,_,_,_,_,_,_,_,_,_,_,z⟩:=hq;exact Aq z
 |ok fl =>
  cases fl with
  |ret u=>exact I.after hq
  |next=>exact Aq hq
  |brk=>exact Aq hq
  |cont=>exact Aq hq
theorem dcO (G:Def X.prog X.w X.K X.mg X.base cm k x n F)(hr:RoomC cm k X.A)(hg:Gl X x)(ha:PA X (e::es) (tDA X fa))(hdb:(x == ("__debug__" : Au))=false:=by decide)(he:Bo (e::es) X.env=(false,eval e X.env)::Bo es X.env:=by rfl)(hpl:(Gw pos (Bo es X.env)).any (·.1)=false:=by rfl) :
  PE X (.Call (.Name x p) (e::es) [] pos) (tD X (qE n (okO F) fa)):=by
 obtain⟨f,fd,ps,hn0,hm,hk,hb,hl,G⟩:=G;intro pins s σ H Q I h;obtain⟨P,α,env,S,r,re,af⟩:=h;refine Jf (bO I hg hm ?_ hdb);refine Xj (h₀:=X.base) I.ok.mod.kin hk (thn (wL ha I r re af pos) λus s1 ⟨vs,H1,P1,α1,ds,S1,I1,rv,r1,re1,rp,e1,e2,af1⟩=>⟨I1.kIn,?_⟩) he hpl;obtain⟨hn,af2⟩:=lH (env:=env) (S:=S) af1;exact F0 G hr hb I1 r1 rv rp hn (qV.base e1 e2 af2)
end
structure QE (X:Cx)(e:By)(f:DE):Prop where
 get:PE X e (tD X f)
structure QT (X:Cx)(e:By)(t:DT):Prop where
 get:PT X e (tDT X t)
structure QW (X:Cx)(e:By)(t:DT):Prop where
 get:PWD X e t
structure QA (X:Cx)(es:Aa By)(f:DA):Prop where
 get:PA X es (tDA X f)
structure QO (X:Cx)(e:Al By)(f:DO):Prop where
 get:PO X e (tDO X f)
structure QG (X:Cx)(t:By)(g:DG):Prop where
 get:PG X t (tDG X g)
structure QGs (X:Cx)(ts:Aa By)(g:DGs):Prop where
 get:PGs X ts (eK X g)
structure QI (X:Cx)(tg it:By)(f:DI):Prop where
 get:PI X tg it (tDI X f)
structure QS (X:Cx)(s:Gd)(f:DS):Prop where
 get:PS X s (tDS X f)
structure QB (X:Cx)(ss:Aa Gd)(f:DS):Prop where
 get:PSs X ss (tDS X f)
structure QJ (X:Cx)(es:Aa By)(fs:Aa DE):Prop where
 get:PJ X es fs
structure ZOp (X:Cx)(f:Ac->Ac->Ln Ac)(g:G2):Prop where
 get:OpD X f g
structure ZUn (X:Cx)(f:Ac->Ln Ac)(g:D->Sto->Res D):Prop where
 get:UnD X f g
structure ZIx (X:Cx)(g:G2):Prop where
 get:IxD X g
structure ZCall (X:Cx)(f:Ac)(F:DF):Prop where
 get:yV X f F
structure ZMt (X:Cx)(id:Ek)(g:D->Aa D->Sto->Res D):Prop where
 get:MtD X id g
structure ZIp (X:Cx)(op:Oc)(g:G2):Prop where
 get:IpD X op g
structure ZSet (X:Cx)(g:G3):Prop where
 get:sI X (sE X g)
structure ZPass (X:Cx):Prop where
 get:Rk (As X.prog X.w) X.A X.env X.xe
section
variable {X:Cx}{a b c e e1 e2 o i:By}{es rest:Aa By}{fa fb fc fe fo fi:DE}{ta tb:DT}{fA:DA}{f g:DS}{st:Gd}{sts:Aa Gd}{x:Au}{p pos:Fc}{n k:Ai}{cm:Ar}{F:DF}{G2':G2}
theorem DN:QE X (.Constant .none j pos) (dC .non):=⟨MW⟩
theorem HA:QE X (.Constant (.bool v) j pos) (dC (.bl v)):=⟨RN⟩
theorem DH:QE X (.Constant (.int v) j pos) (dC (.int v)):=⟨MT⟩
theorem DR:QE X (.Constant (.str v) j pos) (dC (.str v)):=⟨MZ⟩
theorem DV (m:Ai)(hN:X.N[m]? = Ab x)(hv:Vis X.env.scope x)(hd:(x == ("__debug__" : Au))=false)(hcd:(x == ("__classdict__" : Au))=false):QE X (.Name x pos) (q9 m):=⟨dv m hN hv hd hcd⟩
theorem BE {nm:Ek}(hg:Gl X x)(hm:X.mg x=none)(hv:Ge x=Ab (.type nm))(hn:x ≠ "__name__")(hd:(x == ("__debug__" : Au))=false):QE X (.Name x pos) (dC (.ty nm)):=⟨KF hg hm hv hn hd⟩
theorem BF {v:An}(hg:Gl X x)(hm:∃ t,X.mg x=Ab (.int v t))(hd:(x == ("__debug__" : Au))=false):QE X (.Name x pos) (dC (.int v)):=⟨let ⟨_,h⟩:=hm;KH (v:=.int v) hg h ⟨_,rfl⟩ (λ_ _=>by simp only[Rep]) hd⟩
theorem HD {op:UnaryOp}{h:D->Sto->Res D}(ho:ZUn X (Zf op) h)(ha:QE X a fa):QE X (.UnaryOp op a pos) (d1 h fa):=⟨RS ho.1 ha.1⟩
theorem DP (ha:QE X a fa):QE X (.UnaryOp .Not a pos) (Y3 fa):=⟨MX ha.1⟩
theorem HC {op:Oc}(ho:ZOp X (Fm op) G2')(ha:QE X a fa)(hb:QE X b fb):QE X (.BinOp a op b pos) (d2 G2' fa fb):=⟨RQ ho.1 ha.1 hb.1⟩
theorem DB {op:Ut}(ho:ZOp X (Cc op) G2')(ha:QE X a fa)(hb:QE X b fb)(hm:Mk op b=false:=by first|exact pZ _|with_unfolding_all rfl):QE X (.Compare a [op] [b] pos) (d2 G2' fa fb):=⟨MQ ho.1 ha.1 hb.1 hm⟩
theorem U1 {op op':Ut}{g':G2}(ho:ZOp X (Cc op) G2')(ho':ZOp X (Cc op') g')(ha:QE X a fa)(hb:QE X b fb)(hc:QE X c fc)(hm:Yp [op,op'] [b,c]=false:=by with_unfolding_all rfl):QE X (.Compare a [op,op'] [b,c] pos) (wK G2' g' fa fb fc):=⟨Y5 ho.1 ho'.1 ha.1 hb.1 hc.1 hm⟩
theorem DQ  (h:QE X a fa):QE X (.BoolOp op [a] pos) fa:=⟨MY h.1⟩
theorem D9 (ha:QE X a fa)(hb:QE X (.BoolOp .And (b::rest) pos) fb):QE X (.BoolOp .And (a::b::rest) pos) (vW fa fb):=⟨MP ha.1 hb.1⟩
theorem DU  (h:QA X es fA):QE X (.Tuple es x1 pos) (zP fA):=⟨T1 h.1⟩
theorem DM (h:QA X es fA):QE X (.List es pos) (pQ fA):=⟨MV h.1⟩
theorem BH (h:QA X es fA):QE X (.List es pos) (bI fA):=⟨KL h.1⟩
theorem DC:QE X (.Dict [] [] pos) sZ:=⟨MR⟩
theorem HB (ho:ZIx X G2')(ha:QE X a fa)(hb:QE X b fb)(hs:tI b:=by intro _ _;rfl):QE X (.Subscript a b pos) (d2 G2' fa fb):=⟨RP ho.1 ha.1 hb.1 hs⟩
theorem U3 {lo hi:Al By}{fl fh:DO}{p2:Fc}(he:QE X e fe)(hl:QO X lo fl)(hu:QO X hi fh):QE X (.Subscript e (.Slice lo hi none p2) pos) (dSl fe fl fh):=⟨Y7 he.1 hl.1 hu.1⟩
theorem BP:QO X none xX:=⟨KU⟩
theorem BQ (he:QE X e fe):QO X (Ab e) (xA fe):=⟨KW he.1⟩
theorem DD (he:QE X e fe):QE X (.FormattedValue e (-1) none pos) (d1 tU fe):=⟨MS he.1⟩
theorem SC:QJ X [] []:=⟨D0⟩
theorem BN {fs:Aa DE}(he:QE X e fe)(hr:QJ X es fs):QJ X (e::es) (fe::fs):=⟨B5 he.1 hr.1⟩
theorem BG {fs:Aa DE}(h:QJ X (e1::e2::rest) fs):QE X (.JoinedStr (e1::e2::rest) pos) (iM fs):=⟨KJ h.1⟩
theorem D7:QA X [] qA:=⟨ML⟩
theorem BD (ha:QE X e fa)(hr:QA X es fA)(hs:Bo (e::es) X.env=(false,eval e X.env)::Bo es X.env:=by rfl):QA X (e::es) (q8 fa fA):=⟨KE ha.1 hr.1 hs⟩
theorem qcN (G:Def X.prog X.w X.K X.mg X.base cm k x n F)(hr:RoomC cm k X.A)(hF:Fn1 X)(hg:Gl X x)(ha:QA X (e::es) fA)(hdb:(x == ("__debug__" : Au))=false)(he:Bo (e::es) X.env=(false,eval e X.env)::Bo es X.env:=by rfl)(hpl:(Gw pos (Bo es X.env)).any (·.1)=false:=by rfl):QE X (.Call (.Name x p) (e::es) [] pos) (qE n F fA):=⟨dcN G hr hF hg ha.1 hdb he hpl⟩
theorem U0 {id:Ek}(hc:ZCall X (.builtin id) F)(hg:Gl X x)(hm:X.mg x=none)(hv:Ge x=Ab (.builtin id))(ha:QA X (e::es) fA)(hn:x ≠ "__name__")(hdb:(x == ("__debug__" : Au))=false)(he:Bo (e::es) X.env=(false,eval e X.env)::Bo es X.env:=by rfl)(hpl:(Gw pos (Bo es X.env)).any (·.1)=false:=by rfl):QE X (.Call (.Name x p) (e::es) [] pos) (qR F fA):=⟨Y4 hc.1 hg hm hv ha.1 hn hdb he hpl⟩
theorem XX {T:Ek}(hc:ZCall X (.type T) F)(hg:Gl X x)(hm:X.mg x=none)(hv:Ge x=Ab (.type T))(ha:QA X (e::es) fA)(hn:x ≠ "__name__")(hdb:(x == ("__debug__" : Au))=false)(he:Bo (e::es) X.env=(false,eval e X.env)::Bo es X.env:=by rfl)(hpl:(Gw pos (Bo es X.env)).any (·.1)=false:=by rfl):QE X (.Call (.Name x p) (e::es) [] pos) (qR F fA):=⟨Z3 hc.1 hg hm hv ha.1 hn hdb he hpl⟩
theorem JX {T id:Ek}{name:Au}{apos:Fc}{h:D->Aa D->Sto->Res D}(pa:PlainAttrs T)(slot:Slot T name id)(hty:typeOf (.builtin id)=pure (.type "method_descriptor"))(hT:T = "list" \/ T = "dict" \/ T = "int" \/ T = "str")(hm:ZMt X id h)(ho:QE X o fo)(ha:QA X (e::es) fA)
  (hbase:Mm o name X.env (eval o X.env)=eval o X.env:=by rfl)
  (hfew:((Gw pos (Bo (e::es) X.env)).all (λx=>!x.1)&&(backToKw pos (keywordEach [] X.env)).all (λx=>x.1.isSome)&&decide ((e::es).length+([]:Aa Keyword).length+(if ([] : Aa Keyword).isEmpty then 0 else 1)<30))=true:=by rfl)
  (hline:(apos.endLine == pos.line)=true:=by rfl) (hs:Bo (e::es) X.env=(false,eval e X.env)::Bo es X.env:=by rfl) (hplain:(Gw pos (Bo es X.env)).any (·.1)=false:=by rfl):QE X (.Call (.Attribute o name apos) (e::es) [] pos) (dBm T h fo fA):=⟨RO pa slot hty hT hm.1 ho.1 ha.1 hbase hfew hline hs hplain⟩
theorem HG (h:QW X e ta):QT X e ta:=⟨PWD.pt h.1⟩
theorem aK (ha:QT X a ta):QW X (.BoolOp .And [a] pos) ta:=⟨G9 ha.1⟩
theorem W0 (ha:QT X a ta):QW X (.BoolOp .Or [a] pos) ta:=⟨TX ha.1⟩
theorem XZ (ha:QT X a ta)(hb:QW X (.BoolOp .And (b::rest) pos) tb):QW X (.BoolOp .And (a::b::rest) pos) (wG ta tb):=⟨TV ha.1 hb.1⟩
theorem JY (ha:QT X a ta)(hb:QW X (.BoolOp .Or (b::rest) pos) tb):QW X (.BoolOp .Or (a::b::rest) pos) (vX ta tb):=⟨RX ha.1 hb.1⟩
theorem SM (ha:QT X a ta):QT X (.UnaryOp .Not a pos) (wH ta):=⟨TR ha.1⟩
theorem SL {op:Ut}(ho:ZOp X (Cc op) G2')(ha:QE X a fa)(hb:QE X b fb)(hm:Mk op b=false:=by first|exact pZ _|with_unfolding_all rfl):QT X (.Compare a [op] [b] pos) (dTr (d2 G2' fa fb)):=⟨TQ ho.1 ha.1 hb.1 hm⟩
theorem UA {op op':Ut}{g':G2}(ho:ZOp X (Cc op) G2')(ho':ZOp X (Cc op') g')(ha:QE X a fa)(hb:QE X b fb)(hc:QE X c fc)(hm:Yp [op,op'] [b,c]=false:=by with_unfolding_all rfl):QT X (.Compare a [op,op'] [b,c] pos) (dTr (wK G2' g' fa fb fc)):=⟨YH ho.1 ho'.1 ha.1 hb.1 hc.1 hm⟩
theorem SN (ha:QE X a fa)(he:∀ whole,isTrue a X.env whole=(do let v <- whole;Rv a.pos;holding [v] (truthy v)):=by intro _;rfl):QT X a (dTr fa):=⟨TU ha.1 he⟩
theorem BJ (hN:X.N.Nodup)(hi:X.N[m]? = Ab x)(hx:Loc X.env.scope x)(hf:X.fn x=true\/X.env.scope.names.lookup x=Ab .local):QG X (.Name x pos) (gNm m):=⟨KO hN hi hx hf⟩
theorem BK:QGs X [] xJ:=⟨KP⟩
theorem U4 {h:DG}{gs:DGs}(h1:QG X e h)(h2:QGs X es gs)(hs:(Hb (e::es) X.env).map (·.2)=assign e X.env::(Hb es X.env).map (·.2):=by rfl):QGs X (e::es) (qX h gs):=⟨Y9 h1.1 h2.1 hs⟩
theorem DX {kk:Ai}{gs:DGs}(hc:X.calm=true)(h:QGs X es gs)(hn:(Hb es X.env).length=n:=by rfl)(hst:(Hb es X.env).findIdx? (·.1)=none:=by rfl):QG X (.Tuple es kk pos) (gTp n gs):=⟨T6 hc h.1 hn hst⟩
theorem DW {h:G3}(ho:QE X o fo)(hi:QE X i fi)(hs:ZSet X h)
  (ha:∀ v,assign (.Subscript o i pos) X.env v=(do
   let ov <- holding [v] (eval o X.env)
   let iv <- holding [v,ov] (eval i X.env)
   Rv pos
   holding [v,ov,iv] (setItem ov iv v)
   release [v,ov,iv] []):=by intro _;rfl):QG X (.Subscript o i pos) (gSb fo fi h):=⟨T4 ho.1 hi.1 hs.1 ha⟩
theorem SA {tg:By}(ha:QE X e fa):QI X tg e (w9 fa):=⟨T7 ha.1⟩
theorem U6 {tg:By}(hg:Gl X "range")(hm:X.mg "range" = none)(ha:QA X (e::es) fA)(hs:Bo (e::es) X.env=(false,eval e X.env)::Bo es X.env:=by rfl)(hpl:(Gw pos (Bo es X.env)).any (·.1)=false:=by rfl):QI X tg (.Call (.Name "range" p) (e::es) [] pos) (wC fA):=⟨YB hg hm ha.1 hs hpl⟩
theorem SB {elts:Aa By}{x1:Ai}{tpos:Fc}(hg:Gl X "zip")(hm:X.mg "zip" = none)(ha:QA X [e1,e2] fA)(hs:Bo [e1,e2] X.env=(false,eval e1 X.env)::Bo [e2] X.env:=by rfl)(hpl:(Gw pos (Bo [e2] X.env)).any (·.1)=false:=by rfl):QI X (.Tuple elts x1 tpos) (.Call (.Name "zip" p) [e1,e2] [] pos) (iN fA):=⟨T9 hg hm ha.1 hs hpl⟩
theorem D8:QB X [] zN:=⟨TJ⟩
theorem XW (h:QS X st f):QB X [st] f:=⟨TK h.1⟩
theorem aJ (h1:QS X st f)(h2:QB X sts g):QB X (st::sts) (qM f g):=⟨KY h1.1 h2.1⟩
theorem BR (he:QE X e fa)(hs:Nw e none pos.line X.env=pure false:=by rfl):QS X (.Expr e pos) (xM fa):=⟨KZ he.1 hs⟩
theorem SJ (he:QE X e fa):QS X (.Return (Ab e) pos) (qY fa):=⟨TM he.1⟩
theorem HF {as bs:Aa Gd}(hc:QT X c ta)(ha:QB X as f)(hb:QB X bs g):QS X (.If c as bs pos) (sIf ta f g):=⟨RV hc.1 ha.1 hb.1⟩
theorem U9 (hp:ZPass X)(hc:QT X c ta)(hb:QB X body f):QS X (.While c body [] pos) (tE ta f):=⟨YG hp.1 hc.1 hb.1⟩
theorem SH {tg iter:By}{fI:DI}{h:DG}(hp:ZPass X)(hc:X.calm=true)(hi:QI X tg iter fI)(hg:QG X tg h)(hb:QB X body f)(hs:∀ x,Ev iter X.env x=pure x:=by intro _;rfl):QS X (.For tg iter body [] pos) (wV fI h f):=⟨TH hp.1 hc hi.1 hg.1 hb.1 hs⟩
theorem SK {pos':Fc}(hN:X.N.Nodup)(he:QE X e fa)(hi:X.N[m]? = Ab x)(hx:Loc X.env.scope x)(hs:Nw e (Ab (.Name x pos')) pos.line X.env=pure false)(hf:X.fn x=true\/X.env.scope.names.lookup x=Ab .local):QS X (.Assign [.Name x pos'] e pos) (z0 fa (gNm m)):=⟨TN hN he.1 hi hx hs hf⟩
theorem SD {tg:By}{h:DG}(he:QE X e fa)(hg:QG X tg h)(hs:Mi [tg] e pos.line X.env=pure false:=by rfl)(hw:Mf [tg] e X.env=pure none:=by rfl)(h1:(Hb [tg] X.env).map (·.2)=[assign tg X.env]:=by rfl):QS X (.Assign [tg] e pos) (z0 fa h):=⟨TB he.1 hg.1 hs hw h1⟩
theorem SE {op:Oc}{pos':Fc}(hN:X.N.Nodup)(he:QE X e fe)(ho:ZIp X op G2')(hi:X.N[m]? = Ab x)(hx:Loc X.env.scope x)(hf:X.fn x=true\/X.env.scope.names.lookup x=Ab .local):QS X (.AugAssign (.Name x pos') op e pos) (b8 m G2' fe):=⟨TC hN he.1 ho.1 hi hx hf⟩
theorem SI {l:Ai}{y:Au}{px py pt:Fc} {kt k2 pt2} (hc:X.calm=true) (hN:X.N.Nodup) (ha:QA X [a,b] fA) (hi:X.N[m]? = Ab x) (hj:X.N[l]? = Ab y) (hij:m≠l) (hx:X.env.scope.names.lookup x=Ab .local) (hy:X.env.scope.names.lookup y=Ab .local)
  (hw:Mf [.Tuple [.Name x px,.Name y py] kt pt] (.Tuple [a,b] k2 pt2) X.env=pure (Ab [x,y]):=by rfl) (hs:Mi [.Tuple [.Name x px,.Name y py] kt pt] (.Tuple [a,b] k2 pt2) pos.line X.env=pure false:=by rfl) :
  QS X (.Assign [.Tuple [.Name x px,.Name y py] kt pt] (.Tuple [a,b] k2 pt2) pos) (gY m l fA):=⟨TL hc hN ha.1 hi hj hij hx hy hw hs⟩
theorem U8 {C Ae:Af}{np cpos:Fc}(hc:X.calm=true)(hF:Fn1 X)(hg:Gl X x)(hm:X.mg x=Ab (.ref C))(hx:fO X.K C Ae=true)(ha:QA X (e::rest) fA)(hdb:(x == ("__debug__" : Au))=false)(he:Bo (e::rest) X.env=(false,eval e X.env)::Bo rest X.env:=by rfl)(hpl:(Gw cpos (Bo rest X.env)).any (·.1)=false:=by rfl) :
  QS X (.Raise (Ab (.Call (.Name x np) (e::rest) [] cpos)) none pos) (kS (.ref C) fA):=⟨YF hc hF hg hm hx ha.1 hdb he hpl⟩
theorem CB:ZOp X (Fm .Add) zH:=⟨L7⟩
theorem CT:ZOp X (Fm .Sub) xY:=⟨LH⟩
theorem CO:ZOp X (Fm .Mult) xV:=⟨PR⟩
theorem CD:ZOp X (Fm .FloorDiv) uZ:=⟨L8⟩
theorem CN:ZOp X (Fm .Mod) jX:=⟨LF⟩
theorem CQ:ZOp X (Fm .Pow) gG:=⟨LG⟩
theorem IS:ZOp X (Cc .Lt) gLt:=⟨JV⟩
theorem IR:ZOp X (Cc .LtE) gLe:=⟨ES⟩
theorem IL:ZOp X (Cc .Gt) gGt:=⟨JU⟩
theorem IK:ZOp X (Cc .GtE) gGe:=⟨JT⟩
theorem IP:ZOp X (Cc .Is) gIs:=⟨ER⟩
theorem FR:ZOp X (Cc .IsNot) pV:=⟨VQ⟩
theorem IJ (hr:RoomC cm k X.A):ZOp X (Cc .Eq) gEq:=⟨EN hr.units⟩
theorem IT (hr:RoomC cm k X.A):ZOp X (Cc .NotEq) gNe:=⟨ET hr.units⟩
theorem CP:ZUn X (Zf .USub) iV:=⟨R9⟩
theorem IQ:ZIx X gIx:=⟨AN⟩
theorem CJ:ZCall X (.builtin "isinstance") vY:=⟨MF⟩
theorem CK:ZCall X (.builtin "len") zT:=⟨K9⟩
theorem CC (hc:X.calm=true):ZCall X (.builtin "all") (gD false):=⟨MD false hc⟩
theorem CI:ZCall X (.type "int") iQ:=⟨ME⟩
theorem FT:ZCall X (.type "tuple") uX:=⟨WW⟩
theorem UY:ZMt X "list.append" xQ:=⟨X6⟩
theorem CS (hr:RoomC cm k X.A):ZSet X y9:=⟨SU (hu1 hr)⟩
end
section
variable {P:Bg}{w:Ca}{K:Aj}{mg:Au->Al Ac}{base:Bw}{cm:Ar}
theorem FW {qual:Au}{scope:Ey}{f:Af}{cd:Ac}{A:Bt}{outer:Aa Kc}{s:Ag}{H:Hp}{E:XK}:ZPass (cxC cm P w K mg base N qual scope f cd A outer s H E):=⟨Y0⟩
theorem AC {x:Au}{st:Gd}{ps:Aa Au}{k:Ai}{g:DS}(h:Src K mg x st ps)(S:FnScope N ps (qK st))(hbd:zU st=body)
  (hbody:∀ (f:Af) (cdv:Ac) (A:Bt) (outer:Aa Kc) (s:Ag) (H:Hp) (E:XK),fH K x cdv->RoomC cm k (A.deeper (Hc x (qK st) s.heap.objs.size f cdv)) ->
   QB (cxC cm P w K mg base N x (qK st) f cdv A outer s H E) body g):Def P w K mg base cm (k+1) x ps.length (qL N.length g):=
 T3 h S λf cdv A outer s H E hc hr=>hbd▸(hbody f cdv A outer s H E hc hr).1
theorem RT {x:Au}{st:Gd}{ps:Aa Au}{k:Ai}{g:DS}(h:Src K mg x st ps)(S:FnScope N ps (qK st))(hbd:zU st=body)
  (hbody:∀ (f:Af) (cdv:Ac) (A:Bt) (outer:Aa Kc) (s:Ag) (H:Hp) (E:XK),fH K x cdv->RoomC cm k (A.deeper (Hc x (qK st) s.heap.objs.size f cdv)) ->
   QB (cxC cm P w K mg base N x (qK st) f cdv A outer s H E) body g):sH P w K mg base cm (k+1) x ps (qL N.length g):=
 KN h S λf cdv A outer s H E hc hr=>hbd▸(hbody f cdv A outer s H E hc hr).1
end
structure QTs (X:Cx)(ifs:Aa By)(t:DT):Prop where
 get:PTs X ifs t
section
variable {X:Cx}{elt tg iter e:By}{ifs es:Aa By}{scope:Ey}{pos p:Fc}{N':Aa Au}{cap:Aa (Al Ai)}{fi:DI}{g:DG}{t u:DT}{fe:DE}{fa:DA}{x:Au}{cm:Ar}{k n:Ai}{F:DF}
theorem BS:QTs X [] zW:=⟨G8⟩
theorem UB (h1:QT X e t)(h2:QTs X es u):QTs X (e::es) (wG t u):=⟨YI h1.1 h2.1⟩
theorem qcO (G:Def X.prog X.w X.K X.mg X.base cm k x n F)(hr:RoomC cm k X.A)(hg:Gl X x)(ha:QA X (e::es) fa)(hdb:(x == ("__debug__" : Au))=false)(he:Bo (e::es) X.env=(false,eval e X.env)::Bo es X.env:=by rfl)(hpl:(Gw pos (Bo es X.env)).any (·.1)=false:=by rfl) :
  QE X (.Call (.Name x p) (e::es) [] pos) (qE n (okO F) fa):=⟨dcO G hr hg ha.1 hdb he hpl⟩
end
def stn (o:Al (Ai × MO))(S:Sto):Prop:=match o with
 |none=>Pc
 |some p=>S[p.1]? = Ab p.2
open Classical in
def oY (o:Al (Ai × MO))(S:Sto):Ar:=decide (stn o S)
theorem yP {o:Al (Ai × MO)}:oY o S=true↔stn o S:=by simp[oY]
structure ItD2 (K:Aj)(J:It)(P:Hp)(α : Aa Af)(o:Al (Ai × MO))(ds:Aa D):Prop where
 go:∀ i H P1 α1 S,i<ds.length->Rel K H P1 α1 S->stn o S->qF P P1->α<+:α1->J.go i H
 yld:∀ i H x H' P1 α1 S,i<ds.length->Rel K H P1 α1 S->stn o S->qF P P1->α<+:α1->J.yld i H x H'->∃ P2 d,ds[i]? = Ab d/\Rel K H' P2 α1 S/\qF P1 P2/\Rep K P2 α1 d x
 stop:∀ i H P1 α1 S,ds.length<=i->Rel K H P1 α1 S->stn o S->qF P P1->α<+:α1->J.stop i H
theorem ItD.two {K:Aj}{J:It}{P:Hp}(h:ItD K J P α ds):ItD2 K J P α none ds:=
 ⟨λi H P1 α1 S a b _ c d=>h.go i H P1 α1 S a b c d,λi H x H' P1 α1 S a b _ c d e=>h.yld i H x H' P1 α1 S a b c d e,λi H P1 α1 S a b _ c d=>h.stop i H P1 α1 S a b c d⟩
abbrev DI2:=qB->Sto->Res (Al (Ai × MO) × Aa D)
inductive tDI2 (X:Cx)(f:DI2)(σ : _L.St)(H:Hp)(R:It->Hp->Prop):Prop
 |mk (P:Hp) (α : Aa Af) (env:qB) (S:Sto) (r:Rel X.K H P α S) (re:zG X.K P α σ env) (af:qI X P α (f env S) (λp S'=>∀ J H' P' α',Rel X.K H' P' α' S'->qF P P'->α<+:α'->ItD2 X.K J P' α' p.1 p.2->R J H')):tDI2 X f σ H R
noncomputable def xB (f:DI):DI2:=λenv S=>(f env S).bind λds S1=>.ok (none,ds) S1
section
variable {X:Cx}{K:Aj}{tg e:By}{fa:DE}{pos:Fc}
theorem KR {f:DI}(h:PI X tg e (tDI X f)):PI X tg e (tDI2 X (xB f)):=PI.weak h λσ H R ⟨P,α,env,S,r,re,af⟩=>by
 refine⟨P,α,env,S,r,re,?_⟩;unfold xB at af;cases q:f env S with
 |bad=>rw[q] at af;exact af
 |ex c x S'=>rw[q] at af;exact af
 |ok ds S1 =>
  rw[q] at af;exact λJ H' P' α' r' e1 e2 it=>af J H' P' α' r' e1 e2 it.two
theorem GS {P:Hp}{a:Af}{n:Ai}(hα:α[n]? = Ab a):ItD2 K (Itl K a) P α (Ab (n,.lst ds)) ds where
 go:=λi H P1 α1 S hi r st e e2=>by
  obtain⟨vs,z,t⟩:=r.at' n a _ (bS e2 hα) st;exact⟨vs,vs[i]'(by rw[<- t.length];exact hi),.of z,by simp⟩
 yld:=λi H x H' P1 α1 S hi r st e e2 y=>by
  obtain⟨rfl,y⟩:=y;obtain⟨vs,z,t⟩:=r.at' n a _ (bS e2 hα) st;have hx:=y vs (.of z);obtain⟨v,h1,h2⟩:=t.get (Ao hi);rw[hx] at h1;cases h1;exact⟨P1,_,Ao hi,r,qF.refl _,h2⟩
 stop:=λi H P1 α1 S hi r st e e2=>by
  obtain⟨vs,z,t⟩:=r.at' n a _ (bS e2 hα) st;exact⟨vs,.of z,by rw[<- t.length];exact hi⟩
noncomputable def itD (d:D)(S:Sto):Res (Al (Ai × MO) × Aa D):=match d with
 |.tup xs=>.ok (none,xs) S
 |.lst xs=>.ok (none,xs) S
 |.loc n=>match S[n]? with
  |some (.lst xs)=>.ok (Ab (n,.lst xs),xs) S
  |_=>.bad
 |_=>.bad
noncomputable def dIt (f:DE):DI2:=λenv S=>(f env S).bind λd S1=>itD d S1
theorem RU (ha:PE X e (tD X fa)):PI X tg e (tDI2 X (dIt fa)):=by
 intro pins s σ H R I h;obtain⟨P,α,env,S,r,re,af⟩:=h;refine thn (zO ha I r re af) λvv s1 ⟨v,H1,P1,α1,d,S1,G1,af1⟩=>?_;have seq:∀ ds,xD d=Ab ds->(∀ J H' P' α',Rel X.K H' P' α' S1->qF P P'->α<+:α'->ItD2 X.K J P' α' none ds->R J H')->Ap (As X.prog X.w) X.A (Oh vv) (PIE X pins σ tg R) X.xe s1:=λds e1 q =>
  rM G1.inv G1.rel G1.val G1.rep e1 λJ H' P' α' r' h1 h2 it=>q J H' P' α' r' (G1.same.trans h1) (G1.pre.trans h2) it.two
 cases d with
 |tup xs=>exact seq xs rfl af1
 |lst xs=>exact seq xs rfl af1
 |loc n =>
  obtain⟨xs,hS,af1⟩:=gT (X:=X) (f:=λxs=>Res.ok (Ab (n,MO.lst xs),xs) S1) af1;have rp:=G1.rep;simp only[Rep] at rp;obtain⟨a,rfl,ha⟩:=rp;cases (show vv=Dh a from G1.val)
  obtain⟨vs,z,t⟩:=G1.rel.at' n a _ ha hS;obtain⟨its,rv,p,hz⟩:=G1.inv.list (SqL.of z);refine Fz p.isList ?_;refine⟨s1.heap.objs.size,[s1.heap.objs.size],_,_,H1,rfl,G1.inv.kept (t':=s1.toks) λb o e=>Ah _ e,d9 a _,⟨_,Ay _ rfl,rfl,rfl⟩,λb hb=>?_,af1 _ _ P1 α1 G1.rel G1.same G1.pre (GS ha)⟩;have e:b=s1.heap.objs.size:=by simpa using hb
  subst e;exact G1.inv.fpOk (Av _) (G1.inv.hok.fresh (Av _))
 |_=>exact Aq af1
end
noncomputable def emX (m:Ar)(elt:By)(acc:Ac)(env:Kc):Ln Vi:=match m with
 |false=>do let _ <- call (.builtin "list.append") [acc,<- eval elt env]
 |true=>do let v <- eval elt env;Rv elt.pos;let _ <- call (.builtin "set.add") [acc,v]
noncomputable def zV (m:Ar)(elt:By)(gens:Aa DL)(scope:Ey)(pos:Fc)(k:Ai)(acc:Ac)(env:Kc):Ln Vi:=
 match gens[k+1]? with
 |some g'=>do
  let x <- eval g'.iter env
  Rv g'.iter.pos
  let x <- Ev g'.iter env x
  let it <- holding [x] (Oh x)
  let _ <- runOwn (.compStart (xN m elt gens scope pos) (k+1) it acc env) env
 |none=>emX m elt acc env
theorem UV (m:Ar)(elt target iter:By)(ifs:Aa By)(gens:Aa DL)(scope:Ey)(pos:Fc)(it acc:Ac)(env:Kc)(k:Ai)(hg:gens[k]? = Ab ⟨target,iter,ifs,0⟩)(ha:∀ g',gens[k+1]? = Ab g'->g'.is_async=0) :
  sK (xN m elt gens scope pos) k it acc env=(do
   Rv iter.pos
   match <- No it with
   |none=>pure (.done .next)
   |some v =>
    Kx target it v
    assign target env v
    let mut ok:=true
    for c in ifs do
     if ok then ok <- isTrue c env (eval c env)
    if ok then zV m elt gens scope pos k acc env
    again (.compLoop (xN m elt gens scope pos) k it acc env)):=by
 cases m <;>
 .unfold sK zV xN emX
  simp only[hg];cases q:gens[k+1]? with
  |none=>rfl
  |some g' =>
   have h0:=ha g' q;have e0:(g'.is_async != 0)=false:=by rw[h0];rfl
   simp only[e0,Cb,Ef,bind_assoc,pure_bind];rfl
abbrev DK:=qB->Sto->Aa D->Res (qB × Aa D)
def goL (o:Al (Ai × MO))(g:DG)(t:DT)(k:DK):Aa D->DK
 |[],env,S,acc=>if oY o S then .ok (env,acc) S else .bad
 |d::ds,env,S,acc=>if oY o S then (g d env S).bind λenv1 S1=>(t env1 S1).bind λb S2 =>
   if b then (k env1 S2 acc).bind λp S3=>goL o g t k ds p.1 S3 p.2 else goL o g t k ds env1 S2 acc
  else .bad
noncomputable def zB (fe:DE):DK:=λenv S acc=>(fe env S).bind λx S1=>if acc.length<lim then .ok (env,acc++[x]) S1 else .bad
def kIn (fi:DI2)(g:DG)(t:DT)(k:DK):DK:=λenv S acc=>(fi env S).bind λp S1=>goL p.1 g t k p.2 env S1 acc
def i6 (B:Acc)(Y:Cx)(pins:Aa (Af × Cu))(P1:Hp)(α1:Aa Af)(acc:Af)(env:qB)(S:Sto)(ds:Aa D)(s:Ag):Prop:=
 ∃ σ H P α o,TurnSt B Y pins P1 α1 [] acc env S ds s σ H P α o
def PK (B:Acc)(Y:Cx)(step:Ac->Ln Vi)(k:DK):Prop:=
 ∀ (pins:Aa (Af × Cu)) (P1:Hp) (α1:Aa Af) (acc:Af) (env env':qB) (S S':Sto) (ds ds':Aa D) (s:Ag),(∀ H:Hp,H acc=none->xC Y pins H acc)->i6 B Y pins P1 α1 acc env S ds s->k env S ds=.ok (env',ds') S' ->
  Ap (As Y.prog Y.w) Y.A (step (.ref acc)) (λ_ s'=>i6 B Y pins P1 α1 acc env' S' ds' s') (λ_ _=>Fv) s
section
variable {B:Acc}{Y:Cx}{elt tg iter:By}{ifs:Aa By}{gens:Aa DL}{scope:Ey}{pos:Fc}{k:Ai}{g:DG}{t:DT}{fe:DE}{it acc:Af}{fp:Aa Af}{J:It}{tn:Ai->Bw->Prop}{items:Aa D}{P1:Hp}{α1:Aa Af}{pins:Aa (Af × Cu)}
theorem ZJ {X:Cx}{H:Hp}{b:Af}{h:Bw}(f:xC X pins H b)(hn:b ∉ fp):xC X (pins++v8 fp h) H b:=by
 obtain⟨f0,f1,f2,f3,f4,f5⟩:=f;refine⟨f0,f1,f2,f3,f4,λp hp=>?_⟩;rcases Bz.mp hp with z|z
 .exact f5 p (Dc _ z)
 .rcases Bz.mp z with z|z
  .exact f5 p (Bu _ z)
  .rintro rfl
   exact hn (lV z).1
theorem Res.bind_inv {β γ:Type}{r:Res β}{f:β->Sto->Res γ}{x:γ}(h:r.bind f=.ok x S):∃ b S1,r=.ok b S1/\f b S1=.ok x S:=by
 cases r with
 |ok b S1=>exact⟨b,S1,rfl,h⟩
 |_=>cases h
inductive GoC (o:Al (Ai × MO))(g:DG)(t:DT)(k:DK)(d:D)(ds acc:Aa D)(env:qB)(S SF:Sto)(x:qB × Aa D):Prop
 |no (env1:qB) (S1 S2:Sto) (z:stn o S) (q1:g d env S=.ok env1 S1) (q2:t env1 S1=.ok false S2) (r:goL o g t k ds env1 S2 acc=.ok x SF):GoC o g t k d ds acc env S SF x
 |yes (env1:qB) (S1 S2:Sto) (env5:qB) (ds5:Aa D) (S5:Sto) (z:stn o S) (q1:g d env S=.ok env1 S1) (q2:t env1 S1=.ok true S2) (q3:k env1 S2 acc=.ok (env5,ds5) S5) (r:goL o g t k ds env5 S5 ds5=.ok x SF):GoC o g t k d ds acc env S SF x
set_option tactic.hygienic true in
theorem V0 {o:Al (Ai × MO)}{k:DK}{d:D}{acc:Aa D}{x:qB × Aa D}(h:goL o g t k (d::ds) env S acc=.ok x SF):GoC o g t k d ds acc env S SF x:=by
 simp only[goL] at h
 split at h
 .rename_i z
  obtain⟨env1,S1,q1,h⟩:=Res.bind_inv h;obtain⟨b,S2,q2,h⟩:=Res.bind_inv h;cases b with
  |false=>exact .no env1 S1 S2 (yP.mp z) q1 q2 h
  |true =>
   obtain⟨⟨env5,ds5⟩,S5,q3,h⟩:=Res.bind_inv h;exact .yes env1 S1 S2 env5 ds5 S5 (yP.mp z) q1 q2 q3 h
 .cases h
set_option tactic.hygienic true in
theorem GK {o:Al (Ai × MO)}{k:DK}{acc:Aa D}(h:goL o g t k [] env S acc=.ok (envF,dsF) SF):stn o S/\env=envF/\acc=dsF/\S=SF:=by
 simp only[goL] at h
 split at h
 .rename_i z
  cases h;exact⟨yP.mp z,rfl,rfl,rfl⟩
 .cases h
inductive LpI (B:Acc)(Y:Cx)(pins:Aa (Af × Cu))(P1:Hp)(α1:Aa Af)(fp:Aa Af)(acc:Af)(tn:Ai->Bw->Prop)(G:Aa D->DK)(items:Aa D)(x:qB × Aa D)(SF:Sto)(n:Ai)(s:Ag):Prop
 |mk (i:Ai) (σ : _L.St) (H P:Hp) (α : Aa Af) (o:Cu) (env:qB) (S:Sto) (ds:Aa D) (hn:n=items.length-i) (hi:i<=items.length) (st:TurnSt B Y pins P1 α1 fp acc env S ds s σ H P α o) (st1:tn i s.heap) (run:G (items.drop i) env S ds=.ok x SF):LpI B Y pins P1 α1 fp acc tn G items x SF n s
theorem FF {m:Ar}{M:Pj}{A:Bt}{Q:Fin->Ag->Prop}{E:Ac->Ag->Prop}{s:Ag}{it acc:Ac}{en:Kc}(hgk:gens[k]? = Ab ⟨tg,iter,ifs,0⟩)(has:∀ g',gens[k+1]? = Ab g'->g'.is_async=0)
  (ha:∀ s,Qa s->Q (.again (.compLoop (xN m elt gens scope pos) k it acc en)) s) (hd:∀ s,Qd s->Q (.done .next) s)
  (h:Ap M A (No it) (λr s1=>(r=none->Qd s1)/\∀ v,r=Ab v->Ap M A (Kx tg it v) (λ_ s2=>Ap M A (assign tg en v) (λ_ s3=>Ap M A (jI ifs en) (λb s4=>(b=false->Qa s4)/\(b=true->Ap M A (zV m elt gens scope pos k acc en) (λ_ s5=>Qa s5) E s4)) E s3) E s2) E s1) E s) :
  Ap M A (sK (xN m elt gens scope pos) k it acc en) Q E s:=by
 rw[UV m elt tg iter ifs gens scope pos it acc en k hgk has];refine Ad (Mj (Ad (thn h λr s1 ⟨h0,h1⟩=>?_)));cases r with
 |none=>exact Am (hd _ (h0 rfl))
 |some v =>
  refine Ad (thn (h1 v rfl) λ_ s2 h2=>Ad (thn h2 λ_ s3 h3=>Ad (thn h3 λb s4 h4=>?_)));cases b with
  |false=>exact Am (ha _ (h4.1 rfl))
  |true=>exact Ad (thn (h4.2 rfl) λ_ s5 h5=>Am (ha _ h5))
theorem GG (hfp:∀ H:Hp,(∀ b∈fp,H b=none)->∀ b∈fp,xC Y pins H b)(hne:acc ∉ fp)(o:Cu)(H':Hp)(hn:∀ b∈fp,H' b=none):∀ b∈fp,xC Y (pins++[(acc,o)]) H' b:=λb hb=>by
 obtain⟨f0,f1,f2,f3,f4,f5⟩:=hfp H' hn b hb;refine⟨f0,f1,f2,f3,f4,λp hp=>?_⟩;rcases Bz.mp hp with z|z
 .exact f5 p (Dc _ z)
 .rcases Bz.mp z with z|z
  .exact f5 p (Bu _ z)
  .rw[Ci.mp z]
   rintro rfl;exact hne hb
theorem jW {i:Ai}{h:Bw}(T:Turn Y.prog Y.w Y.K tg J fp it tn)(st2:tn (i+1) h)(pl:∀ b∈fp,∃ o,h.get? b=Ab o/\∀ v,o.data≠.cell v){s5:Ag}{σ5:_L.St}{H5:Hp}(I5:Inv Y (pins++v8 fp h) σ5 H5 s5):tn (i+1) s5.heap/\(∀ b∈fp,H5 b=none):=by
 refine⟨T.keep _ _ _ st2 λb hb o' e=>(I5.pin (b,o') (Bu _ (Bu _ (uB hb e)))).1,λb hb=>?_⟩;obtain⟨o',e,d'⟩:=pl b hb;exact(I5.pin (b,o') (Bu _ (Bu _ (uB hb e)))).2.1
theorem iL {kk:DK}{E:Ac->Ag->Prop}{s:Ag}{σ:_L.St}{H P:Hp}{o:Cu}{i:Ai}(hc:Y.calm=true)(hx:Y.xe=λ_ _=>Fv)
  (T:Turn Y.prog Y.w Y.K tg J fp it tn) (hit:ItD2 Y.K J P1 α1 o' items) (hg:PG Y tg (tDG Y g)) (ht:PTs Y ifs t) (he:PK B Y (λacc=>zV B.m elt gens scope pos k acc Y.env) kk) (hacc:∀ H:Hp,H acc=none->xC Y pins H acc) (hfp:∀ H:Hp,(∀ b∈fp,H b=none)->∀ b∈fp,xC Y pins H b) (hne:acc ∉ fp)
  (hi:i<=items.length) (st:TurnSt B Y pins P1 α1 fp acc env S ds s σ H P α o) (st1:tn i s.heap) (run:goL o' g t kk (items.drop i) env S ds=.ok (envF,dsF) SF)
  (hA:∀ s' σ' H' P' α' o1 env1 S' ds',i<items.length->TurnSt B Y pins P1 α1 fp acc env1 S' ds' s' σ' H' P' α' o1->tn (i+1) s'.heap->goL o' g t kk (items.drop (i+1)) env1 S' ds'=.ok (envF,dsF) SF->Qa s')
  (hD:∀ s' σ' H' P' α' o',TurnSt B Y pins P1 α1 fp acc envF SF dsF s' σ' H' P' α' o'->Qd s') :
  Ap (As Y.prog Y.w) Y.A (No (.ref it)) (λr s1=>(r=none->Qd s1)/\∀ v,r=Ab v->Ap (As Y.prog Y.w) Y.A (Kx tg (.ref it) v) (λ_ s2=>Ap (As Y.prog Y.w) Y.A (assign tg Y.env v) (λ_ s3=>Ap (As Y.prog Y.w) Y.A (jI ifs Y.env) (λb s4=>(b=false->Qa s4)/\(b=true->Ap (As Y.prog Y.w) Y.A (zV B.m elt gens scope pos k (.ref acc) Y.env) (λ_ s5=>Qa s5) E s4)) E s3) E s2) E s1) E s:=by
 have I1:=_D.Inv.pin1 st.inv (hacc H st.acn) st.at' (B.cell st.acc);have fp1:=GG hfp hne o;by_cases hlt:i<items.length
 .have hdr:items.drop i=items[i]::items.drop (i+1):=Gr hlt
  rw[hdr] at run;have run:=V0 run;have hst:stn o' S:=by cases run with|no _ _ _ z=>exact z|yes _ _ _ _ _ _ z=>exact z
  refine p7 (T.item Y rfl rfl rfl hc i _ s σ H (λ_ _=>Fv) I1 (fp1 H st.fpn) st1 (hit.go i H P α S hlt st.rel hst st.same st.pre)) λr s1 ⟨u,hr,h1⟩=>⟨λz=>(by rw[hr] at z;cases z),λv hv=>?_⟩
  obtain rfl:v=u:=Dd (hv.symm.trans hr);refine p7 h1 λ_ s2 ⟨x,H2,I2,rx,y,st2,fr2⟩=>?_;obtain⟨P2,d,hd,r2,e2,rp⟩:=hit.yld i H x H2 P α S hlt st.rel hst st.same st.pre y;cases (Ao hlt).symm.trans hd;have pl:=T.obj _ _ st2;have I2':=I2.pinned (fp1 _ fr2) pl;have two:∀ env1 S1 b S2,g items[i] env S=.ok env1 S1->t env1 S1=.ok b S2->(∀ s4 σ3 H4 P4 α4 (I4:Inv Y (pins++v8 fp s2.heap) σ3 H4 s4),TurnSt B Y pins P1 α1 fp acc env1 S2 ds s4 σ3 H4 P4 α4 o->tn (i+1) s4.heap->(b=false->Qa s4)/\(b=true->Ap (As Y.prog Y.w) Y.A (zV B.m elt gens scope pos k (.ref acc) Y.env) (λ_ s5=>Qa s5) E s4))->Ap (As Y.prog Y.w) Y.A (assign tg Y.env v) (λ_ s3=>Ap (As Y.prog Y.w) Y.A (jI ifs Y.env) (λb s4=>(b=false->Qa s4)/\(b=true->Ap (As Y.prog Y.w) Y.A (zV B.m elt gens scope pos k (.ref acc) Y.env) (λ_ s5=>Qa s5) E s4)) E s3) E s2:=by
   intro env1 S1 b S2 q1 q2 next;refine p7 (hx▸AU hg I2' r2 (st.env.mono e2 (Be _)) rx rp q1) λ_ s3 ⟨σ3,H3,P3,α3,I3,r3,re3,e3,e3'⟩=>?_;refine p7 (hx▸H9 ht I3 r3 re3 q2) λb' s4 ⟨hb,H4,P4,α4,I4,r4,re4,e4,e4'⟩=>?_;have I4':Inv Y (pins++v8 fp s2.heap) σ3 H4 s4:=I4.pins_of λp hp=>I4.pin p (Bu _ ((Bz.mp hp).elim (λz=>Dc _ (Dc _ z)) λz=>Bu _ z));have a4:=I4.pin (acc,o) (Bu _ (Dc _ (Bu _ (Ci.mpr rfl))));rw[hb];exact next s4 σ3 H4 P4 α4 I4' ⟨I4'.unpinned,r4,re4,((st.same.trans e2).trans e3).trans e4,(st.pre.trans e3').trans e4',(jW T st2 pl I4').2,a4.2.1,a4.1,B.mono ((e2.trans e3).trans e4) (e3'.trans e4') st.acc⟩ (jW T st2 pl I4').1
  cases run with
  |no env1 S1 S2 _ q1 q2 run=>exact two env1 S1 false S2 q1 q2 λs4 σ3 H4 P4 α4 I4 st4 tn4=>⟨λ_=>hA s4 σ3 H4 P4 α4 o env1 S2 ds hlt st4 tn4 run,λz=>(by cases z)⟩
  |yes env1 S1 S2 env5 ds5 S5 _ q1 q2 q3 run =>
   refine two env1 S1 true S2 q1 q2 λs4 σ3 H4 P4 α4 I4 st4 tn4=>⟨λz=>(by cases z),λ_=>?_⟩
   refine p7 (he (pins++v8 fp s2.heap) P1 α1 acc env1 env5 S2 S5 ds ds5 s4 (λH hn=>ZJ (hacc H hn) hne) ⟨σ3,H4,P4,α4,o,I4,st4.rel,st4.env,st4.same,st4.pre,λb hb=>(by cases hb),st4.acn,st4.at',st4.acc⟩ q3) λ_ s5 ⟨σ5,H5,P5,α5,o5,T5⟩=>?_
   exact hA s5 σ5 H5 P5 α5 o5 env5 S5 ds5 hlt ⟨T5.inv.unpinned,T5.rel,T5.env,T5.same,T5.pre,(jW T st2 pl T5.inv).2,T5.acn,T5.at',T5.acc⟩ (jW T st2 pl T5.inv).1 run
 .rw[Lb li] at run
  obtain⟨z,rfl,rfl,rfl⟩:=GK run;refine p7 (T.done Y rfl rfl rfl hc i _ s σ H (λ_ _=>Fv) I1 (fp1 H st.fpn) st1 (hit.stop i H P α _ li st.rel z st.same st.pre)) λr s1 ⟨hr,I2⟩=>⟨λ_=>?_,λv hv=>(by rw[hr] at hv;cases hv)⟩
  have a:=_D.Inv.pinned1 I2;exact hD s1 σ H P α o ⟨I2.unpinned,st.rel,st.env,st.same,st.pre,st.fpn,a.2,a.1,st.acc⟩
theorem VF (P:Bg)(w:Ca)(m:Ar)(elt:By)(gens:Aa DL)(scope:Ey)(pos:Fc)(k:Ai)(it acc:Ac)(env:Kc):(As P w).den (.compLoop (xN m elt gens scope pos) k it acc env)=(sK (xN m elt gens scope pos) k it acc env).onRaise (λx=>do noteFrame x env;theTreesLotGoes x):=by cases m <;> rfl
theorem VG (A:Bt)(m:Ar)(elt:By)(gens:Aa DL)(scope:Ey)(pos:Fc)(k:Ai)(it acc:Ac)(env:Kc):A.under (.compLoop (xN m elt gens scope pos) k it acc env)=A:=by cases m <;> rfl
theorem mD {kk:DK}{R:Zh->Ag->Prop}{s:Ag}{σ:_L.St}{H P:Hp}{ds0:Aa D}{o:Cu}(hc:Y.calm=true)(hx:Y.xe=λ_ _=>Fv)(hgk:gens[k]? = Ab ⟨tg,iter,ifs,0⟩)(has:∀ g',gens[k+1]? = Ab g'->g'.is_async=0)
  (T:Turn Y.prog Y.w Y.K tg J fp it tn) (hit:ItD2 Y.K J P1 α1 o' items) (hg:PG Y tg (tDG Y g)) (ht:PTs Y ifs t) (he:PK B Y (λacc=>zV B.m elt gens scope pos k acc Y.env) kk) (hacc:∀ H:Hp,H acc=none->xC Y pins H acc) (hfp:∀ H:Hp,(∀ b∈fp,H b=none)->∀ b∈fp,xC Y pins H b) (hne:acc ∉ fp)
  (st:TurnSt B Y pins P1 α1 fp acc env S ds0 s σ H P α o) (st0:tn 0 s.heap) (run:goL o' g t kk items env S ds0=.ok (envF,dsF) SF)
  (hR:∀ s' σ' H' P' α' o',TurnSt B Y pins P1 α1 fp acc envF SF dsF s' σ' H' P' α' o'->R (.ok .next) s') :
  Iw (As Y.prog Y.w) Y.A (.compLoop (xN B.m elt gens scope pos) k (.ref it) (.ref acc) Y.env) R s:=by
 refine codeAny_loop rfl (LpI B Y pins P1 α1 fp acc tn (goL o' g t kk) items (envF,dsF) SF) (λn s hI=>?_) items.length ⟨0,σ,H,P,α,o,env,S,ds0,rfl,Fh _,st,st0,run⟩;obtain⟨i,σ,H,P,α,o,env,S,ds,hn,hi,st,st1,run⟩:=hI;subst hn;rw[VF,VG];refine wpAny_noted (FF (m:=B.m) hgk has (Qa:=λs'=>∃ m,m<items.length-i/\LpI B Y pins P1 α1 fp acc tn (goL o' g t kk) items (envF,dsF) SF m s') (Qd:=R (.ok .next)) (λ_ h=>⟨rfl,h⟩) (λ_ h=>h) ?_);exact iL hc hx T hit hg ht he hacc hfp hne hi st st1 run (λs' σ' H' P' α' o1 env1 S' ds' hlt st' tn' run'=>⟨_,Nat.sub_succ_lt_self _ _ hlt,i+1,σ',H',P',α',o1,env1,S',ds',rfl,hlt,st',tn',run'⟩) hR
set_option tactic.hygienic true in
theorem B6 (hx:Y.xe=λ_ _=>Fv)(hlast:gens[k+1]? = none)(he:PE Y elt (tD Y fe)):PK accL Y (λacc=>zV false elt gens scope pos k acc Y.env) (zB fe):=by
 intro pins P1 α1 acc env env' S S' ds ds' s hacc ⟨σ,H,P,α,o,st⟩ run;show Ap _ _ (zV false elt gens scope pos k (.ref acc) Y.env) _ _ s;unfold zV;rw[hlast];dsimp only[emX];unfold zB at run;cases q3:fe env S with
 |bad=>rw[q3] at run;cases run
 |ex c z S'=>rw[q3] at run;cases run
 |ok d5 S5 =>
  rw[q3,Res.bind_ok] at run
  split at run
  .rename_i hlen
   cases run;have fA:=hacc H st.acn;have I1:=_D.Inv.pin1 st.inv fA st.at' (accL.cell st.acc);refine Ad (p7 (hx▸AS he I1 st.rel st.env q3) λu5 s5 ⟨v5,H5,P5,α5,G5⟩=>?_);have J:=_D.Inv.pinned1 G5.inv;have J1:=G5.inv.unpinned;obtain⟨J4,J5⟩:=J;obtain⟨its,n5,vs,ho,rvs,rps,hz⟩:=st.acc;subst ho;have hlen':vs.length=ds.length:=rps.length.symm;have hl2:=rvs.length;refine Ad (Sx Xh ⟨_,J4,rfl⟩ Wj (Vt _ _) (Yn acc its.toArray n5 u5 (by rw[Bj];rw[<- zX];lia)) ⟨J4,?_⟩)
   have q:=Zk J4 (·.push u5)
   have fA5:=hacc H5 J5;have keep:∀ b o,b≠acc->s5.heap.get? b=Ab o->(s5.heap.update acc (Ew (·.push u5))).get? b=Ab o:=λb o hb e=>(Cj s5.heap _ (Fb hb)).trans e
   have I6:=J1.turned (t':=s5.toks) keep J5 fA5.2.1 fA5.2.2.2.1 fA5.2.2.2.2.1 fA5.2.2.2.2.2;refine Am ⟨σ,H5,P5,α5,_,I6,G5.rel,G5.env,st.same.trans G5.same,st.pre.trans G5.pre,λb hb=>(by simp at hb),J5,q,?_⟩
   refine⟨its++[u5],_,vs++[v5],by simp <;> rfl,rvs.append (.cons G5.val .nil),?_,by simp;lia⟩
   exact(qC.mono G5.same G5.pre _ _ rps).append (.cons G5.rep .nil)
  .cases run
end
theorem pO {prog:Bg}{w:Ca}{A:Bt}{R:Zh->Ag->Prop}{s:Ag}{elt:By}{gens:Aa DL}{scope:Ey}{pos:Fc}{k:Ai}{it acc:Ac}{env:Kc}{g:DL}{m:Ar}(hg:gens[k]? = Ab g)(ha:g.is_async=0)
  (h0:Iw (As prog w) A (.compLoop (xN m elt gens scope pos) k it acc env) R s)
  (h:Ap (As prog w) A (Oh it) (λit' s'=>Iw (As prog w) A (.compLoop (xN m elt gens scope pos) k it' acc env) R s') (notedBy (As prog w) A env λx s'=>R (.error x) s') s) :
  Iw (As prog w) A (.compStart (xN m elt gens scope pos) k it acc env) R s:=by
 refine Po ?_;have e1:(As prog w).den (.compStart (xN m elt gens scope pos) k it acc env)=(compStart (xN m elt gens scope pos) k it acc env).onRaise (λx=>do noteFrame x env;Rv theWindowsPlace):=by cases m <;> rfl
 have e2:A.under (.compStart (xN m elt gens scope pos) k it acc env)=A:=by cases m <;> rfl
 have e3:(AaG (xN m elt gens scope pos) k it acc env).quiet=true/\∀ it',(AaG (xN m elt gens scope pos) k it' acc env).quiet=true:=by cases m <;> exact⟨rfl,λ_=>rfl⟩
 rw[e1,e2];refine wpAny_notedAt ?_;have hcl:clausesOf (xN m elt gens scope pos)=gens:=by cases m <;> rfl
 have e0:(g.is_async != 0)=false:=by rw[ha];rfl
 unfold compStart;simp only[hcl,hg,Option.elim,e0,Cb,Ef];refine Ad (Km (wpAny_ite ?_))
 split
 .exact Am (And.intro e3.1 h0)
 .refine Ad (Go ?_)
  exact Ad (Mj (Ad (Hq h (λit' s' h'=>Am (And.intro (e3.2 _) h')) λ_ _ x=>x)))
section
variable {B:Acc}{Y:Cx}{elt tg iter:By}{ifs:Aa By}{gens:Aa DL}{scope:Ey}{pos:Fc}{k:Ai}{g:DG}{t:DT}{fi:DI2}{kk:DK}
theorem ZI {X:Cx}{pins pl:Aa (Af × Cu)}{H:Hp}{b:Af}(f:xC X (pins++pl) H b):xC X pins H b:=by
 obtain⟨f0,f1,f2,f3,f4,f5⟩:=f;refine⟨f0,f1,f2,f3,f4,λp hp=>f5 p ?_⟩;rcases Bz.mp hp with z|z
 .exact Dc _ z
 .exact Bu _ (Dc _ z)
theorem H8 (hc:Y.calm=true)(hx:Y.xe=λ_ _=>Fv)(hgk:gens[k+1]? = Ab ⟨tg,iter,ifs,0⟩)(has:∀ g',gens[k+1+1]? = Ab g'->g'.is_async=0)(hi:PI Y tg iter (tDI2 Y fi))(hg:PG Y tg (tDG Y g))(ht:PTs Y ifs t)
  (he:PK B Y (λacc=>zV B.m elt gens scope pos (k+1) acc Y.env) kk) (hs:∀ x,Ev iter Y.env x=pure x):PK B Y (λacc=>zV B.m elt gens scope pos k acc Y.env) (kIn fi g t kk):=by
 intro pins P1 α1 acc env env' S S' ds ds' s hacc ⟨σ,H,P,α,o,st⟩ run;show Ap _ _ (zV B.m elt gens scope pos k (.ref acc) Y.env) _ _ s;unfold zV;rw[hgk];dsimp only;unfold kIn at run;cases q:fi env S with
 |bad=>rw[q] at run;cases run
 |ex c z S'=>rw[q] at run;cases run
 |ok p S1 =>
  rw[q,Res.bind_ok] at run;have fA:=hacc H st.acn;have I1:=_D.Inv.pin1 st.inv fA st.at' (B.cell st.acc);have key:=hi (pins++[(acc,o)]) s σ H (λJ H1=>∃ P' α',Rel Y.K H1 P' α' S1/\qF P P'/\α<+:α'/\ItD2 Y.K J P' α' p.1 p.2) I1 ⟨P,α,env,S,st.rel,st.env,by rw[q];exact λJ H' P' α' r' e1 e2 it=>⟨P',α',r',e1,e2,it⟩⟩
  rw[hx] at key;refine Ad (p7 key λv s1 h1=>Ad (Mj ?_));rw[hs];refine Ad (Am (Ad (Ej (p7 h1 λitv s2 h2=>?_))));obtain⟨it,fp,tn,J,H2,rfl,I2,T,st0,hf,P',α',r2,e1,e2,hit⟩:=h2;have a2:=_D.Inv.pinned1 I2;have hne:acc ∉ fp:=λhm=>(hf acc hm).2.2.2.2.2 (acc,o) (Bu _ (Bu _ (by simp))) rfl
  have loop:Iw (As Y.prog Y.w) Y.A (.compLoop (xN B.m elt gens scope pos) (k+1) (.ref it) (.ref acc) Y.env) (λr s'=>match r with
    |.ok f=>i6 B Y pins P1 α1 acc env' S' ds' s'
    |.error _=>Fv) s2:=by
   refine mD (pins:=pins) (fp:=fp) (P1:=P') (α1:=α') (σ:=σ) (H:=H2) (P:=P') (α:=α') (o:=o) hc hx hgk has T hit hg ht he hacc (λH hn b hb=>?_) hne
    ⟨I2.unpinned,r2,st.env.mono e1 e2,qF.refl _,Be _,λb hb=>(hf b hb).1,a2.2,a2.1,B.mono e1 e2 st.acc⟩ st0 run λs' σ' H' Pf αf o' T'=>?_
   .obtain⟨_,g1,g2,g3,g4,g5⟩:=ZI (hf b hb)
    exact⟨hn b hb,g1,g2,g3,g4,g5⟩
   .exact⟨σ',H',Pf,αf,o',T'.inv,T'.rel,T'.env,(st.same.trans e1).trans T'.same,(st.pre.trans e2).trans T'.pre,λb hb=>(by simp at hb),T'.acn,T'.at',T'.acc⟩
  refine Ad (wpAny_runOwn (Jm (pO hgk rfl loop (T.self Y.A 0 _ _ _ st0 loop)) λr s' h=>?_));cases r with
  |error x=>exact Aq h
  |ok f=>exact Am h
end
noncomputable def mkM (m:Ar)(r:Res (qB × Aa D)):Res D:=match r with
 |.ok p S2=>if m then .ok (.loc S2.length) (S2++[.lst p.2]) else .ok (.lst p.2) S2
 |_=>.bad
def zA (m:Ar)(cap:Aa (Al Ai))(fi:DI2)(g:DG)(t:DT)(k:DK):DE:=λenv S=>(fi env S).bind λp S1=>mkM m (goL p.1 g t k p.2 (x8 cap env) S1 [])
section
variable {X:Cx}{elt tg iter:By}{ifs:Aa By}{scope:Ey}{pos:Fc}{N':Aa Au}{cap:Aa (Al Ai)}{fi:DI2}{g:DG}{t:DT}{kk:DK}{rest:Aa DL}{mm:Ar}
theorem X9 {P:Hp}{r:Res (qB × Aa D)}{Ok:D->Sto->Prop}(h:qI X P α (mkM mm r) Ok):∃ envF ds SF,r=.ok (envF,ds) SF/\(if mm then Ok (.loc SF.length) (SF++[.lst ds]) else Ok (.lst ds) SF):=by
 cases r with
 |ok p S =>
  obtain⟨envF,ds⟩:=p;refine⟨envF,ds,S,rfl,?_⟩;cases mm <;> exact h
 |ex c x S=>exact Aq h
 |bad=>exact Aq h
theorem YJ {pins:Aa (Af × Cu)}{σ:_L.St}{P1:Hp}{α1:Aa Af}{acc C:Af}{s:Ag}{Q:VK}(c:kB X pins σ P1 α1 ds SF acc C s)(ok:if mm then OkV X P1 α1 Q (.loc SF.length) (SF++[.lst ds]) else OkV X P1 α1 Q (.lst ds) SF):EP X pins σ Q (.ref acc) s:=by
 cases mm with
 |false=>exact GB c ok
 |true =>
  obtain⟨H',P',α',vs,I,r,hn,e1,e2,rp,_⟩:=c;exact⟨.ref acc,_,I,rfl,nH r hn rp λv H2 P2 α2 r2 q1 q2 q3=>ok v H2 P2 α2 r2 (e1.trans q1) (e2.trans q2) q3⟩
theorem Z9 {M:Pj}{A:Bt}{E:Ac->Ag->Prop}{s:Ag}{globals:Af}{closure:Aa (Au × Af)}{qual:Au}{env:Kc}{Q:Kc->Ag->Prop}
  (hQ:Q (newEnv scope s.heap.objs.size globals (Hx (s.heap.objs.size+1) scope.names closure) qual none .none (Ab env) Pu) { s with heap:=Ys (s.heap.push { cls:=.type "dict",data:=.dict #[] }) scope.names }) :
  Ap M A (Vm scope globals closure [] qual none .none (Ab env)) Q E s:=by
 simp only[Vm,Xi,Ds];refine Ad (wpAny_alloc ?_);refine Ad (wpAny_layCells _ (λname kind cells=>by cases hkc:kind == Op <;> simp[hkc]) _ _ _ _ ?_)
 rw[show ({ s with heap:=s.heap.push { cls:=.type "dict",data:=.dict #[] } } : Ag).heap.objs.size=s.heap.objs.size+1 from Dt ..]
 refine Ad ?_;rw[Nq];exact Am (Am hQ)
theorem f7 {B:Acc}{o0:Cu}{pins:Aa (Af × Cu)}{σ:_L.St}{H2 P1:Hp}{α1:Aa Af}{s2:Ag}{S1:Sto}{items:Aa D}{it:Af}{fp:Aa Af}{tn:Ai->Bw->Prop}{J:It}{E:Ac->Ag->Prop}{RR:Ac->Af->Zh->Ag->Prop}
  (hc:X.calm=true) (S:CompSc X.env.scope X.N scope N' cap) (has:∀ g',(⟨tg,iter,ifs,0⟩::rest:Aa DL)[0+1]? = Ab g'->g'.is_async=0)
  (hg:∀ cl C ex s₀ H₀,PG (qW X N' scope cl C ex s₀ H₀) tg (tDG (qW X N' scope cl C ex s₀ H₀) g))
  (ht:∀ cl C ex s₀ H₀,PTs (qW X N' scope cl C ex s₀ H₀) ifs t) (he:∀ cl C ex s₀ H₀,PK B (qW X N' scope cl C ex s₀ H₀) (λacc=>zV B.m elt (⟨tg,iter,ifs,0⟩::rest) scope pos 0 acc (qW X N' scope cl C ex s₀ H₀).env) kk)
  (I2:Inv X pins σ H2 s2) (r:Rel X.K H2 P1 α1 S1) (re:zG X.K P1 α1 σ env) (T:Turn X.prog X.w X.K tg J fp it tn) (st0:tn 0 s2.heap) (hf:∀ b∈fp,xC X pins H2 b) (hit:ItD2 X.K J P1 α1 o' items) (run:goL o' g t kk items (x8 cap env) S1 [] = .ok (envF,ds) SF)
  (h0:B.O X.K P1 α1 [] o0) (hg0:o0.isFreed=false) (hRR:∀ acc C s',s2.heap.objs.size<=acc->(∃ m,s'.heap.Ns C m)->s2.heap.objs.size<=C->acc≠C->(∃ cl σ' H' P' α' o',TurnSt B (qW X N' scope cl C fp s2 H2) [] P1 α1 fp acc envF SF ds s' σ' H' P' α' o')->RR (.ref acc) C (.ok .next) s') :
  Ap (As X.prog X.w) X.A (Vm scope X.env.globals (yY X.env.cells scope.names []) [] X.env.qual none .none (Ab X.env)) (λcenv s₄ =>
   Iw (As X.prog X.w) X.A (.compStart (xN B.m elt (⟨tg,iter,ifs,0⟩::rest) scope pos) 0 (.ref it) (.ref s2.heap.objs.size) { cenv with scope:=relabel scope X.env }) (RR (.ref s2.heap.objs.size) cenv.locals) s₄) E { s2 with heap:=s2.heap.push o0 }:=by
 have hlt:∀ b∈fp,b<s2.heap.objs.size:=λb hb=>by
  obtain⟨o,e,_⟩:=T.obj 0 _ st0 b hb;exact Ba e
 refine Z9 ?_;dsimp only;generalize hH2:s2.heap.push o0=Hh;have hsz:Hh.objs.size=s2.heap.objs.size+1:=by rw[<- hH2,Dt]
 have hC:s2.heap.objs.size<=Hh.objs.size:=by rw[hsz];exact Mu _
 have hne:s2.heap.objs.size≠Hh.objs.size:=by rw[hsz];exact Cw (Jb _)
 have kp:∀ b o,Hh.get? b=Ab o->(Ys (Hh.push { cls:=.type "dict",data:=.dict #[] }) scope.names).get? b=Ab o:=λb o e=>u8 _ _ b o (Ah _ e);have hns₁:(Ys (Hh.push { cls:=.type "dict",data:=.dict #[] }) scope.names).Ns Hh.objs.size (λ_=>none):=(Heap.Ns.new Hh (.type "dict")).keeps (u8 _ _);have co:=cellsFrom_ok scope.names (Hh.push { cls:=.type "dict",data:=.dict #[] }) (Hh.objs.size+1) [] ⟨λ_ _ hm=>(nomatch hm),Nv⟩ (by rw[Dt];exact Av _)
 rw[Dt] at co;generalize hh₁:Ys (Hh.push { cls:=.type "dict",data:=.dict #[] }) scope.names=h₁ at kp hns₁ co ⊢;have keep:∀ b o,s2.heap.get? b=Ab o->h₁.get? b=Ab o:=λb o e=>kp b o (hH2▸Ah _ e);have hacc:h₁.get? s2.heap.objs.size=Ab o0:=kp _ _ (hH2▸Ay _ hg0);have I4:∀ tk,Inv (qW X N' scope (kZ X scope Hh.objs.size) Hh.objs.size fp s2 H2) [] (vA cap σ) H2 { s2 with heap:=h₁,toks:=tk }:=λtk =>
  WY (s4:={ s2 with heap:=h₁,toks:=tk }) S I2 hf hlt hC hns₁ rfl rfl keep co
 have loop:∀ tk,Iw (As X.prog X.w) X.A (.compLoop (xN B.m elt (⟨tg,iter,ifs,0⟩::rest) scope pos) 0 (.ref it) (.ref s2.heap.objs.size) (compEnvC scope (kZ X scope Hh.objs.size) Hh.objs.size X.env)) (RR (.ref s2.heap.objs.size) Hh.objs.size) { s2 with heap:=h₁,toks:=tk }:=λtk=>by
  refine mD (B:=B) (kk:=kk) (o':=o') (Y:=qW X N' scope (kZ X scope Hh.objs.size) Hh.objs.size fp s2 H2) (pins:=[]) (fp:=fp) (acc:=s2.heap.objs.size) (P1:=P1) (α1:=α1) (σ:=vA cap σ) (H:=H2) (P:=P1) (α:=α1) (o:=o0) hc rfl rfl has T hit
   (hg _ _ _ _ _) (ht _ _ _ _ _) (he _ _ _ _ _) (λH hn=>?_) (λH hn b hb=>?_) (λhm=>Ei _ (hlt _ hm)) ⟨I4 tk,r,W1 re cap,qF.refl _,Be _,λb hb=>(hf b hb).1,I2.hok.fresh (Av _),hacc,h0⟩ (T.keep _ _ _ st0 λb hb o e=>keep b o e) run λs' σ' H' P' α' o' st=>?_
  .refine⟨hn,hne,λhm=>?_,.inr (Av _),λx c h z=>?_,λp hp=>absurd (show p∈([]:Aa (Af × Cu)) from hp) (by simp)⟩
   .obtain⟨_,o,ho,_⟩:=I2.stack.mem hm
    exact Ei _ (Ba ho)
   .rcases xE S I2.ok h with⟨m,_⟩|⟨m,_⟩
    .exact Ei _ (Nh hC (z▸(co.empty x c m).2))
    .obtain⟨v,ob,hob,_⟩:=I2.cell x c m
     rw[z] at hob;exact Ei _ (Ba hob)
  .obtain⟨_,h1,h2,h3,h4,h5⟩:=hf b hb
   refine⟨hn b hb,Cw (Bh (hlt b hb) hC),λhm=>?_,.inl hb,λx c h=>(by
    rcases xE S I2.ok h with⟨m,_⟩|⟨m,_⟩
    .exact Fb (Cw (Io (Bh (hlt b hb) hC) (co.empty x c m).2))
    .exact h4 x c m),λp hp=>absurd (show p∈([]:Aa (Af × Cu)) from hp) (by simp)⟩
   rcases Az.mp (I2.stkSub b hm) with z|z
   .exact h1 z
   .exact h2 z
  .obtain⟨m,hm,_⟩:=st.inv.loc
   exact hRR _ _ s' (Av _) ⟨m,hm⟩ hC hne ⟨_,_,_,_,_,_,st⟩
 exact pO (k:=0) rfl rfl (loop _) (T.self X.A 0 _ _ _ (T.keep _ _ _ st0 λb hb o e=>keep b o e) (loop _))
theorem Y6 (hc:X.calm=true)(S:CompSc X.env.scope X.N scope N' cap)(hi:PI X tg iter (tDI2 X fi))
  (hg:∀ cl C ex s₀ H₀,PG (qW X N' scope cl C ex s₀ H₀) tg (tDG (qW X N' scope cl C ex s₀ H₀) g))
  (ht:∀ cl C ex s₀ H₀,PTs (qW X N' scope cl C ex s₀ H₀) ifs t) (has:∀ g',(⟨tg,iter,ifs,0⟩::rest:Aa DL)[0+1]? = Ab g'->g'.is_async=0) (he:∀ cl C ex s₀ H₀,PK accL (qW X N' scope cl C ex s₀ H₀) (λacc=>zV false elt (⟨tg,iter,ifs,0⟩::rest) scope pos 0 acc (qW X N' scope cl C ex s₀ H₀).env) kk)
  (hs:∀ x,Ev iter X.env x=pure x:=by intro _;rfl):PE X (.ListComp elt (⟨tg,iter,ifs,0⟩::rest) scope pos) (tD X (zA mm cap fi g t kk)):=by
 intro pins s σ H Q I h;obtain⟨P,α,env,S0,r,re,af⟩:=h;rw[eval_ListComp];have af':qI X P α ((fi env S0).bind λp S1=>mkM mm (goL p.1 g t kk p.2 (x8 cap env) S1 [])) (OkV X P α Q):=af;refine Sl (use:=none) rfl hs (cF S I.ok) S.kind S.names ?_;refine thn (hi pins s σ H (λJ H1=>∃ (P1:Hp) (α1:Aa Af) (p:Al (Ai × MO) × Aa _D.D) (S1:Sto),Rel X.K H1 P1 α1 S1/\qF P P1/\α<+:α1/\ItD2 X.K J P1 α1 p.1 p.2/\qI X P α (mkM mm (goL p.1 g t kk p.2 (x8 cap env) S1 [])) (OkV X P α Q)) I ⟨P,α,env,S0,r,re,?_⟩) λxv s1 h1=>thn h1 λitv s2 h2=>?_
 .cases q:fi env S0 with
  |bad=>rw[q] at af';exact af'
  |ex c x S'=>rw[q] at af';exact af'
  |ok p S1=>rw[q] at af';exact λJ H1 P1 α1 r1 e1 e2 it=>⟨P1,α1,p,S1,r1,e1,e2,it,af'⟩
 obtain⟨it,fp,tn,J,H2,rfl,I2,T,st0,hf,P1,α1,p,S1,r1,e1,e2,hit,af1⟩:=h2;obtain⟨envF,ds,SF,run,ok⟩:=X9 af1;refine Ee (f7 (B:=accL) (o0:={ cls:=.type "list",dict:=none,data:=.seq ([] : Aa Ac).toArray }) (RR:=λacc C=>compPost (As X.prog X.w) X.A X.xe none (EP X pins σ Q) acc C) hc S has hg ht he I2 r1 (re.mono e1 e2) T st0 hf hit run ⟨[],0,[],rfl,.nil,.nil,Fh _⟩ rfl ?_);intro acc C s' hA ⟨m,hm⟩ hC hne ⟨cl,σf,Hf,Pf,αf,of,stf⟩;have fin:∀ h',Ez C s'.heap h'->kB X pins σ P1 α1 ds SF acc C { s' with heap:=h' }:=λh' sb=>sV I2 hf rfl hC hA hne stf sb
 refine⟨m,hm,λh' sb=>YJ (mm:=mm) (fin h' sb) ?_⟩;cases mm with
 |false=>exact λv H3 P3 α3 r3 q1 q2 q3=>ok v H3 P3 α3 r3 (e1.trans q1) (e2.trans q2) q3
 |true=>exact λv H3 P3 α3 r3 q1 q2 q3=>ok v H3 P3 α3 r3 (e1.trans q1) (e2.trans q2) q3
theorem YE {i:Ai}{y:Au}{py spos:Fc}(hc:X.calm=true)(hN:X.N.Nodup)(S:CompSc X.env.scope X.N scope N' cap)(hi:PI X tg iter (tDI2 X fi))
  (hg:∀ cl C ex s₀ H₀,PG (qW X N' scope cl C ex s₀ H₀) tg (tDG (qW X N' scope cl C ex s₀ H₀) g))
  (ht:∀ cl C ex s₀ H₀,PTs (qW X N' scope cl C ex s₀ H₀) ifs t) (has:∀ g',(⟨tg,iter,ifs,0⟩::rest:Aa DL)[0+1]? = Ab g'->g'.is_async=0) (he:∀ cl C ex s₀ H₀,PK accL (qW X N' scope cl C ex s₀ H₀) (λacc=>zV false elt (⟨tg,iter,ifs,0⟩::rest) scope pos 0 acc (qW X N' scope cl C ex s₀ H₀).env) kk)
  (hy:X.N[i]? = Ab y:=by rfl) (hyl:Loc X.env.scope y:=by first|exact Zl rfl|exact Xa rfl) (hf:X.fn y=true\/X.env.scope.names.lookup y=Ab .local:=by first|exact .inl rfl|exact .inr rfl|assumption)
  (hsw:Nw (.ListComp elt (⟨tg,iter,ifs,0⟩::rest) scope pos) (Ab (.Name y py)) spos.line X.env=pure true:=by rfl)
  (hs:∀ x,Ev iter X.env x=pure x:=by intro _;rfl):PS X (.Assign [.Name y py] (.ListComp elt (⟨tg,iter,ifs,0⟩::rest) scope pos) spos) (tDS X (z0 (zA mm cap fi g t kk) (gNm i))):=by
 intro pins s σ H D I h;obtain⟨P,α,env,S0,r,re,af⟩:=h;have af0:=xH af;have af':qI X P α ((fi env S0).bind λp S1=>mkM mm (goL p.1 g t kk p.2 (x8 cap env) S1 [])) (λd S=>z9 X P α (.nx (env.set i (Ab d)) S) D):=af0;rw[exec_Assign_Name_used _ _ _ _ hsw];refine Ad (Mj (Ad ?_));show Ap _ X.A (do let _ <- comprehension (.ListComp elt (⟨tg,iter,ifs,0⟩::rest) scope pos) scope X.env _ (newList []) false (eval iter X.env) (Ab (assign (.Name y py) X.env))) _ _ s
 refine Ad (Hq (Sl (use:=Ab (assign (.Name y py) X.env)) (Q:=λ_ s'=>SP X pins D .next s') rfl hs (cF S I.ok) S.kind S.names ?_) (λ_ s' hq=>Am (Am hq)) λ_ _ e=>e);refine thn (hi pins s σ H (λJ H1=>∃ (P1:Hp) (α1:Aa Af) (p:Al (Ai × MO) × Aa _D.D) (S1:Sto),Rel X.K H1 P1 α1 S1/\qF P P1/\α<+:α1/\ItD2 X.K J P1 α1 p.1 p.2/\qI X P α (mkM mm (goL p.1 g t kk p.2 (x8 cap env) S1 [])) (λd S=>z9 X P α (.nx (env.set i (Ab d)) S) D)) I ⟨P,α,env,S0,r,re,?_⟩) λxv s1 h1=>thn h1 λitv s2 h2=>?_
 .cases q:fi env S0 with
  |bad=>rw[q] at af';exact af'
  |ex c x S'=>rw[q] at af';exact af'
  |ok p S1=>rw[q] at af';exact λJ H1 P1 α1 r1 e1 e2 it=>⟨P1,α1,p,S1,r1,e1,e2,it,af'⟩
 obtain⟨it,fp,tn,J,H2,rfl,I2,T,st0,hfp,P1,α1,p,S1,r1,e1,e2,hit,af1⟩:=h2;obtain⟨envF,ds,SF,run,ok⟩:=X9 af1;refine Ee (f7 (B:=accL) (o0:={ cls:=.type "list",dict:=none,data:=.seq ([] : Aa Ac).toArray }) (RR:=λacc C=>compPost (As X.prog X.w) X.A X.xe (Ab (assign (.Name y py) X.env)) (λ_ s'=>SP X pins D .next s') acc C) hc S has hg ht he I2 r1 (re.mono e1 e2) T st0 hfp hit run ⟨[],0,[],rfl,.nil,.nil,Fh _⟩ rfl ?_);intro acc C s' hA ⟨m,hm⟩ hC hne ⟨cl,σf,Hf,Pf,αf,of,stf⟩;have fin:∀ h',Ez C s'.heap h'->kB X pins σ P1 α1 ds SF acc C { s' with heap:=h' }:=λh' sb=>sV I2 hfp rfl hC hA hne stf sb
 show Ap _ X.A (assign (.Name y py) X.env (.ref acc)) _ _ s';obtain⟨H3,P3,α3,vs,I3,r3,hn3,q1,q2,rp,hCn⟩:=fin s'.heap (Ry _ _);obtain⟨r4,e4⟩:=r3.pure (o:=.lst vs) hn3;have hCn':(upd H3 acc (.lst vs)) C=none:=by rw[qP (Fb hne)];exact hCn
 have fC:=I2.fpOk hC hCn';refine Yg (d7 I3 hN hy hyl (show qG (V.ref acc) (Dh acc) from rfl) (λs5 I5 ⟨a,sb,ha⟩=>?_) hf)
 have hCa:C≠a:=by
  rcases ha with rfl|ha
  .exact fC.2.1
  .exact λz=>fC.2.2.2.2.1 _ _ ha z.symm
 refine⟨m,hm.sameBut sb hCa,λh' sb'=>?_⟩;have I6:Inv X pins (σ.set i (Ab (V.ref acc))) (upd H3 acc (.lst vs)) { s5 with heap:=h' }:=I5.turned (t':=s5.toks) (λb o hb e=>(sb'.2 b hb).trans e) hCn' fC.2.1 fC.2.2.2.1 fC.2.2.2.2.1 fC.2.2.2.2.2
 cases mm with
 |false =>
  refine⟨_,_,I6,ok _ _ (upd P3 acc (.lst vs)) α3 r4 ?_ ((e1.trans q1).trans e4) (e2.trans q2)⟩;exact((re.mono e1 e2).mono (q1.trans e4) q2).set i (nP (.inl (.inl zD)) (qC.mono e4 (Be _) _ _ rp))
 |true =>
  have hpre:α3<+:α3++[acc]:=Ng _ _;have r5:=r3.new (o:=.lst vs) (m:=.lst ds) hn3 ⟨vs,zD,qC.mono (qF.refl _) hpre _ _ rp⟩;refine⟨_,_,I6,ok _ _ P3 (α3++[acc]) r5 ?_ (e1.trans q1) ((e2.trans q2).trans hpre)⟩;refine((re.mono e1 e2).mono q1 (q2.trans hpre)).set i ?_;simp only[Rep];exact⟨acc,rfl,by rw[<- r3.len];simp⟩
end
section
variable {prog:Bg}{w:Ca}{A:Bt}{E:Ac->Ag->Prop}{s:Ag}
theorem Z8 {e it l:Af}{i:Ai}{x old:Ac}(he:Uz s.heap e it i old)(hit:zJ tp s.heap it l i)(hl:xR tp s.heap l xs)(hx:xs[i]? = Ab x)(ne:e≠it)
  (hQ:∀ g,IsEnumOut g e it ((i:An)+1) x s.heap.objs.size->zJ tp g it l (i+1)->Jj g s.heap.objs.size (.int i s.toks) x->g.objs.size=s.heap.objs.size+1->(∀ b o,b≠e->b≠it->s.heap.get? b=Ab o->g.get? b=Ab o)->Q (.ref s.heap.objs.size) { s with heap:=g,toks:=s.toks+1 }) :
  Ap (As prog w) A (Ih.«enumerate.__next__» ⟨[.ref e],[]⟩) (λfin s'=>∃ v,fin=.done (.ret v)/\Q v s') E s:=by
 obtain⟨hp,gn,dr,tk,os⟩:=s;show Ap _ _ (field (.ref e) 2 >>= _) _ _ _;refine Ad (El he rfl (x:=.ref it) rfl (Ad (gS hit hl hx λg1 i1 s1=>?_)))
 replace s1:Ez it hp g1:=s1
 have e1:Uz g1 e it i old:=(s1.2 e ne).trans he;show Ap _ _ (field (.ref e) 3 >>= _) _ _ ⟨g1,gn,dr,tk,os⟩;refine Ad (El e1 rfl (x:=Ol i) rfl ?_);show Ap _ _ (field (.ref e) 4 >>= _) _ _ ⟨g1,gn,dr,tk,os⟩;refine Ad (El e1 rfl (x:=.none) rfl ?_);show Ap _ _ (mkInt i >>= _) _ _ ⟨g1,gn,dr,tk,os⟩;refine Ad (wpAny_mkInt ?_);show Ap _ _ (setField (.ref e) 3 (Ol ((i:An)+1)) >>= _) _ _ ⟨g1,gn,dr,tk+1,os⟩;refine Ad (EQ e1 (by simp) λg2 e2 s2=>?_)
 replace s2:Ez e g1 g2:=s2
 replace e2:Uz g2 e it ((i:An)+1) old:=e2
 show Ap _ _ (setField (.ref e) 4 .none >>= _) _ _ ⟨g2,gn,dr,tk+1,os⟩;refine Ad (EQ e2 (by simp) λg3 e3 s3=>?_)
 replace s3:Ez e g2 g3:=s3
 replace e3:Uz g3 e it ((i:An)+1) old:=e3
 show Ap _ _ (newTuple [.int i tk,x] >>= _) _ _ ⟨g3,gn,dr,tk+1,os⟩;refine Ad (Vk ?_);have e4:Uz (g3.push { cls:=.type "tuple",data:=.seq #[.int i tk,x] }) e it ((i:An)+1) old:=Ah _ e3;generalize q4:g3.push { cls:=.type "tuple",data:=.seq #[.int i tk,x] } = g4 at e4;have sz:g3.objs.size=hp.objs.size:=by rw[s3.1,s2.1,s1.1]
 have el:e<hp.objs.size:=Ba he;have t4:Jj g4 hp.objs.size (.int i tk) x:=by rw[<- q4,<- sz];exact Ay _ rfl
 have z4:g4.objs.size=hp.objs.size+1:=by rw[<- q4,Dt,sz]
 have k4:∀ b o,b≠e->b≠it->hp.get? b=Ab o->g4.get? b=Ab o:=λb o b1 b2 q=>by
  rw[<- q4];exact Ah _ (s3.extBut b o b1 (s2.extBut b o b1 (s1.extBut b o b2 q)))
 have i4:zJ tp g4 it l (i+1):=i1.keep λo q=>by rw[<- q4];exact Ah _ (s3.extBut _ o ne.symm (s2.extBut _ o ne.symm q))
 show Ap _ _ (Er (.ref e) >>= _) _ _ ⟨g4,gn,dr,tk+1,os⟩;rw[sz];refine Ad ?_;unfold Er;refine Ad (El e4 rfl (x:=.none) rfl (Am ?_));simp only[Ds];refine Ad (Go (Ad (El e4 rfl (x:=old) rfl (Ad (EQ e4 (by simp) λg5 e5 s5=>?_)))))
 replace s5:Ez e g4 g5:=s5
 replace e5:Uz g5 e it ((i:An)+1) x:=e5
 show Ap _ _ (Gx (.ref e) (.ref hp.objs.size) >>= _) _ _ ⟨g5,gn,dr,tk+1,os⟩;refine Ad ?_;unfold Gx;refine Ad (EQ e5 (by simp) λg6 e6 s6=>?_)
 replace s6:Ez e g5 g6:=s6
 replace e6:IsEnumOut g6 e it ((i:An)+1) x hp.objs.size:=e6
 refine EQ e6 (by simp) λg7 e7 s7=>?_
 replace s7:Ez e g6 g7:=s7
 replace e7:IsEnumOut g7 e it ((i:An)+1) x hp.objs.size:=e7
 have up:∀ b o,b≠e->g4.get? b=Ab o->g7.get? b=Ab o:=λb o b1 q=>s7.extBut b o b1 (s6.extBut b o b1 (s5.extBut b o b1 q));exact Ad (Lr (Am ⟨_,rfl,hQ g7 e7 (i4.keep λo q=>up _ o ne.symm q) (up _ _ (Gf el) t4) (by rw[s7.1,s6.1,s5.1,z4]) λb o b1 b2 q=>up b o b1 (k4 b o b1 b2 q)⟩))
set_option maxHeartbeats 4000000 in
set_option tactic.hygienic true in
theorem YM (tp:Ar)(l:Af)(xs:Ax Ac) :
  Meets (Ih.«enumerate.__new__» ⟨[.type "enumerate",.ref l],[]⟩) (λ_ R s=>(∃ n dct sl,s.heap.get? l=Ab { cls:=.type (if tp then "tuple" else "list"),dict:=dct,data:=.seq xs n,slots:=sl }) /\ R (.ok (.ret (.ref (s.heap.push (vK tp l)).objs.size))) { s with heap:=(s.heap.push (vK tp l)).push { cls:=.type "enumerate",data:=.fields #[.none,.bool false,.ref s.heap.objs.size,Ol 0,.none,.none] } }):=
 .of_wp λprog w A R s h=>by
  obtain⟨hp,gn,dr,tk,os⟩:=s;obtain⟨⟨n,dct,sl,hl⟩,h⟩:=h;have hsub:=sub_enumerate;cases tp
  .have L1:Zm (Oq ⟨hp,gn,dr,tk,os⟩) l xs:=⟨_,hl,rfl,n,rfl⟩
   wp_walk using Gz hl
   refine v4 λst=>Am ?_
   split
   .rename_i c _ _ _ _ _
    cases (c == Iq "enumerate") <;> (wp_walk using Gz hl,Fz L1;exact⟨_,rfl,h⟩)
   .wp_walk using Gz hl,Fz L1;exact⟨_,rfl,h⟩
  .have L1:Xz (Oq ⟨hp,gn,dr,tk,os⟩) l xs:=⟨_,hl,rfl,n,rfl⟩
   wp_walk using Gz hl
   refine v4 λst=>Am ?_
   split
   .rename_i c _ _ _ _ _
    cases (c == Iq "enumerate") <;> (wp_walk using Gz hl,Ha L1;exact⟨_,rfl,h⟩)
   .wp_walk using Gz hl,Ha L1;exact⟨_,rfl,h⟩
theorem QL {tp:Ar}{l:Af}{xs:Ax Ac}{Q:Ac->Ag->Prop}(hl:∃ n dct sl,s.heap.get? l=Ab { cls:=.type (if tp then "tuple" else "list"),dict:=dct,data:=.seq xs n,slots:=sl })
  (h:∀ g,Uz g (s.heap.objs.size+1) s.heap.objs.size 0 .none->zJ tp g s.heap.objs.size l 0->(∀ b o,s.heap.get? b=Ab o->g.get? b=Ab o)->Q (.ref (s.heap.objs.size+1)) { s with heap:=g }) :
  Ap (As prog w) A (call (.type "enumerate") [.ref l]) Q E s:=by
 refine callType_new F.called_enumerate (by decide) (F.typeCall_enumerate_1 _) (F.newCall_enumerate_1 _) (λobj=>F.args_object_init_2 obj _) F.entry_enumerate_new (YM tp l xs) ⟨hl,?_⟩
 have hz:(s.heap.push (vK tp l)).objs.size=s.heap.objs.size+1:=Dt ..;show _/\_;have he:((s.heap.push (vK tp l)).push { cls:=.type "enumerate",data:=.fields #[.none,.bool false,.ref s.heap.objs.size,Ol 0,.none,.none] }).get? (s.heap.push (vK tp l)).objs.size=Ab _:=Ay _ rfl;rw[hz] at he ⊢;exact⟨⟨_,he,rfl⟩,h _ he (gM (Ah _ (Ay _ rfl))) λb o x=>Ah _ (Ah _ x)⟩
end
noncomputable def Ite (tp:Ar)(K:Aj)(a:Af):It:=
  ⟨λi H=>∃ xs x,Sq tp K H a xs/\xs[i]? = Ab x,
   λi H v H'=>∃ T x,v=.ref T/\H T=none/\H'=upd H T (.tup [.int i,x])/\∀ xs,Sq tp K H a xs->xs[i]? = Ab x,
   λi H=>∃ xs,Sq tp K H a xs/\xs.length<=i⟩
def Q8 (tp:Ar)(e it l:Af)(k:Ai)(h:Bw):Prop:=∃ old,Uz h e it k old/\zJ tp h it l k
theorem W8 {P:Bg}{w:Ca}{K:Aj}{elts:Aa By}{x1:Ai}{tpos:Fc}{e it a:Af}(ne:e≠it):Turn P w K (.Tuple elts x1 tpos) (Ite tp K a) [e,it] e (Q8 tp e it a) where
 mem:=by simp
 obj:=λk h st c hc=>by
  obtain⟨old,s1,s2⟩:=st;simp only[Az,Dm,Hd] at hc;rcases hc with rfl|rfl
  .exact⟨_,s1,λv y=>by cases y⟩
  .exact s2.there
 keep:=λk h h' st kp=>by
  obtain⟨old,s1,s2⟩:=st;exact⟨old,kp e (by simp) _ s1,s2.keep λo q=>kp it (by simp) o q⟩
 item:=by
  intro X hP hw hK hc k pins s σ H E Iv hf st hg;subst hP hw hK;obtain⟨old,s1,s2⟩:=st;obtain⟨xs,x,qa,hx⟩:=hg;obtain⟨ia,ra,ha⟩:=qa.at Iv;obtain⟨u,hu,ru⟩:=ra.get hx;have hT:s.TypeIs (.ref e) "enumerate":=⟨_,s1,rfl⟩;unfold No;refine Ad (Ld (Eg (name:=Gg "__next__") hT Ls (Em Ls hT Ud
   (Z8 s1 s2 ha (by simpa using hu) ne λh' a1 a2 a3 a4 a5=>Am ?_) (Tn _))))
  refine⟨_,rfl,wpAny_letOwnedTupleGo_enum (s:={ s with heap:=h',toks:=s.toks+1 }) a1 λh2 b1 b2=>?_⟩
  have up:∀ c o,c≠e->h'.get? c=Ab o->h2.get? c=Ab o:=λc o n q=>(b2.2 c n).trans q;have el:e<s.heap.objs.size:=Ba s1;have T2:Jj h2 s.heap.objs.size (.int k s.toks) u:=up _ _ (Gf el) a3;have st2:Q8 tp e it a (k+1) h2:=⟨u,b1,a2.keep λo q=>up _ o ne.symm q⟩;refine⟨.ref s.heap.objs.size,upd H s.heap.objs.size (.tup [.int k,x]),?_,rfl,⟨_,x,rfl,Iv.hok.fresh (Av _),rfl,λzs qz=>by rw[qz.inj Iv qa];exact hx⟩,st2,λc hc=>?_⟩
  .have:=Inv.turnLay (fp:=[e,it]) (its:=[.int k s.toks,u]) (h':=h2) (xs:=[.int k,x]) Iv hf (λc o hc q=>by
    simp only[Az,Dm,Hd,Uy] at hc;exact up c o hc.1 (a5 c o hc.1 hc.2 q)) (λc hc=>by
    obtain⟨old',t1,t2⟩:=st2;simp only[Az,Dm,Hd] at hc;rcases hc with rfl|rfl
    .exact⟨_,t1⟩
    .obtain⟨o,q,_⟩:=t2.there;exact⟨o,q⟩) (Av _) (.cons ⟨_,rfl⟩ (.cons ru .nil)) ⟨_,T2,rfl,_,rfl⟩ (by show 2<=sizeLine;decide)
   exact this.tok (s.toks+1)
  .have hn:=(hf c hc).1
   rw[qP ?_]
   .exact hn
   .rintro rfl
    obtain⟨o,q,_⟩:∃ o,s.heap.get? s.heap.objs.size=Ab o/\Pc:=by
     simp only[Az,Dm,Hd] at hc;rcases hc with z|z
     .exact⟨_,z▸s1,trivial⟩
     .obtain⟨o,e',_⟩:=s2.there;exact⟨o,z▸e',trivial⟩
    exact absurd (Ba q) (Ei _)
 done:=by
  intro X hP hw hK hc k pins s σ H E Iv hf st hg;subst hP hw hK;obtain⟨old,s1,s2⟩:=st;obtain⟨xs,qa,hend⟩:=hg;obtain⟨ia,ra,ha⟩:=qa.at Iv;have hT:s.TypeIs (.ref e) "enumerate":=⟨_,s1,rfl⟩;have l1:=ra.length;unfold No;refine Ad (Ld (Eg (name:=Gg "__next__") hT Ls (Em Ls hT Ud ?_ (Tn _))));show Ap _ _ (field (.ref e) 2 >>= _) _ _ _;refine Ad (El s1 rfl (x:=.ref it) rfl (Ad (jB (Iv.ok.hd hc) s2 ha (by simp;omega) λh' x kp hx'=>?_)))
  obtain⟨o,ho,hcl⟩:=hx';refine Ad (Os (T:="StopIteration") (b:=true) ⟨o,ho,hcl⟩ Vl (Am ⟨rfl,Inv.turnL (fp:=[e,it]) Iv hf λc o hc q=>?_⟩));simp only[Az,Dm,Hd,Uy] at hc;exact kp c o hc.2 q
 self:=λ_ _ _ _ _ st h=>by
  obtain⟨old,s1,_⟩:=st;exact Yt s1 h
noncomputable def yH (xs:Aa D):Aa D:=xs.mapIdx λi x=>D.tup [.int i,x]
noncomputable def JC (ds:Aa D):Al (Aa D):=match ds with
 |[.tup xs]=>Ab (yH xs)
 |[.lst xs]=>Ab (yH xs)
 |_=>none
noncomputable def dN (f:DA):DI:=λenv S=>(f env S).bind λds S1=>yO (JC ds) S1
theorem Z7 (xs:Aa D)(i:Ai):(yH xs)[i]? = (xs[i]?).map λx=>D.tup [.int i,x]:=by
 unfold yH;rw[List.getElem?_mapIdx]
theorem pS (xs:Aa D):(yH xs).length=xs.length:=by simp[yH]
theorem V6 {K:Aj}{P:Hp}{a:Af}{xs:Aa D}(qa:Sq tp K P a vs)(ta:qC K P α xs vs):ItD K (Ite tp K a) P α (yH xs) where
 go:=λi H P1 α1 S hi r e _=>by
  rw[pS] at hi;have h1:i<vs.length:=by rw[<- ta.length];omega
  exact⟨vs,vs[i],qa.mono (e.trans r.sub),by simp⟩
 yld:=λi H x H' P1 α1 S hi r e e2 y=>by
  obtain⟨T,u,rfl,hT,rfl,hu⟩:=y;rw[pS] at hi;obtain⟨v1,z1,p1⟩:=ta.get (Ao hi);have eu:=hu vs (qa.mono (e.trans r.sub));rw[z1] at eu;cases eu;obtain⟨r1,s1⟩:=r.pure (o:=.tup [.int i,u]) hT;refine⟨_,.tup [.int i,xs[i]],?_,r1,s1,?_⟩
  .rw[Z7,Ao hi];rfl
  .exact bU (.of zD) (.cons (by simp only[Rep]) (.cons (Rep.mono (e.trans s1) e2 _ _ p1) .nil))
 stop:=λi H P1 α1 S hi r e _=>by
  rw[pS] at hi;have l1:=ta.length;exact⟨vs,qa.mono (e.trans r.sub),by omega⟩
section
variable {X:Cx}{e1:By}{elts:Aa By}{x1:Ai}{tpos:Fc}{f:DA}{p pos:Fc}
theorem Sq.obj {pins:Aa (Af × Cu)}{σ:_L.St}{H:Hp}{s:Ag}{a:Af}{xs:Aa V}(I:Inv X pins σ H s)(q:Sq tp X.K H a xs):∃ its:Aa Ac,qJ xs its/\∃ n dct sl,s.heap.get? a=Ab { cls:=.type (if tp then "tuple" else "list"),dict:=dct,data:=.seq its.toArray n,slots:=sl }:=by
 obtain⟨its,rv,h⟩:=q.at I;refine⟨its,rv,?_⟩;cases tp with
 |true =>
  obtain⟨o,ho,hc,n,hd⟩:=h;obtain⟨c,d,dt,sl⟩:=o;dsimp only at hc hd;subst hc;subst hd;exact⟨n,_,_,ho⟩
 |false =>
  obtain⟨o,ho,hc,n,hd⟩:=h;obtain⟨c,d,dt,sl⟩:=o;dsimp only at hc hd;subst hc;subst hd;exact⟨n,_,_,ho⟩
theorem cJ {pins:Aa (Af × Cu)}{σ:_L.St}{H P:Hp}{s:Ag}{a:Af}{xs:Aa D}(I:Inv X pins σ H s)(r:Rel X.K H P α S)(qa:Sq tp X.K P a vs)(ta:qC X.K P α xs vs)
  (q:OkI X P α R (yH xs) S):Ap (As X.prog X.w) X.A (call (.type "enumerate") [.ref a]) (λv s1=>Ap (As X.prog X.w) X.A (Oh v) (PIE X pins σ (.Tuple elts x1 tpos) R) X.xe s1) X.xe s:=by
 obtain⟨ia,ra,ha⟩:=Sq.obj I (qa.mono r.sub);refine QL (tp:=tp) ha λh' z1 z2 z7=>?_;refine Yt (s:={ s with heap:=h' }) z1 ?_
 refine⟨_,[s.heap.objs.size+1,s.heap.objs.size],_,_,H,rfl,I.kept (t':=s.toks) z7,W8 (tp:=tp) (a:=a) (by intro z;simp at z),⟨_,z1,z2⟩,λc hc=>?_,q _ _ P α r (qF.refl _) (Be _) (V6 qa ta)⟩
 have hl:s.heap.objs.size<=c:=by
  simp only[Az,Dm,Hd] at hc;rcases hc with rfl|rfl <;> simp
 exact I.fpOk hl (I.hok.fresh hl)
theorem tK:Ge "enumerate" = Ab (.type "enumerate"):=by decide +kernel
theorem YL (h:JC ds=Ab its):∃ d xs,ds=[d]/\ItV d xs/\its=yH xs:=by
 cases ds with
 |nil=>exact nn h
 |cons d ds =>
  cases ds with
  |cons _ _=>cases d <;> exact nn h
  |nil =>
   cases d with
   |tup xs=>exact⟨_,xs,rfl,.tup rfl,(Dd h).symm⟩
   |lst xs=>exact⟨_,xs,rfl,.lst rfl,(Dd h).symm⟩
   |_=>exact nn h
theorem KQ (hg:Gl X "enumerate")(hm:X.mg "enumerate" = none)(ha:PA X [e1] (tDA X f))(hs:Bo [e1] X.env=(false,eval e1 X.env)::Bo [] X.env:=by rfl)(hpl:(Gw pos (Bo [] X.env)).any (·.1)=false:=by rfl) :
  PI X (.Tuple elts x1 tpos) (.Call (.Name "enumerate" p) [e1] [] pos) (tDI X (dN f)):=by
 intro pins s σ H R I h;obtain⟨P,α,env,S,r,re,af⟩:=h;refine Call_ (v7 I hg hm tK (Hk (thn (wL ha I r re af pos) λus s1 ⟨vs,H1,P1,α1,ds,S1,I1,rv,r1,re1,rp,e1,e2,af1⟩=>?_) hs hpl));obtain⟨its,hi,q⟩:=vE af1;obtain⟨d,xs,rfl,hd,rfl⟩:=YL hi;obtain⟨v,u,rfl,rfl,p1,q1⟩:=uF rp rv;cases hd with
 |tup ed =>
  subst ed;simp only[Rep] at p1;obtain⟨a,va,rfl,qa,ta⟩:=p1;cases (show u=Dh a from q1)
  exact cJ (tp:=true) I1 r1 qa ta (q.base e1 e2)
 |lst ed =>
  subst ed;simp only[Rep] at p1;obtain⟨a,va,rfl,qa,ta⟩:=p1;cases (show u=Dh a from q1)
  exact cJ (tp:=false) I1 r1 qa.l ta (q.base e1 e2)
end
section
variable {X:Cx}
noncomputable def wA:D->Aa D->Sto->Res D:=λa ds S=>match a,ds with
 |.loc n,[i,x]=>match S[n]? with
  |some (.dct kvs)=>match yC i with
   |some k=>match zZ kvs k with
    |some d=>.ok d S
    |none=>if kvs.length<lim then .ok x (S.set n (.dct (w6 kvs k x))) else .bad
   |none=>.bad
  |_=>.bad
 |_,_=>.bad
theorem bX (a b c:Ac):Va "dict.setdefault" ⟨[a,b,c],[]⟩:=by unfold Va;kernel_rfl
inductive SdV (a:D)(ds:Aa D)(S:Sto):Prop
 |bad (e:wA a ds S=.bad)
 |of (n:Ai) (i x:D) (kvs:Aa (Key × D)) (k:Key) (ea:a=.loc n) (ed:ds=[i,x]) (hS:S[n]? = Ab (.dct kvs)) (hk:yC i=Ab k) (e:wA a ds S=(match zZ kvs k with|some d=>.ok d S|none=>if kvs.length<lim then .ok x (S.set n (.dct (w6 kvs k x))) else .bad))
theorem sdV (a:D)(ds:Aa D)(S:Sto):SdV a ds S:=by
 cases a with
 |loc n =>
  cases ds with
  |nil=>exact .bad rfl
  |cons i ds =>
   cases ds with
   |nil=>exact .bad rfl
   |cons x ds =>
    cases ds with
    |cons _ _=>exact .bad rfl
    |nil =>
     have z:wA (.loc n) [i,x] S=(match S[n]? with|some (.dct kvs)=>(match yC i with|some k=>(match zZ kvs k with|some d=>.ok d S|none=>if kvs.length<lim then .ok x (S.set n (.dct (w6 kvs k x))) else .bad)|none=>.bad)|_=>.bad):=rfl
     cases hS:S[n]? with
     |none=>rw[hS] at z;exact .bad z
     |some m =>
      rw[hS] at z;cases m with
      |dct kvs =>
       cases hk:yC i with
       |none=>rw[hk] at z;exact .bad z
       |some k=>rw[hk] at z;exact .of n i x kvs k rfl rfl hS hk z
      |_=>exact .bad z
 |_=>exact .bad rfl
theorem X7:MtD X "dict.setdefault" wA:=by
 intro pins σ H s P α S v vv vs us a ds Q I r rv p rvs rps af;cases sdV a ds S with
 |bad e=>rw[e] at af;exact Aq af
 |of n i x kvs k ea ed hS hk e =>
  rw[e] at af;subst ea ed;clear e;obtain⟨vi,vx,ui,ux,rfl,rfl,pi,px,qi,qx⟩:=sC rps rvs;simp only[Rep] at p;obtain⟨b,rfl,q⟩:=p;obtain⟨ws,z,t⟩:=r.at' n b _ q hS;cases mQ hk pi;cases (show vv=Dh b from rv)
  obtain⟨hz,hd,us',rel,dd⟩:=dP I.hok z;have hz':us'.length<=sizeLine:=by rw[<- rel.length];exact hz
  obtain⟨k1,k2⟩:=bN (k:=k) t;have er:=rel.val k;refine XV Px dd.typeIs PySem.F.entry_dict_setdefault (bX _ _ _) (kt_meets_setdefault (zK X.prog X.w) b (gN qi) hd ux) ⟨us',dd,hz',λv' hv'=>?_,λhn h' dd' hs=>?_⟩
  .cases hv:zZ kvs k with
   |none =>
    rw[k2 hv,hv'] at er;exact Aq er
   |some d =>
    obtain⟨w',e1,e2⟩:=k1 d hv;rw[hv] at af;rw[e1,hv'] at er;exact⟨w',H,I.tok _,er,xr af r e2⟩
  .cases hv:zZ kvs k with
   |some d =>
    obtain⟨w',e1,e2⟩:=k1 d hv;rw[e1,hn] at er;exact Aq er
   |none =>
    rw[hv] at af;obtain⟨hl,af⟩:=wO (X:=X) af;have hl':(yN ws k vx).length<=sizeLine:=by
     have:=jY ws k vx;have e3:=cV t;rw[<- zX];lia
    have he:∃ q,h'.get? b=Ab q:=let ⟨q,_,_,hq,_⟩:=dd';⟨q,hq⟩
    have I':=tN (t':=s.toks+1) I (by rw[z];exact Iu) hs he (Z4 hl' hd (rel.put k qx) dd')
    exact⟨vx,_,I',qx,af _ _ P α (r.put (m':=.dct (w6 kvs k x)) q hS (by intro z;cases z) ⟨_,zD,cW px t⟩) (qF.refl _) (Be _) px⟩
noncomputable def x9:Aa D->Al (Aa An)
 |[]=>Ab []
 |.int i::r=>(x9 r).map (i::·)
 |_::_=>none
theorem lO (ns:Aa An):x9 (ns.map D.int)=Ab ns:=by
 induction ns with
 |nil=>rfl
 |cons n r ih=>exact congrArg (Option.map (n::·)) ih
theorem j7:∀ {ds:Aa D} {ns:Aa An},x9 ds=Ab ns->ds=ns.map D.int
 |[],ns,h=>by cases h;rfl
 |d::r,ns,h=>by
  cases d with
  |int i =>
   obtain⟨m,h1,rfl⟩:=Gm.mp (show (x9 r).map (i::·)=Ab ns from h)
   rw[j7 h1];rfl
  |_=>exact nn h
theorem yS {K:Aj}{P:Hp}:∀ {ns:Aa An} {vs:Aa V},qC K P α (ns.map D.int) vs->vs=ns.map V.int
 |[],vs,r=>by rw[r.nil_inv];rfl
 |n::ns,vs,r=>by
  obtain⟨w,ws,rfl,p,t⟩:=r.cons_inv;simp only[Rep] at p;rw[p,yS t];rfl
noncomputable def tV:G2:=λa b S=>match a,b with
 |.tup xs,.tup ys=>match x9 xs,x9 ys with
  |some ns,Ab ms=>.ok (.bl (_H.lexLt ns ms)) S
  |_,_=>.bad
 |_,_=>gLt a b S
noncomputable def iU:G2:=λa b S=>match a,b with
 |.tup xs,.tup ys=>match x9 xs,x9 ys with
  |some ns,Ab ms=>.ok (.bl (_H.lexLt ms ns)) S
  |_,_=>.bad
 |_,_=>gGt a b S
end
section
open PySem.SeqAt
open PySem.AutoSeq1 (wpAny_loadPart')
open PySem.MeetsSeq PySem.MeetsSeq2 PySem.MeetsSeq3
theorem UH (A:Bt)(s:Ag)(a:An)(t:Ti)(c:An)(u:Ti)(prog:Bg)(w:Ca)(E:Ac->Ag->Prop)(Q:Ac->Ag->Prop)(h:Q (.bool (decide (a>c))) s) :
  Ap (As prog w) A (Qx .Gt (.int a t) (.int c u)) Q E s:=
 (PyProof.Rows.gt_int h:Ap (As prog w) A (Cc .Gt (.int a t) (.int c u)) Q E s)
theorem dG (l b:Af)(items items2:Ax Ac)(n n2:Ai)(dd dd2:Al Af)(sl sl2:Ax (Al Ac))(ns ms:Aa An)(hi:Fw items.toList ns)(hj:Fw items2.toList ms) :
  Meets (Ih.«tuple.__gt__» ⟨[.ref l,.ref b],[]⟩)
   (λ_ R s=>s.heap.get? l=Ab { cls:=.type "tuple",dict:=dd,data:=.seq items n,slots:=sl } /\ s.heap.get? b=Ab { cls:=.type "tuple",dict:=dd2,data:=.seq items2 n2,slots:=sl2 } /\
    R (.ok (.ret (.bool (_H.lexLt ms ns)))) s):=
 .of_wp λprog w A R s h=>by
  obtain⟨hp,g,d,tk,os⟩:=s;obtain⟨hl,hb,h⟩:=h;have f2:=Ke;have z1:items.size=ns.length:=by rw[<- hi.length];simp
  have z2:items2.size=ms.length:=by rw[<- hj.length];simp
  wp_walk using wpAny_loadPart' hl,wpAny_loadPart' hb,IN _ (λrest b s'=>b.1=none/\s'=⟨hp,g,d,tk,os⟩/\∃ (vs ws:Aa Ac) (ns' ms':Aa An),rest=vs.zip ws /\
   Fw vs ns'/\Fw ws ms'/\ns'.length+items2.size=ms'.length+items.size/\R (.ok (.ret (.bool (_H.lexLt ms' ns')))) ⟨hp,g,d,tk,os⟩) _
  case turn =>
   rintro⟨y,x⟩ rest b s' ⟨hb',rfl,vs,ws,ns',ms',hz,hvi,hwi,hlen,hR⟩;cases hvi with
   |nil=>rw[Rp] at hz;cases hz
   |cons a t hvi' =>
    cases hwi with
    |nil=>rw[Qq] at hz;cases hz
    |cons c u hwi' =>
     rw[Gi] at hz;injection hz with hyx hrest
     injection hyx with hy hx
     subst hy hx;rw[_H.lexLt_cons] at hR;simp only[AT] at hlen;obtain⟨e,he,hiff⟩:=_H.eqAt_int A.in1 ⟨hp,g,d,tk,os⟩ a t c u;refine Ad (he prog w _ _ ?_);cases e with
     |true =>
      rw[Bd (hiff.mp rfl).symm] at hR
      wp_walk
      exact⟨rfl,rfl,_,_,_,_,hrest,hvi',hwi',by lia,hR⟩
     |false =>
      rw[Bf (λq=>absurd (hiff.mpr q.symm) Ic)] at hR;have hri:=UH A.in1 ⟨hp,g,d,tk,os⟩ a t c u prog w
      wp_walk using hri
      exact⟨_,rfl,by simpa using hR⟩
  case fin =>
   rintro⟨b1,b2⟩ s' ⟨hb',rfl,vs,ws,ns',ms',hz,hvi,hwi,hlen,hR⟩;simp only at hb';subst hb';have hv:_H.lexLt ms' ns'=decide (items2.size<items.size):=by
    cases hvi with
    |nil =>
     cases hwi with
     |nil =>
      simp only[Cd] at hlen;rw[_H.lexLt_nil_nil];exact(Dj li).symm
     |cons c u hw =>
      simp only[Cd,AT] at hlen;rw[_H.lexLt_cons_nil];exact(Dj li).symm
    |cons a t hv =>
     cases hwi with
     |nil =>
      simp only[Cd,AT] at hlen;rw[_H.lexLt_nil_cons];exact(Cp li).symm
     |cons c u hw =>
      rw[Gi] at hz;cases hz
   rw[hv] at hR
   wp_walk
   exact⟨_,rfl,by simpa [Hy] using hR⟩
  case h =>
   exact⟨rfl,rfl,items.toList,items2.toList,ns,ms,rfl,hi,hj,by lia,h⟩
end
section
variable {X:Cx}
theorem iY {prog:Bg}{w:Ca}{A:Bt}{E:Ac->Ag->Prop}{s:Ag}{l b:Af}{items items2:Ax Ac}{ms:Aa An}(hl:Of s.heap l items)(hb:Of s.heap b items2)(hi:Fw items.toList ns)(hj:Fw items2.toList ms)
  (hu:A.units<Du) (h:Q (.bool (_H.lexLt ms ns)) s):Ap (As prog w) A (Cc .Gt (.ref l) (.ref b)) Q E s:=by
 obtain⟨⟨cls,dd,data,sl⟩,ho,hc,n,hd⟩:=id hl;obtain⟨⟨cls2,dd2,data2,sl2⟩,ho2,hc2,n2,hd2⟩:=id hb;simp only at hc hd hc2 hd2;subst hc hd hc2 hd2;exact Kz (op:=.Gt) ⟨_,ho,rfl⟩ ⟨_,ho2,rfl⟩ PySem.F.slot_tuple_gt PySem.F.entry_tuple_gt (PySem.F.args_tuple_gt_2 _ _) (dG l b items items2 n n2 dd dd2 sl sl2 ns ms hi hj)
  ⟨ho,ho2,show Ig (_H.lexLt ms ns)≠Mb/\Q (.bool (_H.lexLt ms ns)) s from⟨(λx=>nomatch x),h⟩⟩ hu
theorem vH {pins:Aa (Af × Cu)}{σ:_L.St}{H P:Hp}{s:Ag}{xs:Aa D}{v:V}{vv:Ac}(I:Inv X pins σ H s)(r:Rel X.K H P α S)(rv:qG v vv)(p:Rep X.K P α (.tup xs) v)(h:x9 xs=Ab ns) :
  ∃ a its,vv=.ref a/\Of s.heap a (List.toArray its)/\Fw its ns:=by
 have:=j7 h;subst this;obtain⟨a,vs,its,rfl,q1,t1,rv1,h1,l1,_⟩:=wW I r p;have:=yS t1;subst this;exact⟨a,its,rv,h1,by simpa using gJ rv1⟩
set_option tactic.hygienic true in
theorem LD (hu:X.A.units<Du):OpD X (Cc .Lt) tV:=by
 intro pins σ H s P α S v u vv uu a b Q I r rv ru pa pb af;unfold tV at af
 split at af
 .rename_i xs ys
  split at af
  .rename_i ns ms h1 h2
   obtain⟨a,its,rfl,t1,i1⟩:=vH I r rv pa h1;obtain⟨b,its2,rfl,t2,i2⟩:=vH I r ru pb h2;exact _H.lt_tupInts t1 t2 (by simpa using i1) (by simpa using i2) hu ⟨.bl _,H,I,rfl,xr af r (by simp only[Rep])⟩
  .exact Aq af
 .exact JV pins σ H s P α S v u vv uu a b Q I r rv ru pa pb af
set_option tactic.hygienic true in
theorem LA (hu:X.A.units<Du):OpD X (Cc .Gt) iU:=by
 intro pins σ H s P α S v u vv uu a b Q I r rv ru pa pb af;unfold iU at af
 split at af
 .rename_i xs ys
  split at af
  .rename_i ns ms h1 h2
   obtain⟨a,its,rfl,t1,i1⟩:=vH I r rv pa h1;obtain⟨b,its2,rfl,t2,i2⟩:=vH I r ru pb h2;exact iY t1 t2 (by simpa using i1) (by simpa using i2) hu ⟨.bl _,H,I,rfl,xr af r (by simp only[Rep])⟩
  .exact Aq af
 .exact JU pins σ H s P α S v u vv uu a b Q I r rv ru pa pb af
end
end _D
namespace _D
open PySem PySem.Spec PyProof.Rows _L PySem.SeqAt
section
variable {X:Cx}{pins:Aa (Af × Cu)}{σ : _L.St}{H P:Hp}{α : Aa Af}{S:Sto}{s:Ag}
inductive Same2 (X:Cx)(P:Hp)(α : Aa Af)(d d':D):Prop
 |eq (h:d=d')
 |tt (xs ys:Aa D) (its:Aa Ac) (ed:d=.tup xs) (ed':d'=.tup ys) (q:Seqs X P α xs ys its its)
 |ll (xs ys:Aa D) (its:Aa Ac) (ed:d=.lst xs) (ed':d'=.lst ys) (q:Seqs X P α xs ys its its)
theorem K0 {d d':D}{u:Ac}(k1:Kd X P α s d u)(k2:Kd X P α s d' u):Same2 X P α d d':=by
 cases k1 with
 |non=>cases k2;exact .eq rfl
 |bl b=>cases k2;exact .eq rfl
 |int i t=>cases k2;exact .eq rfl
 |str x t=>cases k2;exact .eq rfl
 |tup a xs its vs rp rv h q =>
  cases k2 with
  |tup _ ys its2 ws rp2 rv2 h2 q2 =>
   cases tY h h2;exact .tt xs ys its rfl rfl ⟨vs,ws,rp,rv,rp2,rv2⟩
  |lst _ ys its2 ws rp2 rv2 h2 q2=>exact(o6 h h2).elim
 |lst a xs its vs rp rv h q =>
  cases k2 with
  |lst _ ys its2 ws rp2 rv2 h2 q2 =>
   cases cQ h h2;exact .ll xs ys its rfl rfl ⟨vs,ws,rp,rv,rp2,rv2⟩
  |tup _ ys its2 ws rp2 rv2 h2 q2=>exact(o6 h2 h).elim
theorem lI (I:Inv X pins σ H s)(r:Rel X.K H P α S){m:Ai}(ih:∀ (d d' e:D) (u:Ac),pl m d=true->pl m d'=true->Kd X P α s d u->Kd X P α s d' u->eqD d e=eqD d' e){xs ys zs:Aa D}{its:Aa Ac}(h1:xs.all (pl m)=true)(h2:ys.all (pl m)=true)(q:Seqs X P α xs ys its its):xF xs zs=xF ys zs:=by
 obtain⟨vs,ws,rp,rv,rp2,rv2⟩:=q;have l1:=rp.length.trans rv.length;have l2:=rp2.length.trans rv2.length;rw[wM,wM,l1,l2]
 congr 1
 have key:∀ j∈Cz (min its.length zs.length),eqD (xs.getD j .non) (zs.getD j .non)=eqD (ys.getD j .non) (zs.getD j .non):=λj hj=>by
  have hj':=Do.mp hj;have hj:j<its.toArray.size:=by rw[Bj];lia
  obtain⟨w1,y1,z1,m1⟩:=w5 rp rv hj;obtain⟨w2,y2,z2,m2⟩:=w5 rp2 rv2 hj;exact ih _ _ _ _ (xW h1 m1) (xW h2 m2) (yI I r (xW h1 m1) y1 z1) (yI I r (xW h2 m2) y2 z2)
 rw[Js,Cf,Cf];exact⟨λh j hj=>(key j hj)▸h j hj,λh j hj=>(key j hj).symm▸h j hj⟩
theorem GC (I:Inv X pins σ H s)(r:Rel X.K H P α S):∀ (n:Ai) (d d' e:D) (u:Ac),pl n d=true->pl n d'=true->Kd X P α s d u->Kd X P α s d' u->eqD d e=eqD d' e:=by
 intro n
 induction n with
 |zero =>
  intro d d' e u h1 h2 k1 k2;cases K0 k1 k2 with
  |eq h=>rw[h]
  |tt _ _ _ ed=>subst ed;exact Dv h1
  |ll _ _ _ ed=>subst ed;exact Dv h1
 |succ m ih =>
  intro d d' e u h1 h2 k1 k2;cases K0 k1 k2 with
  |eq h=>rw[h]
  |tt xs ys its ed ed' q =>
   subst ed ed';cases e with
   |tup zs=>exact lI I r ih h1 h2 q
   |_=>rfl
  |ll xs ys its ed ed' q =>
   subst ed ed';cases e with
   |lst zs=>exact lI I r ih h1 h2 q
   |_=>rfl
open Classical in
def eOf (X:Cx)(P:Hp)(α : Aa Af)(s:Ag)(xs:Aa D)(d:D)(y:Ac):Ar:=if h:∃ z,z∈xs/\Kd X P α s z y then eqD (Md h) d else false
theorem Z5 (I:Inv X pins σ H s)(r:Rel X.K H P α S){n:Ai}{xs:Aa D}{vs:Aa V}{its:Aa Ac}{d:D}(h:xs.all (pl n)=true)(rp:qC X.K P α xs vs)(rv:qJ vs its){j:Ai}(hj:j<its.length):∃ z,z∈xs/\Kd X P α s z its[j]/\eOf X P α s xs d its[j]=eqD z d/\eqD z d=eqD (xs.getD j .non) d:=by
 obtain⟨w,y,z,m⟩:=w5 rp rv (j:=j) (by rw[Bj];exact hj)
 have k:=yI I r (xW h m) y z;have ex:∃ z,z∈xs/\Kd X P α s z its[j]:=⟨_,m,k⟩;have hs:=Lp ex;refine⟨Md ex,hs.1,hs.2,?_,GC I r n _ _ d _ (xW h hs.1) (xW h m) hs.2 k⟩;unfold eOf;rw[dif_pos ex]
theorem GA (I:Inv X pins σ H s)(r:Rel X.K H P α S){n:Ai}{xs:Aa D}{vs:Aa V}{its:Aa Ac}{d:D}(h:xs.all (pl n)=true)(rp:qC X.K P α xs vs)(rv:qJ vs its):its.map (eOf X P α s xs d)=xs.map λx=>eqD x d:=by
 have l:=rp.length.trans rv.length;refine Me (by rw[Ak,Ak,l]) λj h1 h2=>?_
 rw[Ak] at h1 h2;rw[Zp,Zp];obtain⟨z,_,_,e1,e2⟩:=Z5 (d:=d) I r h rp rv h1;rw[e1,e2];simp[Im,h2]
theorem Z6 (I:Inv X pins σ H s)(r:Rel X.K H P α S){n:Ai}{A:Bt}{xs:Aa D}{vs:Aa V}{its:Aa Ac}{d:D}{v:V}{u:Ac}(hu:A.units+n<Du)(h:xs.all (pl n)=true)(hd:pl n d=true)(rp:qC X.K P α xs vs)(rv:qJ vs its)(p:Rep X.K P α d v)(q:qG v u):∀ y,y∈its.toArray->EqAt A s y u (eOf X P α s xs d y):=λy hy=>by
 obtain⟨j,hj,rfl⟩:=Cs.mp (show y∈its by simpa using hy)
 obtain⟨z,hz,k,e1,_⟩:=Z5 (d:=d) I r h rp rv hj;rw[e1];exact(rA I r n A z d _ u hu (xW h hz) hd k (yI I r hd p q)).eq
noncomputable def inI (a b:D):Al Ar:=match xD b with
 |some xs=>if xs.all (pl zS)&&pl zS a then Ab (xs.any λx=>eqD x a) else none
 |none=>none
noncomputable def gIn:G2:=λa b S=>match inI a b with
 |some k=>.ok (.bl k) S
 |none=>.bad
noncomputable def j3:G2:=λa b S=>match inI a b with
 |some k=>.ok (.bl (!k)) S
 |none=>.bad
theorem V3 {a b:D}{k:Ar}(h:inI a b=Ab k):∃ xs,ItV b xs/\xs.all (pl zS)=true/\pl zS a=true/\k=xs.any λx=>eqD x a:=by
 unfold inI at h;cases e:xD b with
 |none=>rw[e] at h;exact nn h
 |some xs =>
  rw[e] at h;obtain⟨c,rfl⟩:=j8 h;have c':=Gj.mp c;exact⟨xs,itV e,c'.1,c'.2,rfl⟩
theorem dU (hu:X.A.units+64<Du)(I:Inv X pins σ H s)(r:Rel X.K H P α S){a b:D}{v u:V}{vv uu:Ac}{k:Ar}(rv:qG v vv)(ru:qG u uu)(pa:Rep X.K P α a v)(pb:Rep X.K P α b u)(h:inI a b=Ab k) :
  (∀ {Q:Ac->Ag->Prop} {E:Ac->Ag->Prop},Q (.bool k) s->Ap (As X.prog X.w) X.A (Cc .In vv uu) Q E s)/\∀ {Q:Ac->Ag->Prop} {E:Ac->Ag->Prop},Q (.bool (!k)) s->Ap (As X.prog X.w) X.A (Cc .NotIn vv uu) Q E s:=by
 obtain⟨xs,hb,h1,h2,rfl⟩:=V3 h;have hu':X.A.in1.units+zS<Du:=by show X.A.units+1+zS<Du;unfold zS;lia
 have any:∀ {vs:Aa V} {its:Aa Ac},qC X.K P α xs vs->qJ vs its->its.toArray.any (eOf X P α s xs a)=xs.any λx=>eqD x a:=λrp rvi=>by
  rw[<- Array.any_toList];have e:=congrArg (λl=>l.any id) (GA (d:=a) I r h1 rp rvi);rw[Xy,Xy] at e;exact e
 cases hb with
 |tup ed =>
  subst ed;obtain⟨l,ws,its,rfl,sq,t,rvi,ht,_,_⟩:=wW I r pb;cases (show uu=Dh l from ru)
  have he:=Z6 I r hu' h1 h2 t rvi pa rv;exact⟨λq=>in_tupleAt (eOf X P α s xs a) ht he (by rw[any t rvi];exact q),λq=>notIn_tupleAt (eOf X P α s xs a) ht he (by rw[any t rvi];exact q)⟩
 |lst ed =>
  subst ed;obtain⟨l,ws,its,n,rfl,sq,t,rvi,ht,_,_⟩:=kM I r pb;cases (show uu=Dh l from ru)
  have hL:s.heap.IsList l its.toArray:=⟨_,ht,rfl,n,rfl⟩;have he:=Z6 I r hu' h1 h2 t rvi pa rv;exact⟨λq=>in_listAt (eOf X P α s xs a) hL he (by rw[any t rvi];exact q),λq=>notIn_listAt (eOf X P α s xs a) hL he (by rw[any t rvi];exact q)⟩
theorem EO (hu:X.A.units+64<Du):OpD X (Cc .In) gIn:=by
 intro pins σ H s P α S v u vv uu a b Q I r rv ru pa pb af;have af1:qI X P α (match inI a b with|some k=>Res.ok (D.bl k) S|none=>.bad) (OkV X P α Q):=af
 clear af;cases e:inI a b with
 |none=>rw[e] at af1;exact Aq af1
 |some k =>
  rw[e] at af1;exact(dU hu I r rv ru pa pb e).1 ⟨.bl _,H,I,rfl,xr af1 r (by simp only[Rep])⟩
theorem VR (hu:X.A.units+64<Du):OpD X (Cc .NotIn) j3:=by
 intro pins σ H s P α S v u vv uu a b Q I r rv ru pa pb af;have af1:qI X P α (match inI a b with|some k=>Res.ok (D.bl (!k)) S|none=>.bad) (OkV X P α Q):=af
 clear af;cases e:inI a b with
 |none=>rw[e] at af1;exact Aq af1
 |some k =>
  rw[e] at af1;exact(dU hu I r rv ru pa pb e).2 ⟨.bl _,H,I,rfl,xr af1 r (by simp only[Rep])⟩
end
end _D
namespace _D
open PySem PySem.Spec PyProof.Rows _L
section
variable {K:Aj}{H P:Hp}{α : Aa Af}{S:Sto}
theorem Rel.still {a:Af}{n:Ai}{m:MO}{o:HO}(r:Rel K H P α S)(ha:α[n]? = Ab a)(hs:S[n]? = Ab m)(hd:m≠.dead):Rel K (upd H a o) (upd P a o) α (S.set n .dead)/\qF P (upd P a o):=by
 have hP:=r.sep n a m ha hs hd;have sP:qF P (upd P a o):=gZ hP;have r1:=r.put (o:=o) (m':=.dead) ha hs hd trivial;have hn:n<S.length:=(Bi.mp hs).1;refine⟨⟨r1.tb.keep (λ_ _ q _=>q) λb u q _ p n=>⟨(qP λ(z:b=a)=>n (by rw[z];exact Cy ha)).trans p,n⟩,λb u e=>?_,r1.len,r1.nd,λi b u q1 q2 q3=>?_,λi b u q1 q2=>(r1.at' i b u q1 q2).mono sP (Be _),r1.own⟩,sP⟩
 .by_cases hb:b=a
  .subst hb;rw[zD] at e ⊢;exact e
  .rw[qP hb] at e ⊢;exact r.sub _ _ e
 .have hb:b≠a:=by
   rintro rfl;have:=lU r.nd q1 ha;subst this;rw[Ed hn] at q2;cases q2;exact q3 rfl
  rw[qP hb];exact r1.sep i b u q1 q2 q3
end
noncomputable def Itv (a:Af)(o:Cu)(vs:Aa V):It:=
 ⟨λi H=>(∃ u,H a=Ab (.frz o u))/\i<vs.length,λi H x H'=>H'=H/\vs[i]? = Ab x,λi H=>(∃ u,H a=Ab (.frz o u))/\vs.length<=i⟩
theorem W9 {P:Bg}{w:Ca}{K:Aj}{tg:By}{a it:Af}{o:Cu}{vs:Aa (Key × V)}{us:Aa (Key × Ac)}{ep:Ai}(kv:KV vs us)(at':∀ h:Bw,h.get? a=Ab o->h.DictAt (zK P w) a us ep) :
  Turn P w K tg (Itv a o (vs.map (·.2))) [it] it (λi h=>h.IsValIter it a i us.length ep) where
 mem:=by simp
 obj:=λi h st b hb=>by
  have e:b=it:=by simpa using hb
  subst e;obtain⟨o,e,c,d⟩:=st;exact⟨o,e,λv z=>by rw[d] at z;cases z⟩
 keep:=λi h h' st k=>st.at λo e=>k it (by simp) o e
 item:=by
  intro X hP hw hK hc i pins s σ H E I hf st hg;subst hP hw hK;obtain⟨⟨u0,hu⟩,hlt⟩:=hg;have ho:s.heap.get? a=Ab o:=(I.hok a _ hu).1;have hlt':i<vs.length:=by simpa using hlt
  have get:∀ {vs:Aa (Key × V)} {us:Aa (Key × Ac)},KV vs us->∀ {i:Ai} (h:i<vs.length),∃ k u,us[i]? = Ab (k,u)/\qG (vs[i]).2 u:=by
   intro vs us kv
   induction kv with
   |nil=>intro i h;simp at h
   |cons z t ih =>
    intro i h;cases i with
    |zero=>exact⟨_,_,rfl,z.2⟩
    |succ i =>
     obtain⟨k,u,e1,e2⟩:=ih (i:=i) (by simpa using h)
     exact⟨k,u,by simpa using e1,by simpa using e2⟩
  obtain⟨k,u,e1,e2⟩:=get kv hlt';obtain⟨f0,f1,f2,f3,f4,f5⟩:=hf it (by simp)
  refine wpAny_pyNext_values_item st (at' _ ho) e1 λh' st' sb=>?_;have I1:Inv X pins σ H { s with heap:=h' }:=I.turned (t':=s.toks) (λb o hb e=>(sb.2 b hb).trans e) f0 f1 f3 f4 f5
  obtain⟨oi,ei,c,d⟩:=id st';exact⟨u,rfl,dS (s:={ s with heap:=h' }) ei c d (by decide) ⟨(vs[i]).2,H,I1,e2,⟨rfl,by simp[hlt']⟩,st',λb hb=>(hf b hb).1⟩⟩
 done:=by
  intro X hP hw hK hc i pins s σ H E I hf st hg;subst hP hw hK;obtain⟨⟨u0,hu⟩,hle⟩:=hg;have ho:s.heap.get? a=Ab o:=(I.hok a _ hu).1;obtain⟨f0,f1,f2,f3,f4,f5⟩:=hf it (by simp)
  have hl:=kv.length;have hle':us.length<=i:=by rw[<- hl];simpa using hle
  exact wpAny_pyNext_values_end (I.ok.hd hc) st (at' _ ho) (by simp;omega) λh' eb=>⟨rfl,I.turned (t':=s.toks) (λb o hb e=>eb b o hb e) f0 f1 f3 f4 f5⟩
 self:=λ_ _ _ _ _ st h=>wpAny_pyIter_valiter st h
noncomputable def jP (f:DE):DI:=λenv S=>(f env S).bind λd S1=>match d with
 |.loc n=>match S1[n]? with
  |some (.dct kvs)=>.ok (kvs.map (·.2)) (S1.set n .dead)
  |_=>.bad
 |_=>.bad
theorem n8 {K:Aj}{P:Hp}{α:Aa Af}:∀ {kvs:Aa (Key × D)} {vs:Aa (Key × V)},KVs K P α kvs vs->qC K P α (kvs.map (·.2)) (vs.map (·.2))
 |_,_,.nil=>.nil
 |_,_,.cons z t=>.cons z.2 (n8 t)
theorem V8 {K:Aj}{P:Hp}{α:Aa Af}{a:Af}{o:Cu}{u:HO}{ds:Aa D}{vs:Aa V}(q:P a=Ab (.frz o u))(t:qC K P α ds vs):ItD K (Itv a o vs) P α ds where
 go:=λi H P1 α1 S hi r e _=>⟨⟨u,r.sub _ _ (e _ _ q)⟩,by rw[<- t.length];exact hi⟩
 yld:=λi H x H' P1 α1 S hi r e e2 y=>by
  obtain⟨rfl,hx⟩:=y;obtain⟨v,h1,h2⟩:=t.get (Ao hi);rw[hx] at h1;cases h1;exact⟨P1,_,Ao hi,r,qF.refl _,Rep.mono e e2 _ _ h2⟩
 stop:=λi H P1 α1 S hi r e _=>⟨⟨u,r.sub _ _ (e _ _ q)⟩,by rw[<- t.length];exact hi⟩
section
variable {X:Cx}{tg o:By}{fo:DE}{apos cpos:Fc}
theorem eQ {S:Sto}{n:Ai}{kvs:Aa (Key × D)}(h:S[n]? = Ab (.dct kvs)):tyD (.loc n) S=Ab "dict":=by
 show (match S[n]? with|some (.lst _)=>Ab "list" | some (.dct _)=>Ab "dict" | _=>none)=_
 rw[h]
set_option tactic.hygienic true in
theorem KS (ho:PE X o (tD X fo))(hbase:Mm o "values" X.env (eval o X.env)=eval o X.env:=by rfl)(hline:(apos.endLine == cpos.line)=true:=by rfl):PI X tg (.Call (.Attribute o "values" apos) [] [] cpos) (tDI X (jP fo)):=by
 intro pins s σ H R I h;obtain⟨P,α,env,S,r,re,af⟩:=h;refine To hbase hline (thn (zO ho I r re af) λvv s1 ⟨v,H1,P1,α1,d,S1,G1,af1⟩=>?_);cases d with
 |loc n =>
  simp only at af1
  split at af1
  .rename_i kvs hS
   have rp:=G1.rep;have I1:=G1.inv;have r1:=G1.rel;have ht:tyD (.loc n) S1=Ab "dict":=eQ hS;obtain⟨h1,h2⟩:=eO I1 G1.val (eP r1 rp ht (by simp))
   simp only[Rep] at rp;obtain⟨a,rfl,ha⟩:=rp;cases (show vv=Dh a from G1.val)
   obtain⟨vs,z,t⟩:=r1.at' n a _ ha hS;obtain⟨hz,hd,us,rel,dd⟩:=dP I1.hok z;refine⟨"dict","dict.values",Ks,Sm,PySem.F.type_dict_values,h1,h2,Od rfl (Wn ?_)⟩;refine XV Sm dd.typeIs PySem.F.entry_dict_values (PySem.F.args_dict_values_1 _) (meets_dict_values (zK X.prog X.w) a hd) ⟨⟨us,dd⟩,?_⟩;obtain⟨ep,oa,es,hoa,rest⟩:=dd.dictAt;have at':∀ h:Bw,h.get? a=Ab oa->h.DictAt (zK X.prog X.w) a us ep:=λh e=>⟨oa,es,e,rest⟩;have hne:s1.heap.objs.size≠a:=Gf (Ba hoa);obtain⟨r2,e2⟩:=r1.still (o:=.frz oa (.dK vs)) ha hS (by intro q;cases q)
   have I2:Inv X pins σ (upd H1 a (.frz oa (.dK vs))) { s1 with heap:=s1.heap,toks:=s1.toks }:=I1.write (x:=a) (e:=a) (by rw[z];exact Iu) (.inl rfl) (λb q hb e=>e) ⟨oa,hoa⟩ ⟨hoa,hz,hd,us,rel,dd⟩
   have I3:=I2.kept (t':=s1.toks) (h':=s1.heap.push { cls:=.type "dict_values",data:=.fields #[.ref a] }) λb u e=>Ah _ e;refine wpAny_pyIter_values (s:={ s1 with heap:=s1.heap.push { cls:=.type "dict_values",data:=.fields #[.ref a] } }) (knd:=zK X.prog X.w) (d:=a) (kvs:=us) (ep:=ep) ⟨_,Ay _ rfl,rfl,rfl⟩ (at' _ (Ah _ hoa)) ?_
   have I4:=I3.kept (t':=s1.toks) (h':=(s1.heap.push { cls:=.type "dict_values",data:=.fields #[.ref a] }).push { cls:=.type "dict_valueiterator",data:=.fields #[.ref a,.int 0 0,.int us.length 0,.int ep 0] }) λb u e=>Ah _ e;refine⟨_,[_],_,_,_,rfl,I4,W9 rel at',⟨_,Ay _ rfl,rfl,rfl⟩,λb hb=>?_,af1 _ _ _ α1 r2 (G1.same.trans e2) G1.pre (V8 (u:=.dK vs) zD (qC.mono e2 (Be _) _ _ (n8 t)))⟩;have e:b=(s1.heap.push { cls:=.type "dict_values",data:=.fields #[.ref a] }).objs.size:=by simpa using hb
   subst e;exact I3.fpOk (Av _) (I3.hok.fresh (Av _))
  .exact Aq af1
 |_=>exact Aq af1
end
section
variable {X:Cx}
noncomputable def uA:G2:=λa b S=>match a,b with
 |.tup xs,.tup ys=>if xs.length+ys.length<=lim then .ok (.tup (xs++ys)) S else .bad
 |_,_=>iT a b S
theorem dD:Wi (.type "tuple") (dunderI "add")=pure none:=by rw[Ue,Ot];kernel_rfl
inductive AddTV (a b:D)(S:Sto):Prop
 |old (e:uA a b S=iT a b S)
 |tt (xs ys:Aa D) (ea:a=.tup xs) (eb:b=.tup ys)
theorem RG (a b:D)(S:Sto):AddTV a b S:=by
 cases a with
 |tup xs=>cases b with
  |tup ys=>exact .tt xs ys rfl rfl
  |_=>exact .old rfl
 |_=>exact .old rfl
theorem V4:IpD X .Add uA:=by
 intro pins s σ H x y v u Q I rx ry h;obtain⟨P,α,S,a,b,r,pa,pb,af⟩:=h;cases RG a b S with
 |old e =>
  rw[e] at af;exact GN pins s σ H x y v u Q I rx ry ⟨P,α,S,a,b,r,pa,pb,af⟩
 |tt xs ys ea eb =>
  subst ea eb;obtain⟨hl,af⟩:=wO (X:=X) af;obtain⟨a,vs,its,rfl,q1,t1,rv1,h1,l1,_⟩:=wW I r pa;obtain⟨b,ws,its2,rfl,q2,t2,rv2,h2,l2,_⟩:=wW I r pb;cases rx;cases ry;obtain⟨⟨cls,dd,data,sl⟩,ho,hc,n,hd⟩:=id h1;obtain⟨⟨cls2,dd2,data2,sl2⟩,ho2,hc2,n2,hd2⟩:=id h2;simp only at hc hd hc2 hd2;subst hc hd hc2 hd2;refine wpAny_inplaceOp_concat ⟨_,ho,rfl⟩ ⟨_,ho2,rfl⟩ dD On Rq ?_;have e:its.toArray++its2.toArray=(its++its2).toArray:=by simp
  by_cases hx:its=[]
  .have hxs:xs=[]:=by cases xs with|nil=>rfl|cons _ _=>rw[hx] at l1;simp at l1
   subst hxs;exact Sx Hr ⟨_,ho,rfl⟩ He (Gy _ _) (tuple_addW0 a b its.toArray its2.toArray n n2 dd dd2 sl sl2 (by simp[hx]))
    ⟨ho,ho2,⟨.ref b,H,I,rfl,xr af r (by rw[Jt];exact pb)⟩⟩
  .by_cases hy:its2=[]
   .have hys:ys=[]:=by cases ys with|nil=>rfl|cons _ _=>rw[hy] at l2;simp at l2
    exact Sx Hr ⟨_,ho,rfl⟩ He (Gy _ _) (tuple_addW1 a b its.toArray its2.toArray n n2 dd dd2 sl sl2 (by simpa using hx) (by simp[hy]))
     ⟨ho,ho2,⟨.ref a,H,I,rfl,xr af r (by rw[hys,Fq];exact pa)⟩⟩
   .refine Sx Hr ⟨_,ho,rfl⟩ He (Gy _ _)
     (tuple_addW2 a b its.toArray its2.toArray n n2 dd dd2 sl sl2 (by simpa using hx) (by simpa using hy) (by rw[Bj,Bj,<- l1,<- l2,<- zX];exact hl)) ⟨ho,ho2,?_⟩
    rw[e];exact rN I r (t1.append t2) (rv1.append rv2) (by rw[Aw];exact hl) af
theorem WR:Ge "set" = Ab (.type "set"):=by decide +kernel
variable {e:By}{fa:DE}{p1 p2 pos1 pos2:Fc}
end
structure QI2 (X:Cx)(tg it:By)(f:DI2):Prop where
 get:PI X tg it (tDI2 X f)
structure QK (B:Acc)(Y:Cx)(step:Ac->Ln Vi)(k:DK):Prop where
 get:PK B Y step k
section
variable {B:Acc}{X Y:Cx}{tg it e o elt iter ie:By}{es ifs rest:Aa By}{fa fo fe fi:DE}{fA:DA}{fI:DI}{f2:DI2}{g:DG}{t:DT}{kk:DK}{p pos:Fc}{n k:Ai}{x:Au}{cm:Ar}{F:DF}{f:DS}{gens grest:Aa DL}{scope:Ey}{N':Aa Au}{cap:Aa (Al Ai)}{mm:Ar}
theorem DZ (h:QI X tg it fI):QI2 X tg it (xB fI):=⟨KR h.1⟩
theorem DY (h:QE X e fa):QI2 X tg e (dIt fa):=⟨RU h.1⟩
theorem BL {e1:By}{elts:Aa By}{x1:Ai}{tpos:Fc}(hg:Gl X "enumerate")(hm:X.mg "enumerate" = none)(ha:QA X [e1] fA)(hs:Bo [e1] X.env=(false,eval e1 X.env)::Bo [] X.env:=by rfl)(hpl:(Gw pos (Bo [] X.env)).any (·.1)=false:=by rfl) :
  QI X (.Tuple elts x1 tpos) (.Call (.Name "enumerate" p) [e1] [] pos) (dN fA):=⟨KQ hg hm ha.1 hs hpl⟩
theorem BM {apos:Fc}(ho:QE X o fo)(hbase:Mm o "values" X.env (eval o X.env)=eval o X.env:=by rfl)(hline:(apos.endLine == pos.line)=true:=by rfl):QI X tg (.Call (.Attribute o "values" apos) [] [] pos) (jP fo):=⟨KS ho.1 hbase hline⟩
theorem BO (hx:Y.xe=λ_ _=>Fv)(hlast:gens[k+1]? = none)(he:QE Y elt fe):QK accL Y (λacc=>zV false elt gens scope pos k acc Y.env) (zB fe):=⟨B6 hx hlast he.1⟩
theorem HE (hc:Y.calm=true)(hx:Y.xe=λ_ _=>Fv)(hgk:gens[k+1]? = Ab ⟨tg,iter,ifs,0⟩)(has:∀ g',gens[k+1+1]? = Ab g'->g'.is_async=0)(hi:QI2 Y tg iter f2)(hg:QG Y tg g)(ht:QTs Y ifs t)(he:QK B Y (λacc=>zV B.m elt gens scope pos (k+1) acc Y.env) kk)(hs:∀ x,Ev iter Y.env x=pure x) :
  QK B Y (λacc=>zV B.m elt gens scope pos k acc Y.env) (kIn f2 g t kk):=⟨H8 hc hx hgk has hi.1 hg.1 ht.1 he.1 hs⟩
theorem U2 (hc:X.calm=true)(S:CompSc X.env.scope X.N scope N' cap)(hi:QI2 X tg iter f2)(hg:∀ cl C ex s₀ H₀,QG (qW X N' scope cl C ex s₀ H₀) tg g)(ht:∀ cl C ex s₀ H₀,QTs (qW X N' scope cl C ex s₀ H₀) ifs t)
  (has:∀ g',(⟨tg,iter,ifs,0⟩::grest:Aa DL)[0+1]? = Ab g'->g'.is_async=0)
  (he:∀ cl C ex s₀ H₀,QK accL (qW X N' scope cl C ex s₀ H₀) (λacc=>zV false elt (⟨tg,iter,ifs,0⟩::grest) scope pos 0 acc (qW X N' scope cl C ex s₀ H₀).env) kk) (hs:∀ x,Ev iter X.env x=pure x) :
  QE X (.ListComp elt (⟨tg,iter,ifs,0⟩::grest) scope pos) (zA mm cap f2 g t kk):=
 ⟨Y6 hc S hi.1 (λcl C ex s H=>(hg cl C ex s H).1) (λcl C ex s H=>(ht cl C ex s H).1) has (λcl C ex s H=>(he cl C ex s H).1) hs⟩
theorem U7 {m:Ai}{y:Au}{py spos:Fc}(hc:X.calm=true)(hN:X.N.Nodup)(S:CompSc X.env.scope X.N scope N' cap)(hi:QI2 X tg iter f2)(hg:∀ cl C ex s₀ H₀,QG (qW X N' scope cl C ex s₀ H₀) tg g)(ht:∀ cl C ex s₀ H₀,QTs (qW X N' scope cl C ex s₀ H₀) ifs t)
  (has:∀ g',(⟨tg,iter,ifs,0⟩::grest:Aa DL)[0+1]? = Ab g'->g'.is_async=0)
  (he:∀ cl C ex s₀ H₀,QK accL (qW X N' scope cl C ex s₀ H₀) (λacc=>zV false elt (⟨tg,iter,ifs,0⟩::grest) scope pos 0 acc (qW X N' scope cl C ex s₀ H₀).env) kk) (hy:X.N[m]? = Ab y) (hyl:Loc X.env.scope y) (hf:X.fn y=true\/X.env.scope.names.lookup y=Ab .local)
  (hsw:Nw (.ListComp elt (⟨tg,iter,ifs,0⟩::grest) scope pos) (Ab (.Name y py)) spos.line X.env=pure true) (hs:∀ x,Ev iter X.env x=pure x):QS X (.Assign [.Name y py] (.ListComp elt (⟨tg,iter,ifs,0⟩::grest) scope pos) spos) (z0 (zA mm cap f2 g t kk) (gNm m)):=
 ⟨YE hc hN S hi.1 (λcl C ex s H=>(hg cl C ex s H).1) (λcl C ex s H=>(ht cl C ex s H).1) has (λcl C ex s H=>(he cl C ex s H).1) hy hyl hf hsw hs⟩
theorem J0:ZMt X "dict.setdefault" wA:=⟨X7⟩
theorem CM (hr:RoomC cm k X.A):ZOp X (Cc .Lt) tV:=⟨LD (by have:=hu1 hr;omega)⟩
theorem CG (hr:RoomC cm k X.A):ZOp X (Cc .Gt) iU:=⟨LA (by have:=hu1 hr;omega)⟩
theorem FQ:ZIp X .Add uA:=⟨V4⟩
end
noncomputable def kA (H:Hp):Aa (Af × HO)->Hp
 |[]=>H
 |p::ps=>kA (upd H p.1 p.2) ps
theorem l4 {b:Af}:∀ {L:Aa (Af × HO)} {H:Hp},b ∉ L.map (·.1)->kA H L b=H b
 |[],_,_=>rfl
 |p::ps,H,h=>by
  simp only[De,Az,Uy] at h;show kA (upd H p.1 p.2) ps b=H b;rw[l4 h.2,qP h.1]
theorem eR {b:Af}{u:HO}:∀ {L:Aa (Af × HO)} {H:Hp},kA H L b=Ab u->(b,u)∈L\/H b=Ab u
 |[],_,h=>.inr h
 |p::ps,H,h=>by
  rcases eR (L:=ps) (H:=upd H p.1 p.2) h with h|h
  .exact .inl (Cn _ h)
  .by_cases hb:b=p.1
   .subst hb
    rw[zD] at h;cases h;exact .inl (Dl ..)
   .rw[qP hb] at h
    exact .inr h
section
variable {X:Cx}{pins:Aa (Af × Cu)}{σ : _L.St}{H:Hp}{s:Ag}
theorem Inv.laidL {L:Aa (Af × HO)}{h':Bw}{t':Ai}(I:Inv X pins σ H s)(k:∀ b u,s.heap.get? b=Ab u->h'.get? b=Ab u)(hp:∀ p∈L,s.heap.objs.size<=p.1)(new:∀ p∈L,zL X.prog X.w (kA H L) h' p.1 p.2) :
  Inv X pins σ (kA H L) { s with heap:=h',toks:=t' }:=by
 have old:∀ b u,H b=Ab u->kA H L b=Ab u:=λb u e=>by
  rw[l4 (L:=L)]
  .exact e
  .intro hb
   obtain⟨p,hp',rfl⟩:=Br.mp hb;rw[I.hok.fresh (hp p hp')] at e;cases e
 have low:∀ b,b<s.heap.objs.size->kA H L b=H b:=λb hb=>l4 λhm=>by
  obtain⟨p,hp',rfl⟩:=Br.mp hm;exact absurd (Bh hb (hp p hp')) (Ei _)
 refine I.un ⟨λb u q _ _ _=>k b u q,λb u q _ _ _=>⟨u.slots,k b u q⟩,λb u q n _=>by rw[low b (Ba q)];exact n,λb u q _=>⟨u,k b u q⟩,λb xs q=>old b _ q,λb o xs q=>old b _ q,λb ps q=>⟨#[],by rw[old b _ q];simp⟩⟩ λb u e=>?_
 rcases eR e with hm|hb
 .exact new (b,u) hm
 .exact(I.hok b u hb).stay (λc v _ q=>k c v q) (λc q=>old c _ q) λc xs q=>old c _ q
end
noncomputable def kD:Key->D
 |.inl i=>.int i
 |.inr x=>.str x
theorem ND {K:Aj}{P:Hp}{α:Aa Af}(k:Key):Rep K P α (kD k) (kV k):=by
 cases k <;> simp only[kD,kV,Rep]
theorem E9 {k:Key}{u:Ac}(h:gO k u=true):qG (kV k) u:=by
 rcases x5 h with⟨i,t,rfl,rfl⟩|⟨x,t,rfl,rfl⟩
 .exact⟨t,rfl⟩
 .exact⟨t,rfl⟩
theorem ZU {κ:Type}:∀ {vs:Aa (κ × V)} {us:Aa (κ × Ac)},KV vs us->∀ {j:Ai} {q:κ × V},vs[j]? = Ab q->∃ u,us[j]? = Ab (q.1,u)/\qG q.2 u
 |_,_,.nil,j,q,h=>by simp at h
 |_,_,.cons (a:=x) (b:=y) z t,j,q,h=>by
  cases j with
  |zero =>
   simp at h;subst h;exact⟨y.2,by simp;exact WP z.1.symm rfl,z.2⟩
  |succ j =>
   obtain⟨u,e1,e2⟩:=ZU t (j:=j) (q:=q) (by simpa using h)
   exact⟨u,by simpa using e1,e2⟩
section
variable {X:Cx}{cm:Ar}{k:Ai}
theorem IM (hr:RoomC cm k X.A):ZOp X (Cc .In) gIn:=⟨EO hr.units⟩
theorem FS (hr:RoomC cm k X.A):ZOp X (Cc .NotIn) j3:=⟨VR hr.units⟩
end
end _D
namespace _S
open PySem
variable {mask:Ai}{xs:Ax Ai}
def Rs (xs:Ax Ai):Prop:=xs.toList.Pairwise (· < ·)
theorem Rs.lt (h:Rs xs){a b:Ai}{x y:Ai}(hab:a<b)(ha:xs[a]? = Ab x)(hb:xs[b]? = Ab y):x<y:=by
 obtain⟨h1,e1⟩:=Dx.mp ha;obtain⟨h2,e2⟩:=Dx.mp hb;have:=Jx.mp h a b (by simpa using h1) (by simpa using h2) hab
 rw[<- e1,<- e2];simpa using this
theorem getD_some {i x d:Ai}(h:xs[i]? = Ab x):xs.getD i d=x:=by
 obtain⟨h1,e1⟩:=Dx.mp h;simp[Gs,h1,e1]
structure Bel (xs:Ax Ai)(j p:Ai):Prop where
 le:p<=xs.size
 lo:∀ i x,i<p->xs[i]? = Ab x->x<j
 hi:∀ i x,p<=i->xs[i]? = Ab x->j<=x
set_option tactic.hygienic true in
theorem fM (h:Rs xs)(j:Ai):∀ (fuel lo hi:Ai),hi-lo<=fuel->lo<=hi->hi<=xs.size ->
  (∀ i x,i<lo->xs[i]? = Ab x->x<j)->(∀ i x,hi<=i->xs[i]? = Ab x->j<=x)->Bel xs j (Yu xs j fuel lo hi)
 |0,lo,hi,h1,h2,h3,h4,h5=>by
  have:lo=hi:=by lia
  subst this;exact⟨h3,h4,h5⟩
 |fuel+1,lo,hi,h1,h2,h3,h4,h5=>by
  unfold Yu;by_cases hlt:lo<hi
  .rw[Bd hlt]
   have hm:(lo+hi)/2<xs.size:=by lia
   have e:xs[(lo+hi)/2]? = Ab xs[(lo+hi)/2]:=Eb hm;simp only[getD_some e]
   split
   .rename_i hc
    refine fM h j fuel _ hi (by lia) (by lia) h3 (λi x hi' ex=>?_) h5
    by_cases q:i=(lo+hi)/2
    .subst q;rw[e] at ex;cases ex;exact hc
    .exact Io (h.lt (by lia) ex e) hc
   .rename_i hc
    refine fM h j fuel lo _ (by lia) (by lia) (by lia) h4 (λi x hi' ex=>?_)
    by_cases q:i=(lo+hi)/2
    .subst q;rw[e] at ex;cases ex;lia
    .have:=h.lt (show (lo+hi)/2<i by lia) e ex
     lia
  .rw[Bf hlt]
   have:lo=hi:=by lia
   subst this;exact⟨h3,h4,h5⟩
theorem uU (h:Rs xs)(j:Ai):Bel xs j (Co xs j):=
 fM h j _ _ _ (by lia) (by lia) (Av _) (λi x hi=>by lia) λi x hi ex=>by
  have:=(Dx.mp ex).1
  lia
theorem fL (h:Rs xs){i j:Ai}(e:xs[i]? = Ab j):Co xs j=i:=by
 have b:=uU h j;have hi:=(Dx.mp e).1;by_cases h1:Co xs j<i
 .have e2:xs[Co xs j]? = Ab xs[Co xs j]:=Eb (by lia)
  have:=h.lt h1 e2 e;have:=b.hi _ _ (Av _) e2
  lia
 .by_cases h2:i<Co xs j
  .have:=b.lo _ _ h2 e
   lia
  .lia
theorem iH (h:Rs xs){i j:Ai}(e:xs[i]? = Ab j):Co xs (j+1)=i+1:=by
 have b:=uU h (j+1);have hi:=(Dx.mp e).1;have h1:i<Co xs (j+1):=by
  apply Ft;intro q;have:=b.hi _ _ (by lia) e
  lia
 by_cases h2:i+1<Co xs (j+1)
 .have hz:i+1<xs.size:=by have:=b.le;lia
  have e2:xs[i+1]? = Ab xs[i+1]:=Eb hz;have:=b.lo _ _ h2 e2;have:=h.lt (Jb i) e e2
  lia
 .lia
theorem iI (h:Rs xs):Co xs 0=0:=by
 have b:=uU h 0;apply Ft;intro q;have hz:0<xs.size:=by have:=b.le;lia
 have e2:xs[0]? = Ab xs[0]:=Eb hz;have:=b.lo _ _ (by lia) e2
 lia
structure Tb (t:Fn):Prop where
 rs:Rs t.place
 dm:t.dummies=#[]
theorem cM (j:Ai):Ya #[] j=false:=by simp[Ya]
theorem lZ {t:Fn}(T:Tb t){i j:Ai}(e:t.place[i]? = Ab j):t.slot j=.live i:=by
 unfold AaH;simp only[fL T.rs e,e];simp
theorem oU {t:Fn}(T:Tb t)(j:Ai):(∃ i,t.slot j=.live i/\t.place[i]? = Ab j)\/(t.slot j=.empty/\j ∉ t.place.toList):=by
 by_cases h:j∈t.place.toList
 .obtain⟨i,hi,e⟩:=Cs.mp h
  have e':t.place[i]? = Ab j:=by rw[<- Bn,Ao hi,e]
  exact .inl ⟨i,lZ T e',e'⟩
 .refine .inr ⟨?_,h⟩
  unfold AaH;simp only[T.dm,cM];rw[Bf,Bf (by simp)]
  intro q;apply h;have:t.place[Co t.place j]? = Ab j:=by simpa using q
  obtain⟨h1,e1⟩:=Dx.mp this;rw[<- e1];simp
theorem W4 (h:Rs xs){j:Ai}(hj:j ∉ xs.toList):Rs (Cg xs (Co xs j) j):=by
 have b:=uU h j;unfold Rs;rw[Sn];have key:∀ (i:Ai) (x:Ai),xs.toList[i]? = Ab x->(i<Co xs j->x<j)/\(Co xs j<=i->j<x):=λi x e=>by
  have e':xs[i]? = Ab x:=by rw[<- Bn];exact e
  refine⟨λq=>b.lo _ _ q e',λq=>?_⟩;have h1:=b.hi _ _ q e';have:x≠j:=by
   rintro rfl;exact hj (Cy e)
  lia
 have tk:∀ x∈xs.toList.take (Co xs j),x<j:=λx hx=>by
  obtain⟨i,hi,e⟩:=Cs.mp hx;rw[Eu] at hi;rw[Rz] at e;exact(key i x (by rw[Ao (by lia),e])).1 (by lia)
 have dr:∀ x∈xs.toList.drop (Co xs j),j<x:=λx hx=>by
  obtain⟨i,hi,e⟩:=Cs.mp hx;rw[Kj] at hi;rw[Sa] at e;exact(key (Co xs j+i) x (by rw[Ao (by lia),e])).2 (by lia)
 rw[Dn,Dw];refine⟨List.Pairwise.take h,⟨dr,List.Pairwise.drop h⟩,λx hx y hy=>?_⟩;rcases Az.mp hy with rfl|hy
 .exact tk x hx
 .exact Io (tk x hx) (dr y hy)
theorem mJ {α:Type}(xs:Ax α){p:Ai}(hp:p<=xs.size)(x:α)(i:Ai):(Cg xs p x)[i]? = if i<p then xs[i]? else if i=p then Ab x else xs[i-1]?:=by
 rw[<- Bn,Sn];have hl:(xs.toList.take p).length=p:=by simp;lia
 by_cases h1:i<p
 .rw[Bd h1,Bl (by lia),Nc h1,Bn]
 .rw[Bf h1,Dg (by lia),hl]
  by_cases h2:i=p
  .subst h2;simp
  .rw[Bf h2]
   obtain⟨k,hk⟩:∃ k,i-p=k+1:=⟨i-p-1,by lia⟩
   rw[hk,Tq,Xn,Bn]
   congr 1;lia
theorem vJ {α:Type}(xs:Ax α)(p:Ai)(x:α):(Cg xs p x).size=xs.size+1:=by
 have:=(Jc xs p x).length_eq;simpa using this
theorem D5 {t:Fn}(T:Tb t){j:Ai}(hj:j ∉ t.place.toList):Tb (t.put j).1:=by
 refine⟨W4 T.rs hj,?_⟩;show (if Ya t.dummies j then _ else t.dummies)=#[]
 rw[T.dm,cM];rfl
open PySem.SetTable (Probe leap runEnd turns bits)
noncomputable def adv (mask:Ai)(p:Nz):Nz:=if p.more>0 then { p with j:=p.j+1,more:=p.more-1 } else { p with j:=(leap mask p.i p.perturb).1,more:=Hu mask (leap mask p.i p.perturb).1-(leap mask p.i p.perturb).1,i:=(leap mask p.i p.perturb).1,perturb:=(leap mask p.i p.perturb).2 }
theorem M4 (t:Fn)(p:Nz):t.advance p=adv t.mask p:=rfl
noncomputable def it (mask:Ai):Ai->Nz->Nz
 |0,p=>p
 |n+1,p=>it mask n (adv mask p)
theorem bM (mask:Ai):∀ (n:Ai) (p:Nz),it mask (n+1) p=adv mask (it mask n p)
 |0,p=>rfl
 |n+1,p=>bM mask n (adv mask p)
theorem mM (mask:Ai):∀ (m n:Ai) (p:Nz),it mask (m+n) p=it mask n (it mask m p)
 |0,n,p=>by rw[Hg];rfl
 |m+1,n,p=>by rw[Qt];exact mM mask m n (adv mask p)
noncomputable def rs (mask i pert:Ai):Nz:={ j:=i,more:=Hu mask i-i,i,perturb:=pert,dummy:=none }
noncomputable def st (mask:Ai)(h:An):Nz:=rs mask (bits h % (mask+1)) (bits h)
theorem HV (t:Fn)(h:An):t.probeStart h=st t.mask h:=rfl
theorem pX (mask i pert:Ai):∀ k,k<=Hu mask i-i->it mask k (rs mask i pert)={ j:=i+k,more:=Hu mask i-i-k,i,perturb:=pert,dummy:=none }
 |0,_=>rfl
 |k+1,hk=>by
  rw[bM,pX mask i pert k (by lia)]
  unfold adv;rw[Bd (by show Hu mask i-i-k>0;lia)]
  simp only[Probe.mk.injEq,and_true,true_and]
  lia
theorem cR (mask i pert:Ai):it mask (Hu mask i-i+1) (rs mask i pert)=rs mask (leap mask i pert).1 (leap mask i pert).2:=by
 rw[bM,pX mask i pert _ (Av _)];unfold adv;rw[Bf (by show ¬ (Hu mask i-i-(Hu mask i-i)>0);lia)]
 rfl
theorem SR (mask i:Ai):Hu mask i-i+1<=10:=by
 unfold Hu
 split <;> lia
noncomputable def lp (mask:Ai):Ai->Ai × Ai->Ai × Ai
 |0,q=>q
 |n+1,q=>lp mask n (leap mask q.1 q.2)
theorem ZZ (mask:Ai):∀ (m n:Ai) (q:Ai × Ai),lp mask (m+n) q=lp mask n (lp mask m q)
 |0,n,p=>by rw[Hg];rfl
 |m+1,n,p=>by rw[Qt];exact ZZ mask m n _
theorem JL (mask:Ai):∀ (n i pert:Ai),∃ k,k<=10*n/\it mask k (rs mask i pert)=rs mask (lp mask n (i,pert)).1 (lp mask n (i,pert)).2
 |0,i,pert=>⟨0,by lia,rfl⟩
 |n+1,i,pert=>by
  obtain⟨k,hk,e⟩:=JL mask n (leap mask i pert).1 (leap mask i pert).2;refine⟨(Hu mask i-i+1)+k,by have:=SR mask i;lia,?_⟩
  rw[mM,cR,e];rfl
theorem a8 (mask:Ai):∀ (n i pert:Ai),(lp mask n (i,pert)).2=pert/32 ^ n
 |0,i,pert=>by simp[lp]
 |n+1,i,pert=>by
  show (lp mask n ((leap mask i pert).1,pert/32)).2=_;rw[a8 mask n _ (pert/32),Nat.div_div_eq_div_mul,<- Nat.pow_succ']
theorem n9 (mask i pert:Ai):(leap mask i pert).1<=mask:=Lu (Py _ (Nm _))
theorem JO (mask:Ai):∀ (n i pert:Ai),i<=mask->(lp mask n (i,pert)).1<=mask
 |0,i,pert,h=>h
 |n+1,i,pert,h=>JO mask n _ _ (n9 mask i pert)
theorem cC (h:An):bits h<2 ^ 64:=by
 unfold bits;have h1:(0:An)<=h % 2 ^ 64:=Mv _ (by decide)
 have h2:h % 2 ^ 64<(2 ^ 64:An):=Kv _ (by decide)
 lia
noncomputable def cyc (mask:Ai):Ai->Ai->Ai
 |0,i=>i
 |n+1,i=>cyc mask n ((i*5+1) % (mask+1))
theorem bH (mask:Ai):∀ (m n i:Ai),cyc mask (m+n) i=cyc mask n (cyc mask m i)
 |0,n,p=>by rw[Hg];rfl
 |m+1,n,p=>by rw[Qt];exact bH mask m n _
theorem X0 (mask:Ai):∀ (n i:Ai),(lp mask n (i,0)).1=cyc mask n i
 |0,i=>rfl
 |n+1,i=>by
  show (lp mask n (leap mask i 0)).1=_;have:leap mask i 0=((i*5+1) % (mask+1),0):=by simp[leap]
  rw[this,X0 mask n];rfl
def Msk (mask:Ai):Prop:=mask=7\/mask=31\/mask=127\/mask=511\/mask=2047
noncomputable def orb (mask:Ai):Ai->Ai->Ai->Ai
 |0,_,acc=>acc
 |n+1,i,acc=>orb mask n ((i*5+1) % (mask+1)) (acc ||| 1 <<< i)
noncomputable def QV (mask:Ai):Ar:=orb mask (mask+1) 0 0 == 2 ^ (mask+1)-1&&cyc mask (mask+1) 0 == 0
theorem QX (h:Msk mask):QV mask=true:=by
 rcases h with rfl|rfl|rfl|rfl|rfl <;> decide +kernel
theorem aI (mask e:Ai):∀ (n i acc:Ai),(orb mask n i acc).testBit e=true->acc.testBit e=true\/∃ m,m<n/\cyc mask m i=e
 |0,i,acc,h=>.inl h
 |n+1,i,acc,h=>by
  rcases aI mask e n _ _ h with q|⟨m,hm,q⟩
  .rw[Nat.testBit_or,Ub] at q
   rcases q with q|q
   .exact .inl q
   .rw[Nat.one_shiftLeft,Nat.testBit_two_pow,Cq] at q
    exact .inr ⟨0,by lia,q⟩
  .exact .inr ⟨m+1,by lia,q⟩
theorem Y2 (h:Msk mask){i e:Ai}(hi:i<=mask)(he:e<=mask):∃ n,n<=mask/\cyc mask n i=e:=by
 have a:=QX h;unfold QV at a;rw[Bq] at a;obtain⟨a1,a2⟩:=a;have a1:orb mask (mask+1) 0 0=2 ^ (mask+1)-1:=by simpa using a1
 have g:∀ e,e<=mask->∃ n,n<=mask/\cyc mask n 0=e:=λe he=>by
  have q:(orb mask (mask+1) 0 0).testBit e=true:=by rw[a1,Nat.testBit_two_pow_sub_one];simp;lia
  rcases aI mask e _ _ _ q with q|⟨n,hn,q⟩
  .simp at q
  .exact⟨n,by lia,q⟩
 have a3:cyc mask (mask+1) 0=0:=by simpa using a2
 obtain⟨m,hm,em⟩:=g i hi;obtain⟨n,hn,en⟩:=g e he;by_cases q:m<=n
 .refine⟨n-m,by lia,?_⟩
  rw[<- em,<- bH,show m+(n-m)=n by lia]
  exact en
 .refine⟨n+(mask+1)-m,by lia,?_⟩
  rw[<- em,<- bH,show m+(n+(mask+1)-m)=(mask+1)+n by lia,bH,a3]
  exact en
theorem rQ (h:Msk mask){i pert e:Ai}(hi:i<=mask)(hp:pert<2 ^ 64)(he:e<=mask):∃ n,n<=mask+13/\(lp mask n (i,pert)).1=e:=by
 have h0:(lp mask 13 (i,pert)).2=0:=by
  rw[a8];apply Nat.div_eq_of_lt;exact Io hp (by decide)
 obtain⟨n,hn,q⟩:=Y2 h (JO mask 13 i pert hi) he;refine⟨13+n,by lia,?_⟩
 rw[ZZ];have:lp mask 13 (i,pert)=((lp mask 13 (i,pert)).1,0):=by rw[<- h0]
 rw[this,X0];exact q
theorem rL (h:Msk mask)(hs:An){e:Ai}(he:e<=mask):∃ n,n<10*turns mask/\(it mask n (st mask hs)).j=e:=by
 obtain⟨n,hn,q⟩:=rQ h (i:=bits hs % (mask+1)) (Lu (Py _ (Nm _))) (cC hs) he;obtain⟨k,hk,e1⟩:=JL mask n (bits hs % (mask+1)) (bits hs);refine⟨k,by unfold turns;lia,?_⟩
 show (it mask k (rs mask _ _)).j=e;rw[e1];exact q
theorem fT (mask:Ai):∀ (n:Ai) (p:Nz),(it mask n p).dummy=p.dummy
 |0,p=>rfl
 |n+1,p=>by
  show (it mask n (adv mask p)).dummy=_;rw[fT mask n];unfold adv
  split <;> rfl
def Way (t:Fn)(p:Nz)(n:Ai):Prop:=∀ m,m<n->(it t.mask m p).j∈t.place.toList
inductive Meets (t:Fn)(hashAt:Ai->An)(h:An)(p:Nz)(fuel:Ai):Al SetTable.Met->Prop
 |emp (n:Ai) (hn:n<fuel) (w:Way t p n) (e:(it t.mask n p).j ∉ t.place.toList) (q:∀ m i,m<n->t.place[i]? = Ab (it t.mask m p).j->hashAt i≠h):Meets t hashAt h p fuel (Ab (.empty (it t.mask n p).j none))
 |cand (n i:Ai) (hn:n<fuel) (w:Way t p n) (e:t.place[i]? = Ab (it t.mask n p).j) (hh:hashAt i=h) (q:∀ m i,m<n->t.place[i]? = Ab (it t.mask m p).j->hashAt i≠h):Meets t hashAt h p fuel (Ab (.candidate (it t.mask n p).j i (it t.mask (n+1) p)))
theorem W3 (h:Rs xs){a b x:Ai}(ha:xs[a]? = Ab x)(hb:xs[b]? = Ab x):a=b:=by rw[<- fL h ha,fL h hb]
set_option tactic.hygienic true in
theorem gH {t:Fn}(T:Tb t)(hashAt:Ai->An)(h:An):∀ (fuel:Ai) (p:Nz),p.dummy=none->(∃ n,n<fuel/\(it t.mask n p).j ∉ t.place.toList)->Meets t hashAt h p fuel (Lv t hashAt h fuel p)
 |0,p,_,⟨n,hn,_⟩=>by lia
 |fuel+1,p,hd,⟨n,hn,hne⟩=>by
  unfold Lv;rcases oU T p.j with⟨i,e,ei⟩|⟨e,q⟩
  .rw[e]
   simp only
   split
   .rename_i hh
    exact Meets.cand 0 i (by lia) (λm hm=>by lia) ei (by simpa using hh) λm i hm=>by lia
   .rename_i hh
    have hh':hashAt i≠h:=by simpa using hh
    have hn0:n≠0:=by
     rintro rfl;exact hne (Cy (by rw[Bn];exact ei))
    obtain⟨n',rfl⟩:∃ n',n=n'+1:=⟨n-1,by lia⟩
    have ih:=gH T hashAt h fuel (adv t.mask p) (by rw[<- hd];exact fT t.mask 1 p) ⟨n',by lia,hne⟩
    rw[M4];have mem0:p.j∈t.place.toList:=Cy (by rw[Bn];exact ei)
    have up:∀ {k:Ai},Way t (adv t.mask p) k->Way t p (k+1):=λ{k} w m hm=>by
     cases m with
     |zero=>exact mem0
     |succ m=>exact w m (by lia)
    have upq:∀ {k:Ai},(∀ m i,m<k->t.place[i]? = Ab (it t.mask m (adv t.mask p)).j->hashAt i≠h)->∀ m i,m<k+1->t.place[i]? = Ab (it t.mask m p).j->hashAt i≠h:=λ{k} q m i' hm e'=>by
     cases m with
     |zero=>rw[W3 T.rs e' ei];exact hh'
     |succ m=>exact q m i' (by lia) e'
    generalize hg:Lv t hashAt h fuel (adv t.mask p)=r at ih;cases ih with
    |emp k hk w e1 q1=>exact Meets.emp (p:=p) (k+1) (by lia) (up w) e1 (upq q1)
    |cand k i' hk w e1 hh1 q1=>exact Meets.cand (p:=p) (k+1) i' (by lia) (up w) e1 hh1 (upq q1)
  .rw[e]
   simp only[hd];exact Meets.emp (p:=p) 0 (by lia) (λm hm=>by lia) q λm i hm=>by lia
end _S
namespace _S
open PySem
open PySem.SetTable (Probe leap runEnd turns bits)
variable {us:Aa Ai}{mask:Ai}{owner:Ax (Al Ai)}
structure Own (mask:Ai)(owner:Ax (Al Ai))(us:Aa Ai):Prop where
 size:owner.size=mask+1
 nd:us.Nodup
 le:∀ u∈us,u<=mask
 at':∀ j k,j<=mask->(owner.getD j (Ab 0)=Ab k↔us[k]? = Ab j)
theorem nU {i:Ai}(hi:i<=mask):Hu mask i<=mask:=by
 unfold Hu
 split <;> lia
theorem nV (mask i:Ai):i<=Hu mask i:=by
 unfold Hu
 split <;> lia
theorem Own.none (O:Own mask owner us){j:Ai}(hj:j<=mask):(owner.getD j (Ab 0)).isNone=true↔j ∉ us:=by
 constructor
 .intro h hm
  obtain⟨k,hk,e⟩:=Cs.mp hm;have:=(O.at' j k hj).mpr (by rw[Ao hk,e])
  rw[this] at h;cases h
 .intro h
  cases q:owner.getD j (Ab 0) with
  |none=>rfl
  |some k=>exact absurd (Cy ((O.at' j k hj).mp q)) h
theorem lN (O:Own mask owner us):∀ (fuel i pert:Ai),i<=mask->(∃ L,L<fuel/\(lp mask L (i,pert)).1 ∉ us) ->
  ∃ n,Jd mask owner fuel i pert=Ab (it mask n (rs mask i pert)).j/\(it mask n (rs mask i pert)).j<=mask/\(it mask n (rs mask i pert)).j ∉ us/\∀ m,m<n->(it mask m (rs mask i pert)).j∈us
 |0,i,pert,hi,⟨L,hL,_⟩=>by lia
 |fuel+1,i,pert,hi,⟨L,hL,hne⟩=>by
  unfold Jd;have hmx:=nU hi;have hmn:=nV mask i;cases hf:(Cz (Hu mask i+1-i)).find? λk=>(owner.getD (i+k) (Ab 0)).isNone with
  |some k =>
   obtain⟨h1,h2,h3⟩:=List.find?_range_eq_some.mp hf;have hk:k<Hu mask i+1-i:=Do.mp h2;have ej:(it mask k (rs mask i pert)).j=i+k:=by rw[pX mask i pert k (by lia)]
   refine⟨k,?_,?_,?_,λm hm=>?_⟩
   .rw[ej]
   .rw[ej];lia
   .rw[ej];exact(O.none (by lia)).mp h1
   .rw[pX mask i pert m (by lia)]
    have:=h3 m hm;apply Ft;intro q;rw[(O.none (show i+m<=mask by lia)).mpr q] at this
    cases this
  |none =>
   have hall:∀ k,k<Hu mask i+1-i->i+k∈us:=λk hk=>by
    have:=Kw.mp hf k (Do.mpr hk);apply Ft;intro q;exact this ((O.none (show i+k<=mask by lia)).mpr q)
   have hL0:L≠0:=by
    rintro rfl;exact hne (hall 0 (by lia))
   obtain⟨L',rfl⟩:∃ L',L=L'+1:=⟨L-1,by lia⟩
   obtain⟨n,q1,q2,q3,q4⟩:=lN O fuel (leap mask i pert).1 (leap mask i pert).2 (n9 mask i pert) ⟨L',by lia,hne⟩
   have e:∀ m,it mask (Hu mask i-i+1+m) (rs mask i pert)=it mask m (rs mask (leap mask i pert).1 (leap mask i pert).2):=λm=>by rw[mM,cR]
   refine⟨Hu mask i-i+1+n,?_,?_,?_,λm hm=>?_⟩
   .rw[e];exact q1
   .rw[e];exact q2
   .rw[e];exact q3
   .by_cases hlt:m<Hu mask i-i+1
    .rw[pX mask i pert m (by lia)]
     exact hall m (by lia)
    .obtain⟨m',rfl⟩:∃ m',m=Hu mask i-i+1+m':=⟨m-(Hu mask i-i+1),by lia⟩
     rw[e];exact q4 m' (by lia)
theorem gap (h:us.length<=mask):∃ e,e<=mask/\e ∉ us:=by
 apply Ft;intro q;have:Cz (mask+1) ⊆ us:=λe he=>by
  apply Ft;intro r;exact q ⟨e,by have:=Do.mp he;lia,r⟩
 have:=List.Nodup.length_le_of_subset Zq this;rw[Fk] at this
 lia
theorem PY (mask:Ai):Own mask (Array.replicate (mask+1) none) []:=by
 refine⟨by simp,Hl,λu hu=>by simp at hu,λj k hj=>?_⟩
 have:j<mask+1:=by lia
 simp[Gs,this]
theorem VT (O:Own mask owner us){j:Ai}(hj:j<=mask)(hn:j ∉ us):Own mask (owner.setIfInBounds j (Ab us.length)) (us++[j]):=by
 refine⟨by simp[O.size],?_,λu hu=>?_,λi k hi=>?_⟩
 .rw[Jw]
  refine⟨O.nd,by simp,λa ha b hb=>?_⟩
  simp at hb;rintro rfl;subst hb;exact hn ha
 .rcases Bz.mp hu with h|h
  .exact O.le u h
  .simp at h;lia
 .have hsz:=O.size
  have hi':i<owner.size:=by lia
  have hk:∀ {k},us[k]? = Ab i->k<us.length:=λq=>(Bi.mp q).1;by_cases hij:j=i
  .subst hij
   have e1:(owner.setIfInBounds j (Ab us.length)).getD j (Ab 0)=Ab us.length:=by simp[Gs,hi']
   rw[e1];constructor
   .intro q;cases q;simp
   .intro q
    by_cases h1:k<us.length
    .rw[Bl h1] at q
     exact absurd (Cy q) hn
    .rw[Dg (by lia)] at q
     have:k-us.length=0:=by
      cases hz:k-us.length with
      |zero=>rfl
      |succ z=>rw[hz] at q;simp at q
     congr 1;lia
  .have e1:(owner.setIfInBounds j (Ab us.length)).getD i (Ab 0)=owner.getD i (Ab 0):=by
    simp[Gs,hi',Array.getElem_setIfInBounds,hij]
   rw[e1,O.at' i k hi];constructor
   .intro q;rw[Bl (hk q)];exact q
   .intro q
    by_cases h1:k<us.length
    .rw[Bl h1] at q;exact q
    .rw[Dg (by lia)] at q
     cases hz:k-us.length with
     |zero=>rw[hz] at q;simp at q;exact absurd q hij
     |succ z=>rw[hz] at q;simp at q
def i9 (mask:Ai)(us:Aa Ai)(hs:Aa An):Prop:=∀ (k:Ai) (h:An),hs[k]? = Ab h->∃ n,us[k]? = Ab (it mask n (st mask h)).j/\∀ m,m<n->(it mask m (st mask h)).j∈us
theorem lM (hM:Msk mask):∀ (hs done:Aa An) (owner:Ax (Al Ai)) (us:Aa Ai),Own mask owner us->us.length=done.length->done.length+hs.length<=mask->i9 mask us done ->
  ∃ owner' us',hs.foldl (λacc h=>do
   let (owner,k) <- acc
   let j <- Jd mask owner (turns mask) (bits h % (mask+1)) (bits h)
   pure (owner.setIfInBounds j (Ab k),k+1)) (Ab (owner,us.length))=Ab (owner',us'.length)/\Own mask owner' us'/\us'.length=done.length+hs.length/\i9 mask us' (done++hs)
 |[],done,owner,us,O,hl,_,hL=>⟨owner,us,rfl,O,by simpa using hl,by simpa using hL⟩
 |h::hs,done,owner,us,O,hl,hlen,hL=>by
  rw[AT] at hlen;obtain⟨e,he,hne⟩:=gap (mask:=mask) (us:=us) (by lia)
  obtain⟨L,hLn,hLe⟩:=rQ hM (i:=bits h % (mask+1)) (Lu (Py _ (Nm _))) (cC h) he;obtain⟨n,q1,q2,q3,q4⟩:=lN O (turns mask) (bits h % (mask+1)) (bits h) (Lu (Py _ (Nm _))) ⟨L,by unfold turns;lia,by rw[hLe];exact hne⟩
  have O':=VT O q2 q3;have hL':i9 mask (us++[(it mask n (rs mask (bits h % (mask+1)) (bits h))).j]) (done++[h]):=λk h' e'=>by
   by_cases hk:k<done.length
   .rw[Bl hk] at e'
    obtain⟨n',w1,w2⟩:=hL k h' e';exact⟨n',by rw[Bl (by lia)];exact w1,λm hm=>Dc _ (w2 m hm)⟩
   .rw[Dg (by lia)] at e'
    cases hz:k-done.length with
    |succ z=>rw[hz] at e';simp at e'
    |zero =>
     rw[hz] at e';simp at e';subst e';refine⟨n,?_,λm hm=>Dc _ (q4 m hm)⟩;rw[Dg (by lia),hl,hz]
     rfl
  obtain⟨owner',us',r1,r2,r3,r4⟩:=lM hM hs (done++[h]) _ _ O' (by simp[hl]) (by simp;lia) hL'
  refine⟨owner',us',?_,r2,by simpa [Nat.add_assoc,Ts 1] using r3,by simpa using r4⟩
  rw[Mw];rw[Aw] at r1;have e0:(do
   let (owner,k) <- Ab (owner,us.length)
   let j <- Jd mask owner (turns mask) (bits h % (mask+1)) (bits h)
   pure (owner.setIfInBounds j (Ab k),k+1))=Ab (owner.setIfInBounds (it mask n (rs mask (bits h % (mask+1)) (bits h))).j (Ab us.length),us.length+1):=by
   show (Jd mask owner (turns mask) (bits h % (mask+1)) (bits h)).bind _=_;rw[q1];rfl
  rw[e0];exact r1
theorem dB (hM:Msk mask)(hs:Ax An)(hlen:hs.size<=mask):∃ owner us,Yv mask hs=Ab owner/\Own mask owner us/\us.length=hs.size/\i9 mask us hs.toList:=by
 obtain⟨owner',us',r1,r2,r3,r4⟩:=lM hM hs.toList [] _ [] (PY mask) rfl (by simpa using hlen) (λk h e=>by simp at e)
 refine⟨owner',us',?_,r2,by simpa using r3,by simpa using r4⟩
 unfold Yv;rw[<- Array.foldl_toList];have:(([]:Aa Ai).length)=0:=rfl;rw[this] at r1
 erw [r1]
 rfl
structure Laid (mask:Ai)(hs:Ax An)(t:Fn)(qQ:Ax Ai):Prop where
 msk:t.mask=mask
 tb:Tb t
 size:t.place.size=hs.size
 le:∀ x∈t.place.toList,x<=mask
 perm:qQ.toList.Perm (Cz hs.size)
 way:∀ (i k:Ai) (h:An),qQ[i]? = Ab k->hs[k]? = Ab h->∃ n,t.place[i]? = Ab (it mask n (st mask h)).j/\Way t (st mask h) n
theorem ZV (hM:Msk mask)(hs:Ax An)(hlen:hs.size<=mask)(finger moves:Ai)(led plain:Ar) :
  ∃ t qQ,Wp mask finger moves led plain hs=Ab (t,qQ)/\t.led=led/\t.plain=plain/\Laid mask hs t qQ:=by
 obtain⟨owner,us,e,O,hl,hL⟩:=dB hM hs hlen;have hg:∀ j,j<=mask->owner.getD j none=owner.getD j (Ab 0):=λj hj=>by
  have:j<owner.size:=by rw[O.size];lia
  simp[Gs,this]
 generalize hlv:((Cz (mask+1)).filterMap λj=>(owner.getD j none).map (j,·))=live
 have mem:∀ (j k:Ai),(j,k)∈live↔us[k]? = Ab j:=λj k=>by
  rw[<- hlv,Nd];constructor
  .rintro⟨j',hj',q⟩
   have hj'':j'<=mask:=by have:=Do.mp hj';lia
   rw[hg j' hj''] at q;cases hz:owner.getD j' (Ab 0) with
   |none=>rw[hz] at q;cases q
   |some k' =>
    rw[hz] at q;simp at q;obtain⟨rfl,rfl⟩:=q;exact(O.at' _ _ hj'').mp hz
  .intro q
   have hj:j<=mask:=O.le j (Cy q);refine⟨j,Do.mpr (by lia),?_⟩
   rw[hg j hj,(O.at' j k hj).mpr q];rfl
 have hfst:live.map (·.1)=(Cz (mask+1)).filter λj=>(owner.getD j none).isSome:=by
  rw[<- hlv,List.map_filterMap];generalize owner.getD=f
  induction Cz (mask+1) with
  |nil=>rfl
  |cons a l ih =>
   rw[Ir,Zr];cases hz:f a none with
   |none=>simpa using ih
   |some k=>simpa using ih
 have hR:(live.map (·.1)).Pairwise (· < ·):=by
  rw[hfst];exact List.Pairwise.filter _ Oe
 have ndl:(live.map (·.2)).Nodup:=by
  unfold Aa1;rw[Ga];have h1:=Ga.mp hR;refine So (λ{a b} ha hb hab=>?_) h1;intro q;have ea:=(mem a.1 a.2).mp ha;have eb:=(mem b.1 b.2).mp hb;rw[<- q,ea] at eb;simp at eb
  lia
 have pm:(live.map (·.2)).Perm (Cz hs.size):=by
  rw[Rc ndl Zq];intro k;rw[Br,Do,<- hl];constructor
  .rintro⟨⟨j,k'⟩,h1,rfl⟩
   exact(Bi.mp ((mem j k').mp h1)).1
  .intro hk
   exact⟨(us[k],k),(mem _ _).mpr (Ao hk),rfl⟩
 have hmem:∀ j,j∈live.map (·.1)↔j∈us:=λj=>by
  rw[Br];constructor
  .rintro⟨⟨j',k⟩,h1,rfl⟩
   exact Cy ((mem _ _).mp h1)
  .intro h1
   obtain⟨k,hk,e⟩:=Cs.mp h1;exact⟨(j,k),(mem _ _).mpr (by rw[Ao hk,e]),rfl⟩
 refine⟨{ mask,place:=(live.map (·.1)).toArray,dummies:=#[],finger,led,moves,plain },(live.map (·.2)).toArray,?_,rfl,rfl,rfl,⟨?_,rfl⟩,?_,λx hx=>?_,?_,λi k h e1 e2=>?_⟩
 .unfold Wp
  rw[e,<- hlv];rfl
 .exact hR
 .have:=pm.length_eq
  simp at this ⊢;exact this
 .exact O.le x ((hmem x).mp hx)
 .exact pm
 .have e1':(live.map (·.2))[i]? = Ab k:=by simpa using e1
  rw[Dy] at e1';cases hz:live[i]? with
  |none=>rw[hz] at e1';cases e1'
  |some jk =>
   rw[hz] at e1';simp at e1';have hin:=Cy hz;have hu:=(mem jk.1 jk.2).mp hin;obtain⟨n,w1,w2⟩:=hL k h (by rw[Bn];exact e2)
   rw[<- e1'] at w1;rw[hu] at w1;refine⟨n,?_,λm hm=>?_⟩
   .rw[<- w1]
    simp[hz]
   .have:=(hmem _).mpr (w2 m hm)
    simpa using this
theorem F7 {t:Fn}{hs:Ax An}{w:Ai}:SetTable.relaid t hs w=Wp (Fa w-1) t.finger (t.movedTo (Fa w-1)) t.led t.plain hs:=rfl
end _S
namespace _S
open PySem
open PySem.SetTable (Probe leap runEnd turns bits)
structure Set0 {K:Type}(is:K->Ac->Prop)(hash:K->An)(es:Ax (An × Ac))(seen:Aa K):Prop where
 good:∀ e∈es.toList,∃ k,e.1=hash k/\is k e.2
 nd:es.toList.Pairwise λa b=>∀ k,is k a.2->¬ is k b.2
 mem:∀ k,k∈seen↔∃ e∈es.toList,is k e.2
section
variable {K:Type}{is:K->Ac->Prop}{hash:K->An}{es es':Ax (An × Ac)}{seen seen':Aa K}
theorem Set0.perm (Z:Set0 is hash es seen)(p:es'.toList.Perm es.toList):Set0 is hash es' seen:=
 ⟨λe he=>Z.good e (p.mem_iff.mp he),(p.pairwise_iff λ{x y} h k hy hx=>h k hx hy).mpr Z.nd,λk=>(Z.mem k).trans ⟨λ⟨e,he,q⟩=>⟨e,p.mem_iff.mpr he,q⟩,λ⟨e,he,q⟩=>⟨e,p.mem_iff.mp he,q⟩⟩⟩
theorem Set0.nil:Set0 is hash #[] []:=⟨λe he=>by simp at he,by simp,λk=>by simp⟩
theorem Set0.push (Z:Set0 is hash es seen)(inj:∀ {k k':K} {v:Ac},is k v->is k' v->k=k'){k:K}{x:Ac}(hk:is k x)(hn:k ∉ seen)(p:es'.toList.Perm (es.toList++[(hash k,x)])):Set0 is hash es' (k::seen):=by
 refine Set0.perm (es:=es.push (hash k,x)) ⟨λe he=>?_,?_,λk'=>?_⟩ (by simpa using p)
 .rw[En] at he
  rcases Bz.mp he with he|he
  .exact Z.good e he
  .simp at he;subst he;exact⟨k,rfl,hk⟩
 .rw[En,Dn]
  refine⟨Z.nd,by simp,λa ha b hb k' h1 h2=>?_⟩
  simp at hb;subst hb;have:=inj hk h2;subst this;exact hn ((Z.mem k).mpr ⟨a,ha,h1⟩)
 .rw[Az,Z.mem,En]
  constructor
  .rintro (rfl|⟨e,he,q⟩)
   .exact⟨(hash k',x),by simp,hk⟩
   .exact⟨e,Dc _ he,q⟩
  .rintro⟨e,he,q⟩
   rcases Bz.mp he with he|he
   .exact .inr ⟨e,he,q⟩
   .simp at he;subst he;exact .inl (inj q hk)
theorem Set0.again (Z:Set0 is hash es seen){k:K}(hk:k∈seen):Set0 is hash es (k::seen):=
 ⟨Z.good,Z.nd,λk'=>by rw[Az,Z.mem];exact⟨λh=>h.elim (λe=>by subst e;exact(Z.mem _).mp hk) id,.inr⟩⟩
end
section
open Classical in
theorem fU {K:Type}{is:K->Ac->Prop}:∀ (L:Aa (An × Ac)) (U:Aa K),L.Pairwise (λa b=>∀ k,is k a.2->¬ is k b.2)->(∀ e∈L,∃ k∈U,is k e.2)->L.length<=U.length
 |[],U,_,_=>Fh _
 |e::L,U,nd,h=>by
  rw[Dw] at nd;obtain⟨k0,hk0,q0⟩:=h e (by simp)
  have ih:=fU L (U.erase k0) nd.2 λe' he'=>by
   obtain⟨k,hk,q⟩:=h e' (by simp[he'])
   have:k≠k0:=λz=>nd.1 e' he' k0 q0 (z▸q);exact⟨k,(Pg this).mpr hk,q⟩
  rw[Sr hk0] at ih;have:0<U.length:=Uf hk0;rw[AT]
  lia
open Classical in
theorem Set0.few {K:Type}{is:K->Ac->Prop}{hash:K->An}{es:Ax (An × Ac)}{seen U:Aa K}{k:K}(Z:Set0 is hash es seen)(hU:∀ k'∈seen,k'∈U)(hk:k∈U)(hn:k ∉ seen):es.size<U.length:=by
 have:=fU es.toList (U.erase k) Z.nd λe he=>by
  obtain⟨k',_,q⟩:=Z.good e he;have hs:=(Z.mem k').mpr ⟨e,he,q⟩;have hne:k'≠k:=λz=>hn (z▸hs);exact⟨k',(Pg hne).mpr (hU k' hs),q⟩
 rw[Sr hk,Bm] at this;have:0<U.length:=Uf hk
 lia
end
structure TabT (t:Fn)(es:Ax (An × Ac)):Prop where
 tb:Tb t
 msk:Msk t.mask
 size:t.place.size=es.size
 le:∀ x∈t.place.toList,x<=t.mask
 few:es.size*5<t.mask*3
 way:∀ (i:Ai) (e:An × Ac),es[i]? = Ab e->∃ n,t.place[i]? = Ab (it t.mask n (st t.mask e.1)).j/\Way t (st t.mask e.1) n
 plain:t.plain=true
theorem TabT.fits {t:Fn}{es:Ax (An × Ac)}(T:TabT t es):t.fits es.size=true:=by
 have h1:=T.size;have h2:=T.few;have h3:t.fill=es.size:=by unfold Mn;rw[T.tb.dm,h1];rfl
 unfold Wq;rw[h3,h1];rcases T.msk with h|h|h|h|h <;> rw[h] at h2 ⊢ <;> simp <;> lia
theorem TabT.gap {t:Fn}{es:Ax (An × Ac)}(T:TabT t es):∃ e,e<=t.mask/\e ∉ t.place.toList:=by
 apply _S.gap;rw[Bm,T.size];have h2:=T.few;rcases T.msk with h|h|h|h|h <;> rw[h] at h2 ⊢ <;> lia
theorem TabT.odd {t:Fn}{es:Ax (An × Ac)}(T:TabT t es):t.gaveWay=false:=by
 unfold SetTable.gaveWay;rcases T.msk with h|h|h|h|h <;> rw[h] <;> rfl
theorem TabT.put {t:Fn}{es:Ax (An × Ac)}(T:TabT t es){h:An}{x:Ac}{n:Ai}(w:Way t (st t.mask h) n)(hn:(it t.mask n (st t.mask h)).j ∉ t.place.toList)(hle:(it t.mask n (st t.mask h)).j<=t.mask) :
  let es':=Cg es (t.put (it t.mask n (st t.mask h)).j).2 (h,x)
  Tb (t.put (it t.mask n (st t.mask h)).j).1/\(t.put (it t.mask n (st t.mask h)).j).1.place.size=es'.size/\(∀ y∈(t.put (it t.mask n (st t.mask h)).j).1.place.toList,y<=t.mask) /\
  (∀ (i:Ai) (e:An × Ac),es'[i]? = Ab e->∃ m,(t.put (it t.mask n (st t.mask h)).j).1.place[i]? = Ab (it t.mask m (st t.mask e.1)).j/\Way (t.put (it t.mask n (st t.mask h)).j).1 (st t.mask e.1) m):=by
 generalize hj:(it t.mask n (st t.mask h)).j=j at *;have pm:∀ y,y∈(t.put j).1.place.toList↔y=j\/y∈t.place.toList:=λy=>by
  show y∈(Cg t.place (Co t.place j) j).toList↔_;rw[(Jc _ _ _).mem_iff];simp[or_comm]
 have hb:Co t.place j<=t.place.size:=(uU T.tb.rs j).le;have wm:∀ {p:Nz} {m:Ai},Way t p m->Way (t.put j).1 p m:=λ{p m} w q hq=>(pm _).mpr (.inr (w q hq));refine⟨D5 T.tb hn,?_,λy hy=>?_,λi e he=>?_⟩
 .show (Cg t.place _ j).size=(Cg es _ (h,x)).size
  rw[vJ,vJ,T.size]
 .rcases (pm y).mp hy with rfl|hy
  .exact hle
  .exact T.le y hy
 .have he':(if i<Co t.place j then es[i]? else if i=Co t.place j then Ab (h,x) else es[i-1]?)=Ab e:=by
   rw[<- mJ es (by rw[<- T.size];exact hb)]
   exact he
  have pl:(t.put j).1.place[i]? = if i<Co t.place j then t.place[i]? else if i=Co t.place j then Ab j else t.place[i-1]?:=mJ t.place hb j i
  rw[pl];by_cases h1:i<Co t.place j
  .rw[Bd h1] at he' ⊢
   obtain⟨m,q1,q2⟩:=T.way i e he';exact⟨m,q1,wm q2⟩
  .rw[Bf h1] at he' ⊢
   by_cases h2:i=Co t.place j
   .rw[Bd h2] at he' ⊢
    cases he';exact⟨n,by rw[hj],wm w⟩
   .rw[Bf h2] at he' ⊢
    obtain⟨m,q1,q2⟩:=T.way _ e he';exact⟨m,q1,wm q2⟩
theorem JK {mask:Ai}(p:Nz)(hp:p.j+p.more<=mask):∀ n,(it mask n p).j+(it mask n p).more<=mask
 |0=>hp
 |n+1=>by
  rw[bM];have ih:=JK p hp n;unfold adv
  split
  .show (it mask n p).j+1+((it mask n p).more-1)<=mask
   lia
  .show (leap mask _ _).1+(Hu mask (leap mask _ _).1-(leap mask _ _).1)<=mask
   have h1:=nU (n9 mask (it mask n p).i (it mask n p).perturb);have h2:=nV mask (leap mask (it mask n p).i (it mask n p).perturb).1
   lia
theorem K3 (mask:Ai)(h:An)(n:Ai):(it mask n (st mask h)).j<=mask:=by
 have h0:bits h % (mask+1)<=mask:=Lu (Py _ (Nm _));have:=JK (mask:=mask) (st mask h) (by
  show bits h % (mask+1)+(Hu mask (bits h % (mask+1))-bits h % (mask+1))<=mask;have h1:=nU h0;have h2:=nV mask (bits h % (mask+1))
  lia) n
 lia
theorem fE {t:Fn}{es:Ax (An × Ac)}(hM:Msk t.mask)(hp:t.plain=true)(h1:t.place.size=es.size)(h2:es.size<=1001)(hf:t.tooFull=true)(hd:t.dummies=#[])(h3:(es.size-1)*5<t.mask*3)(h4:0<es.size) :
  Fa (Hm es.size)<=2048/\∃ t' qQ,t.relaid (es.map (·.1)) (Hm es.size)=Ab (t',qQ)/\t'.led=t.led/\(qQ.filterMap (es[·]?)).toList.Perm es.toList/\TabT t' (qQ.filterMap (es[·]?))/\qQ.toList.Perm (Cz es.size):=by
 have hfill:t.fill=es.size:=by unfold Mn;rw[hd,h1];rfl
 have hful:t.mask*3<=es.size*5:=by
  unfold Tc at hf;rw[hfill] at hf;simpa using hf
 have hcase:(es.size=5/\Fa (Hm es.size)=32)\/(es.size=19/\Fa (Hm es.size)=128)\/(es.size=77/\Fa (Hm es.size)=512)\/(es.size=307/\Fa (Hm es.size)=2048):=by
  rcases hM with h|h|h|h|h <;> rw[h] at hful h3
  .have:es.size=5:=by lia
   exact .inl ⟨this,by rw[this];decide⟩
  .have:es.size=19:=by lia
   exact .inr (.inl ⟨this,by rw[this];decide⟩)
  .have:es.size=77:=by lia
   exact .inr (.inr (.inl ⟨this,by rw[this];decide⟩))
  .have:es.size=307:=by lia
   exact .inr (.inr (.inr ⟨this,by rw[this];decide⟩))
  .lia
 have hM':Msk (Fa (Hm es.size)-1):=by
  rcases hcase with⟨_,h⟩|⟨_,h⟩|⟨_,h⟩|⟨_,h⟩ <;> rw[h]
  .exact .inr (.inl rfl)
  .exact .inr (.inr (.inl rfl))
  .exact .inr (.inr (.inr (.inl rfl)))
  .exact .inr (.inr (.inr (.inr rfl)))
 have hle:(es.map (·.1)).size<=Fa (Hm es.size)-1:=by
  rw[Vn];rcases hcase with⟨h5,h⟩|⟨h5,h⟩|⟨h5,h⟩|⟨h5,h⟩ <;> rw[h,h5] <;> lia
 obtain⟨t',qQ,e,l1,l2,L⟩:=ZV hM' (es.map (·.1)) hle t.finger (t.movedTo (Fa (Hm es.size)-1)) t.led t.plain
 have hosz:qQ.size=es.size:=by
  have:=L.perm.length_eq;simpa using this
 have hord:∀ i k,qQ[i]? = Ab k->k<es.size:=λi k q=>by
  have:k∈Cz (es.map (·.1)).size:=L.perm.mem_iff.mp (Cy (by rw[Bn];exact q))
  simpa using this
 have hfm:(qQ.filterMap (es[·]?)).toList=qQ.toList.map λk=>es.toList.getD k (0,.none):=by
  rw[Array.toList_filterMap];have:∀ l:Aa Ai,(∀ k∈l,k<es.size)->l.filterMap (es[·]?)=l.map λk=>es.toList.getD k (0,.none):=by
   intro l
   induction l with
   |nil=>intro _;rfl
   |cons a l ih =>
    intro hl;have ha:=hl a (by simp)
    rw[Ir,De,ih λk hk=>hl k (by simp[hk])]
    rw[Eb ha];simp[ha]
  refine this _ λk hk=>?_;obtain⟨i,hi,q⟩:=Cs.mp hk;exact hord i k (by rw[<- Bn,Ao hi,q])
 have hperm:(qQ.filterMap (es[·]?)).toList.Perm es.toList:=by
  rw[hfm];have p1:=L.perm.map λk=>es.toList.getD k (0,Dq);refine p1.trans ?_;have e2:(Cz (es.map (·.1)).size).map (λk=>es.toList.getD k (0,Dq))=es.toList:=by
   apply Me
   .simp
   .intro i a1 a2
    have a3:i<es.size:=by simpa using a2
    simp[a3]
  rw[e2]
 have hsz:(qQ.filterMap (es[·]?)).size=es.size:=by rw[<- Bm,hperm.length_eq,Bm]
 have hentry:∀ i,(qQ.filterMap (es[·]?))[i]? = (qQ[i]?).map λk=>es.toList.getD k (0,.none):=λi=>by
  rw[<- Bn,hfm,Dy,Bn]
 refine⟨by rcases hcase with⟨_,h⟩|⟨_,h⟩|⟨_,h⟩|⟨_,h⟩ <;> rw[h] <;> decide,t',qQ,by rw[F7];exact e,l1,hperm,⟨L.tb,by rw[L.msk];exact hM',by rw[L.size,hsz,Vn],by rw[L.msk];exact L.le,?_,λi en q=>?_,by rw[l2];exact hp⟩,by have:=L.perm;rwa [Vn] at this⟩
 .rw[hsz,L.msk]
  rcases hcase with⟨h5,h⟩|⟨h5,h⟩|⟨h5,h⟩|⟨h5,h⟩ <;> rw[h,h5] <;> lia
 .rw[hentry] at q
  cases hz:qQ[i]? with
  |none=>rw[hz] at q;cases q
  |some k =>
   rw[hz] at q;simp only[Ug,Option.some.injEq] at q;have hk:=hord i k hz;have:(es.map (·.1))[k]? = Ab en.1:=by
    rw[Array.getElem?_map,Eb hk];rw[<- q];simp[hk]
   rw[L.msk];exact L.way i k en.1 hz this
end _S
namespace _S
open PySem
open PySem.SetTable (Probe leap runEnd turns bits)
variable {Q:Ar->Ag->Prop}
def Sup (h0 h:Bw):Prop:=∀ b o,h0.get? b=Ab o->h.get? b=Ab o
def isT (prog:Bg)(w:Ca)(h0:Bw)(ks:Aa An)(v:Ac):Prop:=∃ a,v=.ref a/\Pz (Bk prog w) h0 ks a
section
variable {prog:Bg}{w:Ca}{h0:Bw}
theorem isT.inj {x y:Aa An}{v:Ac}(hx:isT prog w h0 x v)(hy:isT prog w h0 y v):x=y:=by
 obtain⟨a,rfl,h1⟩:=hx;obtain⟨b,e,h2⟩:=hy;cases e;exact h1.inj h2
theorem vS {h:Bw}{ks:Aa An}{a:Af}(hS:Sup h0 h)(hx:Pz (Bk prog w) h0 ks a):Pz (Bk prog w) h ks a:=by
 obtain⟨o,items,n,ho,r⟩:=hx;exact⟨o,items,n,hS _ _ ho,r⟩
variable {A:Bt}{E:Ac->Ag->Prop}{s:Ag}
theorem E6 {k:Aa An}{v:Ac}{Q:An->Ag->Prop}(hu:A.units<Du)(hS:Sup h0 s.heap)(hx:isT prog w h0 k v)(h:Q (Bv (Bk prog w) k) { s with toks:=s.toks+(k.length+1) }) : Ap (As prog w) A (pyHash v) Q E s:=by
 obtain⟨a,rfl,hx⟩:=hx;exact wpAny_pyHash_tuple hu (vS hS hx) h
theorem eqT {k k':Aa An}{v v':Ac}(hu:A.units<Du)(hS:Sup h0 s.heap)(hx:isT prog w h0 k v)(hy:isT prog w h0 k' v')(h:Q (decide (k=k')) s):Ap (As prog w) A (eqBool v v') Q E s:=by
 obtain⟨a,rfl,hx⟩:=hx;obtain⟨b,rfl,hy⟩:=hy;exact wpAny_eqBool_tuple hu (vS hS hx) (vS hS hy) h
theorem mP:∀ {ks:Aa An} {vs:Aa Ac},ItemsAre (Bk prog w) ks vs->∀ v∈vs,∃ i t,v=.int i t:=by
 intro ks vs h
 induction h with
 |nil=>intro v hv;simp at hv
 |@cons k v' ks vs h1 _ ih =>
  intro v hv;rcases Az.mp hv with rfl|hv
  .cases v <;> first|exact⟨_,_,rfl⟩|exact absurd h1 (by rintro⟨⟩)
  .exact ih v hv
theorem A7 {k:Aa An}{v:Ac}(hS:Sup h0 s.heap)(hx:isT prog w h0 k v)(h:Q true s):Ap (As prog w) A (Re 8 v) Q E s:=by
 obtain⟨a,rfl,hx⟩:=hx;have hx:=vS hS hx;have hT:=hx.typeIs;obtain⟨o,items,n,ho,_,hd,hi⟩:=hx;unfold Re;refine Ad (Ua hT F.slot_tuple_hash.lookup ?_);show Ap _ _ (seqItems? (.ref a) >>= _) Q E s;refine Ad (Fe ho hd ?_);refine Ad ?_;show Ap _ _ (forIn items _ _) _ _ s;rw[<- Xo];refine IN _ (λrest r s'=>r.1=none/\s'=s/\∀ v∈rest,∃ i t,v=.int i t) _ ?_ ?_ _ _ ⟨rfl,rfl,mP hi⟩
 .rintro v rest r s' ⟨hr,rfl,hall⟩
  obtain⟨i,t,rfl⟩:=hall v Dl;show Ap _ _ (Re 7 (.int i t) >>= _) _ _ _;rw[show Re 7 (.int i t)=pure true from rfl]
  refine Ad (Am ?_);simp only[Lf,Cb,Ef];exact Am ⟨rfl,rfl,λu hu'=>hall u (Cn _ hu')⟩
 .rintro⟨r1,r2⟩ s' ⟨hr,rfl,_⟩
  simp only at hr;subst hr;exact Am h
theorem QP {k:Aa An}{v:Ac}(hS:Sup h0 s.heap)(hx:isT prog w h0 k v)(h:Q false s):Ap (As prog w) A (NE 8 v) Q E s:=by
 obtain⟨a,rfl,hx⟩:=hx;have hx:=vS hS hx;have hT:=hx.typeIs;obtain⟨o,items,n,ho,_,hd,hi⟩:=hx;unfold NE;refine Ad (Nl hT ?_);dsimp only;refine Ad (Am ?_);simp only[Lf,Cb,Ef];refine Ad (Fe ho hd ?_);refine Ad ?_;show Ap _ _ (forIn items _ _) _ _ s;rw[<- Xo];refine IN _ (λrest r s'=>r.1=none/\s'=s/\∀ v∈rest,∃ i t,v=.int i t) _ ?_ ?_ _ _ ⟨rfl,rfl,mP hi⟩
 .rintro v rest r s' ⟨hr,rfl,hall⟩
  obtain⟨i,t,rfl⟩:=hall v Dl;show Ap _ _ (NE 7 (.int i t) >>= _) _ _ _;rw[show NE 7 (.int i t)=pure false from rfl]
  refine Ad (Am ?_);simp only[Cb,Ef];exact Am ⟨rfl,rfl,λu hu'=>hall u (Cn _ hu')⟩
 .rintro⟨r1,r2⟩ s' ⟨hr,rfl,_⟩
  simp only at hr;subst hr;exact Am h
theorem XY {k:Aa An}{v:Ac}(hS:Sup h0 s.heap)(hx:isT prog w h0 k v)(h:Q true s):Ap (As prog w) A (eqIsQuiet 8 v) Q E s:=by
 obtain⟨a,rfl,hx⟩:=hx;exact wpAny_eqIsQuiet_tuple (vS hS hx) h
theorem o9 {α:Type}{c:Prop}[Ju c]{M:Pj}{t u:Ln α}{Q:α->Ag->Prop}(h1:c->Ap M A t Q E s)(h2:¬ c->Ap M A u Q E s):Ap M A (if c then t else u) Q E s:=by
 by_cases h:c
 .rw[Bd h];exact h1 h
 .rw[Bf h];exact h2 h
theorem HP {k:Aa An}{x:Ac}{ys:Aa Ac}(hS:Sup h0 s.heap)(hx:isT prog w h0 k x)(hy:∀ y∈ys,∃ k',isT prog w h0 k' y)(h:Q false s):Ap (As prog w) A (Yw x ys) Q E s:=by
 unfold Yw;refine Ad ?_;refine IN _ (λrest r s'=>r.1=none/\s'=s/\∀ v∈rest,∃ k',isT prog w h0 k' v) _ ?_ ?_ _ _ ⟨rfl,rfl,hy⟩
 .rintro v rest r s' ⟨hr,rfl,hall⟩
  obtain⟨k',hv⟩:=hall v Dl;have hrest:∀ u∈rest,∃ k',isT prog w h0 k' u:=λu hu'=>hall u (Cn _ hu');dsimp only;refine o9 (λ_=>Am ⟨rfl,rfl,hrest⟩) λ_=>?_
  .refine Ad (XY hS hx ?_)
   simp only[Lf,Cb,Ef];refine Ad (XY hS hv ?_);simp only[Lf,Cb,Ef];refine Ad (QP hS hx ?_);simp only[Cb,Ef];refine Ad (QP hS hv ?_);simp only[Cb,Ef];exact Am ⟨rfl,rfl,hrest⟩
 .rintro⟨r1,r2⟩ s' ⟨hr,rfl,_⟩
  simp only at hr;subst hr;exact Am h
theorem HM {k:Aa An}{v:Ac}(hx:isT prog w h0 k v)(h:Q true s):Ap (As prog w) A (isSame v v) Q E s:=by
 obtain⟨a,rfl,hx⟩:=hx;unfold isSame;simp only[Gk,Ds];exact Am h
theorem JG {k:Aa An}{x:Ac}{S:Af}{o:Cu}{es:Ax (An × Ac)}{ep:Ai}{t:Fn}{seen:Aa (Aa An)}(hu:A.units<Du)(hS:Sup h0 s.heap)(ho:s.heap.get? S=Ab o)(hd:o.data=.set es ep t)
  (T:TabT t es) (Z:Set0 (isT prog w h0) (Bv (Bk prog w)) es seen) (hx:isT prog w h0 k x) (N:Ai) (hNw:Way t (st t.mask (Bv (Bk prog w) k)) N)
  (hNe:(it t.mask N (st t.mask (Bv (Bk prog w) k))).j ∉ t.place.toList) (hNf:N<10*turns t.mask) {Q:SetFound->Ag->Prop}
  (h1:k∈seen->Q (.there none) s) (h2:k ∉ seen->Q (.free (it t.mask N (st t.mask (Bv (Bk prog w) k))).j false) s) :
  ∀ (fuel n:Ai) (stand:Al Nz),stand.getD (t.probeStart (Bv (Bk prog w) k))=it t.mask n (st t.mask (Bv (Bk prog w) k))->n<=N->N-n<fuel ->
   (∀ (m i:Ai) (e:An × Ac),m<n->t.place[i]? = Ab (it t.mask m (st t.mask (Bv (Bk prog w) k))).j->es[i]? = Ab e->¬ isT prog w h0 k e.2) ->
   Ap (As prog w) A (Sb S x (Bv (Bk prog w) k) true fuel stand) Q E s
 |0,n,stand,_,_,hf,_=>by lia
 |fuel+1,n,stand,hst,hn,hf,hq=>by
  unfold Sb;refine Ad (Gb ho hd T.fits ?_);dsimp only;rw[T.odd];simp only[Cb,Ef];rw[hst];generalize hg:t.probe _ (Bv (Bk prog w) k) (it t.mask n (st t.mask (Bv (Bk prog w) k)))=r;obtain⟨H,hH,hg⟩:∃ H:Ai->An,(∀ i,H i=(es[i]?.map (·.1)).getD 0)/\t.probe H (Bv (Bk prog w) k) (it t.mask n (st t.mask (Bv (Bk prog w) k)))=r:=⟨_,λi=>rfl,hg⟩
  have itn:∀ m,it t.mask m (it t.mask n (st t.mask (Bv (Bk prog w) k)))=it t.mask (n+m) (st t.mask (Bv (Bk prog w) k)):=λm=>(mM _ _ _ _).symm;have gm:Meets t H (Bv (Bk prog w) k) (it t.mask n (st t.mask (Bv (Bk prog w) k))) (10*turns t.mask) r:=by
   rw[<- hg];refine gH T.tb H _ _ _ (by rw[fT];rfl) ⟨N-n,by lia,?_⟩
   rw[itn,show n+(N-n)=N by lia]
   exact hNe
  have miss:∀ j:Ai,(∀ m i:Ai,m<j->t.place[i]? = Ab (it t.mask m (it t.mask n (st t.mask (Bv (Bk prog w) k)))).j->H i≠Bv (Bk prog w) k) ->
    ∀ (m i:Ai) (e:An × Ac),m<n+j->t.place[i]? = Ab (it t.mask m (st t.mask (Bv (Bk prog w) k))).j->es[i]? = Ab e->¬ isT prog w h0 k e.2:=λj qj m i e hm ei ee hk=>by
   by_cases hmn:m<n
   .exact hq m i e hmn ei ee hk
   .refine qj (m-n) i (by lia) (by rw[itn,show n+(m-n)=m by lia];exact ei) ?_
    rw[hH,ee];obtain⟨k',e1,e2⟩:=Z.good e (Cy (by rw[Bn];exact ee))
    rw[isT.inj hk e2];simpa using e1
  cases gm with
  |emp j hj w' e' q =>
   rw[itn] at e';have hjN:n+j=N:=by
    rcases Yx (n+j) N with h|h|h
    .exact absurd (hNw _ h) e'
    .exact h
    .have:=w' (N-n) (by lia)
     rw[itn,show n+(N-n)=N by lia] at this
     exact absurd this hNe
   dsimp only;rw[itn,hjN];refine Am (h2 λhk=>?_);obtain⟨e,he,hke⟩:=(Z.mem k).mp hk;obtain⟨i,hi,ei⟩:=Cs.mp he;have ei':es[i]? = Ab e:=by rw[<- Bn,Ao hi,ei]
   obtain⟨m,w1,w2⟩:=T.way i e ei';obtain⟨k',g1,g2⟩:=Z.good e he;have:=isT.inj hke g2;subst this;rw[g1] at w1 w2;have hmN:m<N:=by
    apply Ft;intro hc;by_cases hmN:m=N
    .subst hmN
     exact hNe (Cy (by rw[Bn];exact w1))
    .exact hNe (w2 N (by lia))
   exact miss j q m i e (by lia) w1 ei' hke
  |cand j i hj w' e' hh q =>
   rw[itn] at e';have hi:i<es.size:=by
    rw[<- T.size];exact(Dx.mp e').1
   have ei:es[i]? = Ab es[i]:=Eb hi;have hjN:n+j<N:=by
    rcases Yx (n+j) N with h|h|h
    .exact h
    .rw[h] at e'
     exact absurd (Cy (by rw[Bn];exact e')) hNe
    .have:=w' (N-n) (by lia)
     rw[itn,show n+(N-n)=N by lia] at this
     exact absurd this hNe
   obtain⟨k',g1,g2⟩:=Z.good es[i] (by simp)
   dsimp only;have main:Ap (As prog w) A (do
     let Ab (_,y):=es[i]?|unsupported "internal:set-entry"
     let equal <- holding [y] (eqBool y x)
     let (es',_,t') <- Xb S
     if true&&equal then return .there none
     let Ab same:=t'.sameMemory t.moves t.mask|unsupported "set.changed-during-lookup:is-the-new-block-at-the-old-address"
     let still <- match (if same then t'.slot (it t.mask j (it t.mask n (st t.mask (Bv (Bk prog w) k)))).j else .empty) with
      |.live i'=>match es'[i']? with
       |some (_,y')=>do pure (if <- isSame y' y then Ab i' else none)
       |none=>pure none
      |_=>pure none
     match still with
     |none=>rule "set.search.anew";Sb S x (Bv (Bk prog w) k) true fuel none
     |some i'=>if equal then return .there (Ab i') else Sb S x (Bv (Bk prog w) k) true fuel (Ab (it t.mask (j+1) (it t.mask n (st t.mask (Bv (Bk prog w) k)))))) Q E s:=by
    rw[ei];dsimp only;refine Ad (Ej (eqT hu hS g2 hx ?_));refine Ad (Gb ho hd T.fits ?_);by_cases hkk:k'=k
    .subst hkk
     simp only[Kn,Bool.and_self,Ds];exact Am (h1 ((Z.mem k').mpr ⟨es[i],by simp,g2⟩))
    .simp only[hkk,Kt,Qk,Cb,Ef]
     have hm:t.sameMemory t.moves t.mask=Ab true:=by simp[SetTable.sameMemory]
     rw[hm];dsimp only;rw[itn,lZ T.tb e'];simp only[Ds,ei];refine Ad (HM g2 ?_);simp only[Ds];refine Ad (Am ?_);dsimp only;refine JG hu hS ho hd T Z hx N hNw hNe hNf h1 h2 fuel (n+j+1) _ ?_ (by lia) (by lia) λm i' e hm ei' ee hk=>?_
     .rw[Sz,itn]
      rfl
     .by_cases hmj:m<n+j
      .exact miss j q m i' e hmj ei' ee hk
      .have:m=n+j:=by lia
       subst this;have:=W3 T.tb.rs ei' e';subst this;rw[ei] at ee;cases ee;exact hkk (isT.inj g2 hk)
   refine o9 (λ_=>?_) λ_=>?_
   .refine Ad (HP hS hx (λy hy=>?_) ?_)
    .obtain⟨e,he,rfl⟩:=Br.mp hy
     have:e∈es.toList:=by
      have:=(Pd.mp he);exact Pd.mpr (Array.mem_filter.mp this).1
     obtain⟨k2,_,g⟩:=Z.good e this;exact⟨k2,g⟩
    .simp only[Cb,Ef]
     exact main
   .exact main
end
end _S
namespace _S
open PySem
open PySem.SetTable (Probe leap runEnd turns bits)
@[reducible] def setO (es:Ax (An × Ac))(ep:Ai)(t:Fn):Cu:={ cls:=.type "set",dict:=none,data:=.set es ep t }
theorem bT {h:Bw}{S:Af}{es es':Ax (An × Ac)}{ep:Ai}{t t':Fn}(ho:h.get? S=Ab (setO es ep t)):(h.update S (Aa2 es' t')).get? S=Ab (setO es' (ep+1) t'):=Es _ ho rfl
structure SetK {K:Type}(is:K->Ac->Prop)(hash:K->An)(S:Af)(led:Ar)(V:Aa Ac)(seen:Aa K)(h:Bw):Prop where
 ex:∃ es ep t,h.get? S=Ab (setO es ep t)/\Set0 is hash es seen/\TabT t es/\t.led=led/\∀ e∈es.toList,e.2∈V
section
variable {prog:Bg}{w:Ca}{h0:Bw}{A:Bt}{E:Ac->Ag->Prop}{s:Ag}{S:Af}{led:Ar}{V:Aa Ac}
theorem UJ (a:Af)(wanted:Ai):setRelay a wanted=(do
  let (es,_,t) <- Xb a
  if Fa wanted>sizeLine then unsupported "set:memory"
  let (es,t) <- (do
   let Ab (t,qQ):=t.relaid (es.map (·.1)) wanted|unsupported "internal:set-table-without-room"
   let es':=qQ.filterMap (es[·]?)
   if es'.size != es.size then unsupported "internal:set-table-lost-an-element"
   pure (es',t))
  storeSet a es t):=rfl
theorem A4 {seen:Aa (Aa An)}{k:Aa An}{x:Ac}{Q:Ar->Ag->Prop}(hu:A.units<Du)(hS:Sup h0 s.heap)(Z:SetK (isT prog w h0) (Bv (Bk prog w)) S led V seen s.heap)(hx:isT prog w h0 k x)(hV:x∈V){U:Aa (Aa An)}(hU:U.length<=1000)(hU1:∀ k'∈seen,k'∈U)(hU2:k∈U)
  (h:∀ (b:Ar) (h':Bw) (tk:Ai),s.toks<=tk->Ez S s.heap h'->SetK (isT prog w h0) (Bv (Bk prog w)) S led V (k::seen) h'->Q b { s with heap:=h',toks:=tk }) : Ap (As prog w) A (Zs S x) Q E s:=by
 obtain⟨es,ep,t,ho,Z,T,hl,hm⟩:=Z;unfold Zs;refine Ej (Ad (E6 hu hS hx ?_));unfold setAddHashed setAddHashedIn;refine Ej (Ad (Gb (s:={ s with toks:=s.toks+(k.length+1) }) ho rfl T.fits ?_))
 dsimp only;have hsc:byScan x es=false:=by
  obtain⟨a,rfl,_⟩:=hx;rfl
 rw[hsc];simp only[Cb,Ef];obtain⟨e,he,hne⟩:=T.gap;have first:∃ N,Way t (st t.mask (Bv (Bk prog w) k)) N/\(it t.mask N (st t.mask (Bv (Bk prog w) k))).j ∉ t.place.toList/\N<10*turns t.mask:=by
  obtain⟨N,hN,eN⟩:=rL T.msk (Bv (Bk prog w) k) he;have gm:=gH T.tb (λ_=>Bv (Bk prog w) k+1) (Bv (Bk prog w) k) (10*turns t.mask) (st t.mask (Bv (Bk prog w) k)) rfl ⟨N,hN,by rw[eN];exact hne⟩
  generalize Lv t _ _ _ _=r at gm;cases gm with
  |emp j hj w' e' q=>exact⟨j,w',e',hj⟩
  |cand j i hj w' e' hh q=>exact absurd hh (by lia)
 obtain⟨N,hNw,hNe,hNf⟩:=first
 have hNt:N<100000:=by
  have:turns t.mask<=2200:=by
   unfold turns;rcases T.msk with h|h|h|h|h <;> rw[h] <;> lia
  lia
 refine Ad (JG (s:={ s with toks:=s.toks+(k.length+1) }) hu hS ho rfl T Z hx N hNw hNe hNf (λhk=>?_) (λhk=>?_) 100000 0 none rfl (by lia) (by lia) λm i e hm=>by lia)
 .exact Am (h _ s.heap _ (by lia) (Ry _ _) ⟨es,ep,t,ho,Z.again hk,T,hl,hm⟩)
 .have hle:es.size<1000:=Bh (Z.few hU1 hU2 hk) hU
  dsimp only;refine Ad (Gb (s:={ s with toks:=s.toks+(k.length+1) }) ho rfl T.fits ?_)
  obtain⟨p1,p2,p3,p4⟩:=T.put (h:=Bv (Bk prog w) k) (x:=x) hNw hNe (K3 _ _ _);generalize hj:(it t.mask N (st t.mask (Bv (Bk prog w) k))).j=j at *;have m1:(t.put j).1.mask=t.mask:=rfl;have m2:(t.put j).1.plain=true:=T.plain;have m3:(t.put j).1.led=led:=hl;generalize hp:t.put j=tp at *;obtain⟨t1,p⟩:=tp;dsimp only at p1 p2 p3 p4 m1 m2 m3 ⊢;rw[m2];simp only[Ds];refine Ad (A7 (s:={ s with toks:=s.toks+(k.length+1) }) hS hx ?_)
  simp only[Ds,Vo,Ou];have hsz:(Cg es p (Bv (Bk prog w) k,x)).size=es.size+1:=vJ _ _ _;have hline:es.size+1<=sizeLine:=by rw[Fp];lia
  refine Ad (Oa (s:={ s with toks:=s.toks+(k.length+1) }) ho rfl ?_ (by rw[hsz];exact hline))
  have Z1:Set0 (isT prog w h0) (Bv (Bk prog w)) (Cg es p (Bv (Bk prog w) k,x)) (k::seen):=by
   refine Z.push (λa b=>isT.inj a b) hx hk ?_;have:=Jc es p (Bv (Bk prog w) k,x);rw[En] at this;exact this
  have hm1:∀ e∈(Cg es p (Bv (Bk prog w) k,x)).toList,e.2∈V:=λe he=>by
   have:=(Jc es p (Bv (Bk prog w) k,x)).mem_iff.mp he;rw[En] at this;rcases Bz.mp this with h1|h1
   .exact hm e h1
   .simp at h1;subst h1;exact hV
  have ho1:=bT (es':=Cg es p (Bv (Bk prog w) k,x)) (t':=t1) ho;have sb1:=Hs s.heap S (Aa2 (Cg es p (Bv (Bk prog w) k,x)) t1);have hfit:t1.fits (Cg es p (Bv (Bk prog w) k,x)).size=true:=by
   have h3:t1.fill=es.size+1:=by unfold Mn;rw[p1.dm,p2,hsz];rfl
   have h2:=T.few;unfold Wq;rw[h3,p2,hsz,m1];rcases T.msk with h|h|h|h|h <;> rw[h] at h2 ⊢ <;> simp <;> lia
  refine o9 (λhf=>?_) λhf=>?_
  .have hM1:Msk t1.mask:=by rw[m1];exact T.msk
   have h3:((Cg es p (Bv (Bk prog w) k,x)).size-1)*5<t1.mask*3:=by rw[hsz,m1];exact T.few
   obtain⟨q1,t2,qQ,q2,q3,q4,q5,_⟩:=fE hM1 m2 p2 (by rw[hsz];lia) (by simpa using hf) p1.dm h3 (by rw[hsz];lia)
   rw[hsz] at q1 q2;rw[UJ];refine Ad ?_;refine Ad (Gb (s:={ s with heap:=_,toks:=s.toks+(k.length+1) }) ho1 rfl hfit ?_)
   dsimp only;rw[Bf (by rw[Fp];lia)]
   refine Ad ?_;rw[q2];dsimp only;have hs2:(qQ.filterMap λx_1=>(Cg es p (Bv (Bk prog w) k,x))[x_1]?).size=es.size+1:=by rw[<- Bm,q4.length_eq,Bm,hsz]
   rw[Bf (by rw[hs2,hsz];simp)]
   refine Am ?_;refine Oa (s:={ s with heap:=_,toks:=s.toks+(k.length+1) }) ho1 rfl ?_ (by rw[hs2];exact hline)
   refine Am (h _ _ _ (HT _ _) (sb1.trans (Hs _ S _)) ⟨_,_,t2,bT ho1,Z1.perm q4,q5,by rw[q3];exact m3,λe he=>hm1 e (q4.mem_iff.mp he)⟩)
  .refine Am (h _ _ _ (HT _ _) sb1 ⟨_,_,t1,ho1,Z1,⟨p1,by rw[m1];exact T.msk,p2,by rw[m1];exact p3,?_,by rw[m1];exact p4,m2⟩,m3,hm1⟩)
   have h3:t1.fill=es.size+1:=by unfold Mn;rw[p1.dm,p2,hsz];rfl
   unfold Tc at hf;rw[h3] at hf;rw[hsz];simpa using hf
end
end _S
namespace _S
open PySem
open PySem.SetTable (Probe leap runEnd turns bits)
variable {seen:Aa An}
def isI (prog:Bg)(w:Ca)(k:An)(v:Ac):Prop:=(Bk prog w).is k v=true
section
variable {prog:Bg}{w:Ca}{A:Bt}{E:Ac->Ag->Prop}{s:Ag}{S:Af}{led:Ar}{V:Aa Ac}
set_option tactic.hygienic true in
theorem wB {k:An}{v:Ac}(h:isI prog w k v):∃ t,v=.int k t:=by
 cases v <;> first|(exact absurd h (by rintro⟨⟩)) | skip
 rename_i i t;refine⟨t,?_⟩;have:i=k:=(Bk prog w).inj (.int i t) i k (Wr _ _ _ _) h;rw[this]
theorem r9 {es:Ax (An × Ac)}(Z:Set0 (isI prog w) (Bk prog w).hash es seen):ElemsOf (Bk prog w) es.toList:=λe he=>by
 obtain⟨k,h1,h2⟩:=Z.good e he;refine⟨⟨k,h2,h1⟩,?_⟩;obtain⟨t,q⟩:=wB h2;rw[q];rfl
theorem A3 {k:An}{x:Ac}{Q:Ar->Ag->Prop}(Z:SetK (isI prog w) (Bk prog w).hash S led V seen s.heap)(hx:isI prog w k x)(hV:x∈V){U:Aa An}(hU:U.length<=1000)(hU1:∀ k'∈seen,k'∈U)(hU2:k∈U)
  (h:∀ (b:Ar) (h':Bw) (tk:Ai),s.toks<=tk->Ez S s.heap h'->SetK (isI prog w) (Bk prog w).hash S led V (k::seen) h'->Q b { s with heap:=h',toks:=tk }) : Ap (As prog w) A (Zs S x) Q E s:=by
 obtain⟨es,ep,t,ho,Z,T,hl,hm⟩:=Z;have hsc:x.scannable=true:=by
  obtain⟨tk,q⟩:=wB hx;rw[q];rfl
 have hf:=T.fits;have hb:es.size<scanBound:=by
  have h1:=T.few;have:scanBound=4096:=rfl;rcases T.msk with h|h|h|h|h <;> rw[h] at h1 <;> lia
 unfold Zs;refine Ej (Ad ((Bk prog w).pyHash (k:=k) hx ?_));unfold setAddHashed setAddHashedIn;refine Ej (Ad (Gb (s:={ s with toks:=s.toks+1 }) ho rfl hf ?_))
 dsimp only;rw[byScan_of hsc hb (r9 Z)];simp only[Ds];unfold setAddByScan;refine Ad (Ad (Go (Ad (wpAny_setScan_of (s:={ s with toks:=s.toks+1 }) hx ho rfl hf (r9 Z) ?_))))
 cases hr:es.toList.findIdx? (λe=>(Bk prog w).is k e.2) with
 |some j =>
  dsimp only;obtain⟨hj,hpj,_⟩:=List.findIdx?_eq_some_iff_getElem.mp hr;have hk:k∈seen:=(Z.mem k).mpr ⟨es.toList[j],Kl hj,hpj⟩;exact Am (Am (h _ s.heap _ (HT _ _) (Ry _ _) ⟨es,ep,t,ho,Z.again hk,T,hl,hm⟩))
 |none =>
  dsimp only;have hk:k ∉ seen:=λhk=>by
   obtain⟨e,he,q⟩:=(Z.mem k).mp hk;have:=List.findIdx?_eq_none_iff.mp hr e he;rw[show (Bk prog w).is k e.2=true from q] at this
   cases this
  have hle:es.size<1000:=Bh (Z.few hU1 hU2 hk) hU;obtain⟨e,he,hne⟩:=T.gap;have first:∃ N,Way t (st t.mask ((Bk prog w).hash k)) N/\(it t.mask N (st t.mask ((Bk prog w).hash k))).j ∉ t.place.toList/\t.freeSlot ((Bk prog w).hash k)=Ab ((it t.mask N (st t.mask ((Bk prog w).hash k))).j,false):=by
   obtain⟨N,hN,eN⟩:=rL T.msk ((Bk prog w).hash k) he;have gm:=gH T.tb (λ_=>(Bk prog w).hash k+1) ((Bk prog w).hash k) (10*turns t.mask) (st t.mask ((Bk prog w).hash k)) rfl ⟨N,hN,by rw[eN];exact hne⟩
   unfold SetTable.freeSlot SetTable.probe;rw[HV];generalize Lv t _ _ _ _=r at gm;cases gm with
   |emp j hj w' e' q=>exact⟨j,w',e',rfl⟩
   |cand j i hj w' e' hh q=>exact absurd hh (by lia)
  obtain⟨N,hNw,hNe,hfs⟩:=first
  obtain⟨p1,p2,p3,p4⟩:=T.put (h:=(Bk prog w).hash k) (x:=x) hNw hNe (K3 _ _ _);generalize hj:(it t.mask N (st t.mask ((Bk prog w).hash k))).j=j at *;have m1:(t.put j).1.mask=t.mask:=rfl;have m2:(t.put j).1.plain=true:=T.plain;have m3:(t.put j).1.led=led:=hl;generalize hp:t.put j=tp at *;obtain⟨t1,p⟩:=tp;dsimp only at p1 p2 p3 p4 m1 m2 m3 ⊢;have hsz:(Cg es p ((Bk prog w).hash k,x)).size=es.size+1:=vJ _ _ _;have hfit:t1.fits (Cg es p ((Bk prog w).hash k,x)).size=true:=by
   have h3:t1.fill=es.size+1:=by unfold Mn;rw[p1.dm,p2,hsz];rfl
   have h2:=T.few;unfold Wq;rw[h3,p2,hsz,m1];rcases T.msk with h|h|h|h|h <;> rw[h] at h2 ⊢ <;> simp <;> lia
  have lay:layNew t es ((Bk prog w).hash k) x=(Cg es p ((Bk prog w).hash k,x),t1,false,false):=by
   unfold layNew;rw[hfs];dsimp only;rw[hp];dsimp only;unfold SetTable.orStandIn;rw[hfit];rfl
  rw[lay];dsimp only;refine Ad (Am (a:=()) ?_);have hbv:Re 8 x=pure true:=by
   rw[hashByValue_scannable 8 hsc];obtain⟨tk,q⟩:=wB hx;subst q;rfl
  rw[hbv,ite_self];refine Ad (Am ?_);simp only[Ds];have hline:es.size+1<=sizeLine:=by rw[Fp];lia
  refine Ad (Oa (s:={ s with toks:=s.toks+1 }) ho rfl ?_ (by rw[hsz];exact hline))
  have pm:(Cg es p ((Bk prog w).hash k,x)).toList.Perm (es.toList++[((Bk prog w).hash k,x)]):=by
   have:=Jc es p ((Bk prog w).hash k,x);rw[En] at this;exact this
  have Z1:Set0 (isI prog w) (Bk prog w).hash (Cg es p ((Bk prog w).hash k,x)) (k::seen):=Z.push (λa b=>(Bk prog w).inj _ _ _ a b) hx hk pm;have hm1:∀ e∈(Cg es p ((Bk prog w).hash k,x)).toList,e.2∈V:=λe he=>by
   rcases Bz.mp (pm.mem_iff.mp he) with h1|h1
   .exact hm e h1
   .simp at h1;subst h1;exact hV
  have ho1:=bT (es':=Cg es p ((Bk prog w).hash k,x)) (t':=t1) ho;have sb1:=Hs s.heap S (Aa2 (Cg es p ((Bk prog w).hash k,x)) t1);refine o9 (λhf=>?_) λhf=>?_
  .have hM1:Msk t1.mask:=by rw[m1];exact T.msk
   have h3:((Cg es p ((Bk prog w).hash k,x)).size-1)*5<t1.mask*3:=by rw[hsz,m1];exact T.few
   obtain⟨q1,t2,qQ,q2,q3,q4,q5,q6⟩:=fE hM1 m2 p2 (by rw[hsz];lia) (by simpa using hf) p1.dm h3 (by rw[hsz];lia)
   have hs2:(qQ.filterMap λx_1=>(Cg es p ((Bk prog w).hash k,x))[x_1]?).size=es.size+1:=by rw[<- Bm,q4.length_eq,Bm,hsz]
   have rl:relayAll t1 (Cg es p ((Bk prog w).hash k,x)) (Hm (Cg es p ((Bk prog w).hash k,x)).size)=(qQ.filterMap λx_1=>(Cg es p ((Bk prog w).hash k,x))[x_1]?,t2,false):=by
    unfold relayAll;rw[q2];dsimp only;have c1:coversAll qQ (Cg es p ((Bk prog w).hash k,x)).size=true:=by
     unfold coversAll;exact List.isPerm_iff.mpr q6
    rw[c1,q5.fits];rfl
   rw[rl];dsimp only;refine Ad (Am (a:=()) ?_);refine Ad (Oa (s:={ s with heap:=_,toks:=s.toks+1 }) ho1 rfl ?_ (by rw[hs2];exact hline))
   exact Am (Am (h _ _ _ (HT _ _) (sb1.trans (Hs _ S _)) ⟨_,_,t2,bT ho1,Z1.perm q4,q5,by rw[q3];exact m3,λe he=>hm1 e (q4.mem_iff.mp he)⟩))
  .refine Am (Am (h _ _ _ (HT _ _) sb1 ⟨_,_,t1,ho1,Z1,⟨p1,by rw[m1];exact T.msk,p2,by rw[m1];exact p3,?_,by rw[m1];exact p4,m2⟩,m3,hm1⟩))
   have h3:t1.fill=es.size+1:=by unfold Mn;rw[p1.dm,p2,hsz];rfl
   unfold Tc at hf;rw[h3] at hf;rw[hsz];simpa using hf
end
end _S
namespace _S
open PySem
variable {Q:Ac->Ag->Prop}{i:Ai}
structure AddS (prog:Bg)(w:Ca){K:Type}(is:K->Ac->Prop)(hash:K->An)(h0:Bw):Prop where
 add:∀ {A:Bt} {E:Ac->Ag->Prop} {s:Ag} {S:Af} {led:Ar} {V:Aa Ac} {seen U:Aa K} {k:K} {x:Ac} {Q:Ar->Ag->Prop},A.units<Du->Sup h0 s.heap->SetK is hash S led V seen s.heap->is k x->x∈V->U.length<=1000->(∀ k'∈seen,k'∈U)->k∈U ->
  (∀ (b:Ar) (h':Bw) (tk:Ai),s.toks<=tk->Ez S s.heap h'->SetK is hash S led V (k::seen) h'->Q b { s with heap:=h',toks:=tk }) -> Ap (As prog w) A (Zs S x) Q E s
theorem M1 {prog:Bg}{w:Ca}(h0:Bw):AddS prog w (isT prog w h0) (Bv (Bk prog w)) h0:=⟨λhu hS Z hx hV h1 h2 h3 h=>A4 hu hS Z hx hV h1 h2 h3 h⟩
theorem M0 {prog:Bg}{w:Ca}(h0:Bw):AddS prog w (isI prog w) (Bk prog w).hash h0:=⟨λ_ _ Z hx hV h1 h2 h3 h=>A3 Z hx hV h1 h2 h3 h⟩
noncomputable def y8 {K:Type}(key:Ai->K):Ai->Aa K
 |0=>[]
 |i+1=>key i::y8 key i
theorem jS {K:Type}{key:Ai->K}{k:K}:∀ {n:Ai},k∈y8 key n↔∃ i,i<n/\key i=k
 |0=>by simp[y8]
 |n+1=>by
  rw[y8,Az,jS];constructor
  .rintro (rfl|⟨i,h,e⟩)
   .exact⟨n,by omega,rfl⟩
   .exact⟨i,by omega,e⟩
  .rintro⟨i,h,e⟩
   by_cases hi:i=n
   .subst hi;exact .inl e.symm
   .exact .inr ⟨i,by omega,e⟩
section
variable {prog:Bg}{w:Ca}{A:Bt}{R:Zh->Ag->Prop}{I:Af}{fp wr:Aa Af}{G:Ax Zz->Ax Zz->Prop}{n:Ai}{P:Ai->Ac->Prop}{St:Ai->Ag->Prop}
variable {K:Type}{is:K->Ac->Prop}{hash:K->An}{h0:Bw}{led:Ar}{V:Aa Ac}{U:Aa K}
theorem SetK.sup {S:Af}{seen:Aa K}{h h':Bw}(Z:SetK is hash S led V seen h)(e:∀ o,h.get? S=Ab o->h'.get? S=Ab o):SetK is hash S led V seen h':=by
 obtain⟨es,ep,t,ho,r⟩:=Z;exact⟨es,ep,t,e _ ho,r⟩
theorem aS (a:AddS prog w is hash h0)(W:WalksS prog w A.in1 I fp wr G n P St)(S:Af)(hSf:S ∉ fp)(hu:A.in1.units<Du)(key:Ai->K)(hkey:∀ i v,P i v->is (key i) v/\v∈V)(hU:U.length<=1000)(hUk:∀ i,i<n->key i∈U)
  (hS0:h0.get? S=none) (hw0:∀ b∈wr,h0.get? b=none):∀ (k i:Ai) (s:Ag),n-i=k->i<=n->St i s->Sup h0 s.heap->SetK is hash S led V (y8 key i) s.heap ->
   (∀ s',Moved (S::wr) G s s'->SetK is hash S led V (y8 key n) s'.heap->R (.ok (.ret .none)) s')->Iw (As prog w) A (.builtin "set.update.loop" ⟨[.ref S,.ref I],[]⟩) R s:=by
 have hSw:S ∉ wr:=λh=>hSf (W.sub _ h);have hsub:∀ b∈wr,b∈S::wr:=λb hb=>Cn _ hb;intro k
 induction k with
 |zero =>
  intro i s hk hi hst hS Z hR;have hin:i=n:=by omega
  subst hin;refine Gh Mx ?_;rw[Fo Je _];show Ap _ A.in1 (No (.ref I) >>= _) _ _ s;refine Ad (W.done s _ _ hst λs' hm=>?_);exact Am (hR s' (hm.mono hsub) (Z.sup λo e=>hm.heap S _ hSw e))
 |succ k ih =>
  intro i s hk hi hst hS Z hR;have hlt:i<n:=by omega
  refine Gh Mx ?_;rw[Fo Je _];show Ap _ A.in1 (No (.ref I) >>= _) _ _ s;refine Ad (W.item i s _ _ hlt hst λv s' hP hst' hm=>?_);obtain⟨q1,q2⟩:=hkey i v hP;have hS':Sup h0 s'.heap:=λb o e=>hm.heap b o (λhb=>by rw[hw0 b hb] at e;cases e) (hS b o e)
  show Ap _ A.in1 (holding [v] (Zs S v) >>= _) _ _ s';refine Ad (Ej (a.add hu hS' (Z.sup λo e=>hm.heap S _ hSw e) q1 q2 hU (λk' hk'=>?_) (hUk i hlt) λb h' tk htk hsb Z'=>?_))
  .obtain⟨j,hj,e⟩:=jS.mp hk'
   exact e▸hUk j (by omega)
  .refine Am ⟨Ix Je _,ih (i+1) _ (by omega) hlt (W.frame _ s' _ _ hst' htk λb hb o e=>?_) (λb o e=>?_) Z' λs'' hm'' Z''=>?_⟩
   .rw[hsb.2 b (λh:b=S=>hSf (by rw[<- h];exact hb))];exact e
   .rw[hsb.2 b (λh:b=S=>by rw[h,hS0] at e;cases e)];exact hS' b o e
   .refine hR s'' (Moved.trans W.gtrans ((hm.mono hsub).then_heap htk λb o hb e=>?_) hm'') Z''
    rw[hsb.2 b (λh:b=S=>hb (by rw[h];exact Dl))];exact e
end
section
variable {prog:Bg}{w:Ca}{A:Bt}{E:Ac->Ag->Prop}{s:Ag}
noncomputable def xZ (w:Ca):Ar:=!w.params.followText "set-order"
@[reducible] def set0 (w:Ca):Cu:=setO #[] 0 (.fresh 0 0 (xZ w))
theorem fB (a:Ac){Q₁:Ac->Ag->Prop}(h:Q₁ (.ref s.heap.objs.size) { s with heap:=s.heap.push (set0 w) }) : Iw (As prog w) A (.call (.builtin "set.__new__") ⟨[.type "set",a],[]⟩) (wants Q₁ E) s:=by
 refine Po ?_;show Ap _ A.in1 (do checkBuiltinCall "set.__new__" ⟨[.type "set",a],[]⟩;again (.builtin "set.__new__" ⟨[.type "set",a],[]⟩)) _ _ s
 refine Ad (Ux (PySem.F.newCall_set_1 a) (Am ⟨Ix Vb _,Gh PySem.F.entry_set_new ?_⟩));rw[Fo Vb _];unfold Ih.«set.__new__» AaB;have hsub:=PySem.sub_set_self;obtain⟨hp,g,d,tk,os⟩:=s;dsimp only
 wp_walk
 refine Km (Am ?_);dsimp only;simp only[newObj];exact Ad (wpAny_alloc (Am (Am h)))
theorem d8 (w:Ca):TabT (.fresh 0 0 (xZ w)) #[]:=⟨⟨by unfold Rs;exact Nv,rfl⟩,.inl rfl,rfl,λx hx=>(by cases hx),(show 0*5<7*3 by decide),λi e h=>(by simp at h),rfl⟩
variable {K:Type}{is:K->Ac->Prop}{hash:K->An}{U:Aa K}
theorem WU (a:AddS prog w is hash s.heap){l:Af}{items:Ax Ac}{Q:Ac->Ag->Prop}(hh:A.handled=none)(hu:A.units+8<Du)(hl:s.heap.IsList l items)(key:Ai->K)(hkey:∀ i v,items[i]? = Ab v->is (key i) v)(hU:U.length<=1000)(hUk:∀ i,i<items.size->key i∈U)
  (h:∀ (h':Bw) (tk:Ai),SetK is hash s.heap.objs.size (xZ w) items.toList (y8 key items.size) h'->(∀ b o,s.heap.get? b=Ab o->h'.get? b=Ab o)->Q (.ref s.heap.objs.size) { s with heap:=h',toks:=tk }) :
  Ap (As prog w) A (call (.type "set") [.ref l]) Q E s:=by
 obtain⟨c,tl,hmro⟩:=Dp.mro;have hmade:=Dp.made;have hsub:=Dp.sub;refine Wl (Po ?_);show Ap _ _ (callAny (.type "set") _) _ _ _;refine Am ⟨Xp _ (by decide +kernel),Gh Tt ?_⟩
 rw[Xq (Vc "set" [.ref l] []) rfl];have h1:=Dp.notType;have h2:=Dp.canCreate;have hct:=Uh (.ref l)
 repeat (any_goals (first|assumption|wp_step))
 refine Jm (fB (.ref l) (E:=E) (Q₁:=λobj s₁=>obj=.ref s.heap.objs.size/\s₁={ s with heap:=s.heap.push (set0 w) }) ⟨rfl,rfl⟩) λr s₁ hr=>?_
 cases r with
 |error e=>exact hr
 |ok fl =>
  cases fl with
  |ret obj =>
   obtain⟨rfl,rfl⟩:=hr;have hS:(s.heap.push (set0 w)).get? s.heap.objs.size=Ab (set0 w):=Ay _ rfl;have hT:Sc { s with heap:=s.heap.push (set0 w) } (.ref s.heap.objs.size) "set":=⟨_,hS,rfl⟩
   have hli:=Dp.init.lookup;have hbi:=Dp.init.bind (.ref s.heap.objs.size)
   repeat (any_goals (first|assumption|wp_step))
   refine Jm (Vv (R:=wants (λr s₂=>r=.none/\∃ h' tk,s₂={ s with heap:=h',toks:=tk } /\ SetK is hash s.heap.objs.size (xZ w) items.toList (y8 key items.size) h'/\∀ b o,s.heap.get? b=Ab o->h'.get? b=Ab o) E) Dp.init.plain Ui (Zt hT ?_)) λr₂ s₂ hr₂=>?_
   .obtain⟨ol,hol,hcl,nl,hdl⟩:=hl
    obtain⟨ocls,odict,odata,oslots⟩:=ol;simp only at hcl hdl;subst hcl;subst hdl;have hol':(s.heap.push (set0 w)).get? l=Ab { cls:=.type "list",dict:=odict,data:=.seq items nl,slots:=oslots }:=Ah _ hol;have hsls:=PySem.F.sub_list_set;have hslf:=PySem.F.sub_list_frozenset;have hne:(Iq "list" == Iq "dict")=false:=by decide
    have hl1:(s.heap.push (set0 w)).IsList l items:=⟨_,hol',rfl,nl,rfl⟩;unfold Ih.«set.__init__» noKeywords Qb;generalize hPI:Oh=PI
    wp_walk
    subst hPI;refine Fz hl1 ?_;refine Ad (Vp ?_);have hlS:l<s.heap.objs.size:=Ba hol;have hneI:l≠(s.heap.push (set0 w)).objs.size:=by
     rw[Dt];exact Cw (Ob hlS)
    have nS:s.heap.get? s.heap.objs.size=none:=Ka (Av _);have nI:s.heap.get? (s.heap.push (set0 w)).objs.size=none:=Ka (by rw[Dt];exact Mu _)
    refine aS (led:=xZ w) (V:=items.toList) a ((Aa0 (A:=A.in1.in1.in1) (by simp[hh]) _ l hneI items).toS) s.heap.objs.size ?_ (by show A.units+3<Du;omega) key (λi v hv=>⟨hkey i v hv,?_⟩) hU hUk nS (λb hb=>?_) (items.size-0) 0 _ (by omega) (Fh _)
     ⟨⟨_,Ay _ rfl,rfl,rfl⟩,hl1.push _⟩ (λb o e=>Ah _ (Ah _ e)) ?_ λs' hm hS'=>?_
    .rw[Dt];simp only[Az,Ci,Dm,Hd,Uy]
     exact⟨Cw (Jb _),Gf hlS⟩
    .exact Cy (by rw[Bn];exact hv)
    .rw[Ci.mp hb];exact nI
    .exact⟨#[],0,_,Ah _ hS,Set0.nil,d8 w,rfl,λe he=>by simp at he⟩
    .obtain⟨h',g',d',tk',os'⟩:=s'
     have eg:g'=s.gens:=hm.gens;have ed:d'=s.drawn:=hm.drawn;have eo:os'=s.os:=hm.os;subst eg;subst ed;subst eo;refine Am (Am ⟨rfl,h',tk',rfl,hS',λb o e=>?_⟩);refine hm.heap b o (λhb=>?_) (Ah _ (Ah _ e));rcases Az.mp hb with rfl|hb
     .rw[nS] at e;cases e
     .rw[Ci.mp hb,nI] at e;cases e
   .cases r₂ with
    |error e=>exact hr₂
    |ok fl₂ =>
     cases fl₂ with
     |ret r =>
      obtain⟨rfl,h',tk,rfl,hS',hk'⟩:=hr₂
      repeat (any_goals (first|assumption|wp_step))
      exact h _ _ hS' hk'
     |_=>exact hr₂.elim
  |_=>exact hr.elim
theorem QM (a:AddS prog w is hash s.heap){l:Af}{items:Ax Ac}{Q:Ac->Ag->Prop}(hh:A.handled=none)(hu:A.units+8<Du)(hl:s.heap.IsTuple l items)(key:Ai->K)(hkey:∀ i v,items[i]? = Ab v->is (key i) v)(hU:U.length<=1000)(hUk:∀ i,i<items.size->key i∈U)
  (h:∀ (h':Bw) (tk:Ai),SetK is hash s.heap.objs.size (xZ w) items.toList (y8 key items.size) h'->(∀ b o,s.heap.get? b=Ab o->h'.get? b=Ab o)->Q (.ref s.heap.objs.size) { s with heap:=h',toks:=tk }) :
  Ap (As prog w) A (call (.type "set") [.ref l]) Q E s:=by
 obtain⟨c,tl,hmro⟩:=Dp.mro;have hmade:=Dp.made;have hsub:=Dp.sub;refine Wl (Po ?_);show Ap _ _ (callAny (.type "set") _) _ _ _;refine Am ⟨Xp _ (by decide +kernel),Gh Tt ?_⟩
 rw[Xq (Vc "set" [.ref l] []) rfl];have h1:=Dp.notType;have h2:=Dp.canCreate;have hct:=Uh (.ref l)
 repeat (any_goals (first|assumption|wp_step))
 refine Jm (fB (.ref l) (E:=E) (Q₁:=λobj s₁=>obj=.ref s.heap.objs.size/\s₁={ s with heap:=s.heap.push (set0 w) }) ⟨rfl,rfl⟩) λr s₁ hr=>?_
 cases r with
 |error e=>exact hr
 |ok fl =>
  cases fl with
  |ret obj =>
   obtain⟨rfl,rfl⟩:=hr;have hS:(s.heap.push (set0 w)).get? s.heap.objs.size=Ab (set0 w):=Ay _ rfl;have hT:Sc { s with heap:=s.heap.push (set0 w) } (.ref s.heap.objs.size) "set":=⟨_,hS,rfl⟩
   have hli:=Dp.init.lookup;have hbi:=Dp.init.bind (.ref s.heap.objs.size)
   repeat (any_goals (first|assumption|wp_step))
   refine Jm (Vv (R:=wants (λr s₂=>r=.none/\∃ h' tk,s₂={ s with heap:=h',toks:=tk } /\ SetK is hash s.heap.objs.size (xZ w) items.toList (y8 key items.size) h'/\∀ b o,s.heap.get? b=Ab o->h'.get? b=Ab o) E) Dp.init.plain Ui (Zt hT ?_)) λr₂ s₂ hr₂=>?_
   .obtain⟨ol,hol,hcl,nl,hdl⟩:=hl
    obtain⟨ocls,odict,odata,oslots⟩:=ol;simp only at hcl hdl;subst hcl;subst hdl;have hol':(s.heap.push (set0 w)).get? l=Ab { cls:=.type "tuple",dict:=odict,data:=.seq items nl,slots:=oslots }:=Ah _ hol;have hsls:=PySem.F.sub_tuple_set;have hslf:=PySem.F.sub_tuple_frozenset;have hne:(Iq "tuple" == Iq "dict")=false:=by decide
    have hl1:(s.heap.push (set0 w)).IsTuple l items:=⟨_,hol',rfl,nl,rfl⟩;unfold Ih.«set.__init__» noKeywords Qb;generalize hPI:Oh=PI
    wp_walk
    subst hPI;refine Ha hl1 ?_;refine Ad (Vp ?_);have hlS:l<s.heap.objs.size:=Ba hol;have hneI:l≠(s.heap.push (set0 w)).objs.size:=by
     rw[Dt];exact Cw (Ob hlS)
    have nS:s.heap.get? s.heap.objs.size=none:=Ka (Av _);have nI:s.heap.get? (s.heap.push (set0 w)).objs.size=none:=Ka (by rw[Dt];exact Mu _)
    refine aS (led:=xZ w) (V:=items.toList) a ((Walks.tuple (A:=A.in1.in1.in1) (by simp[hh]) _ l hneI items).toS) s.heap.objs.size ?_ (by show A.units+3<Du;omega) key (λi v hv=>⟨hkey i v hv,?_⟩) hU hUk nS (λb hb=>?_) (items.size-0) 0 _ (by omega) (Fh _)
     ⟨⟨_,Ay _ rfl,rfl,rfl⟩,hl1.push _⟩ (λb o e=>Ah _ (Ah _ e)) ?_ λs' hm hS'=>?_
    .rw[Dt];simp only[Az,Ci,Dm,Hd,Uy]
     exact⟨Cw (Jb _),Gf hlS⟩
    .exact Cy (by rw[Bn];exact hv)
    .rw[Ci.mp hb];exact nI
    .exact⟨#[],0,_,Ah _ hS,Set0.nil,d8 w,rfl,λe he=>by simp at he⟩
    .obtain⟨h',g',d',tk',os'⟩:=s'
     have eg:g'=s.gens:=hm.gens;have ed:d'=s.drawn:=hm.drawn;have eo:os'=s.os:=hm.os;subst eg;subst ed;subst eo;refine Am (Am ⟨rfl,h',tk',rfl,hS',λb o e=>?_⟩);refine hm.heap b o (λhb=>?_) (Ah _ (Ah _ e));rcases Az.mp hb with rfl|hb
     .rw[nS] at e;cases e
     .rw[Ci.mp hb,nI] at e;cases e
   .cases r₂ with
    |error e=>exact hr₂
    |ok fl₂ =>
     cases fl₂ with
     |ret r =>
      obtain⟨rfl,h',tk,rfl,hS',hk'⟩:=hr₂
      repeat (any_goals (first|assumption|wp_step))
      exact h _ _ hS' hk'
     |_=>exact hr₂.elim
  |_=>exact hr.elim
theorem iJ (a:AddS prog w is hash s.heap){l:Af}{items:Ax Ac}{Q:Ac->Ag->Prop}(hh:A.handled=none)(hu:A.units+8<Du)(hl:s.heap.IsList l items\/s.heap.IsTuple l items)(key:Ai->K)(hkey:∀ i v,items[i]? = Ab v->is (key i) v)(hU:U.length<=1000)(hUk:∀ i,i<items.size->key i∈U)
  (h:∀ (h':Bw) (tk:Ai),SetK is hash s.heap.objs.size (xZ w) items.toList (y8 key items.size) h'->(∀ b o,s.heap.get? b=Ab o->h'.get? b=Ab o)->Q (.ref s.heap.objs.size) { s with heap:=h',toks:=tk }) :
  Ap (As prog w) A (call (.type "set") [.ref l]) Q E s:=by
 rcases hl with hl|hl
 .exact WU a hh hu hl key hkey hU hUk h
 .exact QM a hh hu hl key hkey hU hUk h
end
theorem mI {α:Type}:∀ {l:Aa α} {i:Ai} (h:i<l.length),(l[i]::l.eraseIdx i).Perm l
 |a::l,0,h=>by simp
 |a::l,i+1,h=>by
  rw[List.eraseIdx_cons_succ,List.getElem_cons_succ];exact(List.Perm.swap _ _ _).trans ((mI (l:=l) (i:=i) (by simpa using h)).cons a)
theorem lW {α:Type}(next:Ai->Ai):∀ (fuel k:Ai) (left:Aa α) (out:Ax α),left.length=fuel->(Yb next fuel k left out).toList.Perm (out.toList++left)
 |0,k,left,out,h=>by
  have:left=[]:=Pp h;subst this;unfold Yb;simp
 |fuel+1,k,left,out,h=>by
  unfold Yb;have hlt:next k % left.length<left.length:=Py _ (by omega)
  rw[Ao hlt];dsimp only;refine(lW next fuel (k+1) _ _ (by rw[List.length_eraseIdx,Bd hlt];omega)).trans ?_
  rw[En,Ch];refine Jk _ ?_;exact mI hlt
theorem nO {α:Type}(next:Ai->Ai)(xs:Ax α) : (Pq next xs).toList.Perm xs.toList:=by
 have:=lW next xs.size 0 xs.toList #[] (by simp)
 simpa [Pq] using this
theorem yU:Slot "set_iterator" "__next__" "set_iterator.__next__":=
 .of (owner:="set_iterator") (n:="__next__") (by rw[Ue,Ot];kernel_rfl) (by decide +kernel) (by decide +kernel) (by decide +kernel) (.inl (by decide +kernel)) (by rw[Vq];kernel_rfl)
theorem mH:entryFor table "set_iterator.__next__" = Ab Ih.«set_iterator.__next__»:=entryFor_of_fast (by kernel_rfl)
theorem l7 (a:Ac):Va "set_iterator.__next__" ⟨[a],[]⟩:=by unfold Va;kernel_rfl
theorem d0:Slot "set_iterator" "__iter__" "set_iterator.__iter__":=
 .of (owner:="set_iterator") (n:="__iter__") (by rw[Ue,Ot];kernel_rfl) (by decide +kernel) (by decide +kernel) (by decide +kernel) (.inl (by decide +kernel)) (by rw[Vq];kernel_rfl)
theorem iP:entryFor table "set_iterator.__iter__" = Ab Ih.«dict_keyiterator.__iter__»:=entryFor_alias (id':="dict_keyiterator.__iter__") (by kernel_rfl) rfl (by decide +kernel) (by kernel_rfl)
theorem Q9 (a:Ac):Va "set_iterator.__iter__" ⟨[a],[]⟩:=by unfold Va;kernel_rfl
theorem iO:entryFor table "set.__iter__" = Ab Ih.«frozenset.__iter__»:=entryFor_alias (id':="frozenset.__iter__") (by kernel_rfl) rfl (by decide +kernel) (by kernel_rfl)
theorem PH (a:Af)(slot given epochThen:Ai):setNext a slot given epochThen=(do
  let (es,epoch,t) <- Xb a
  if <- setsByText then
   if epoch != epochThen then unsupported "set_iterator.__next__:elements-changed"
   return ((<- setWalk a)[given]?).map λe=>(e.2,slot)
  if !t.plain&&es.size>1 then unsupported "set_iterator.__next__:the-table-is-plain-no-more"
  (do if !t.led&&!es.isEmpty then unsupported "set:maker-not-led")
  return match es[Co t.place slot]?,t.place[Co t.place slot]? with
   |some (_,x),Ab j=>Ab (x,j+1)
   |_,_=>none):=rfl
theorem FK (a:Af):setWalk a=(do
  let (es,epoch,t) <- Xb a
  if <- setsByText then return Pq ((<- ask).params.setOrder a epoch) es
  if !t.plain&&es.size>1 then return (<- drawOrder es.size es.toList).toArray
  (do if !t.led&&es.size>1 then unsupported "set:maker-not-led")
  return es):=rfl
theorem YD (a:Af):setDrawn a=(do
  let (es,_,t) <- Xb a
  let byText <- setsByText
  return !byText&&(!t.plain&&es.size>1)):=rfl
structure Still (w:Ca)(S:Af)(es:Ax (An × Ac))(ep:Ai)(t:Fn):Prop where
 tab:TabT t es
 led:t.led=xZ w
def qQ (w:Ca)(S:Af)(ep:Ai)(es:Ax (An × Ac)):Ax (An × Ac):=if w.params.followText "set-order" = true then Pq (w.params.setOrder S ep) es else es
theorem t7 (w:Ca)(S:Af)(ep:Ai)(es:Ax (An × Ac)):(qQ w S ep es).toList.Perm es.toList:=by
 unfold qQ
 split
 .exact nO _ _
 .exact Nt _
theorem uE (w:Ca)(S:Af)(ep:Ai)(es:Ax (An × Ac)):(qQ w S ep es).size=es.size:=by
 rw[<- Bm,(t7 w S ep es).length_eq,Bm]
noncomputable def itO (slot i:Ai)(S:Af)(n ep:Ai):Cu:={ cls:=.type "set_iterator",data:=.fields #[.int slot 0,.int i 0,.ref S,.int n 0,.int ep 0] }
def At (w:Ca)(I S:Af)(es:Ax (An × Ac))(ep:Ai)(t:Fn)(i:Ai)(h:Bw):Prop:=
 ∃ slot,h.get? I=Ab (itO slot i S es.size ep)/\h.get? S=Ab (setO es ep t)/\(w.params.followText "set-order" = true\/Co t.place slot=i)
section
variable {prog:Bg}{w:Ca}{A:Bt}{E:Ac->Ag->Prop}{s:Ag}{S I:Af}{es:Ax (An × Ac)}{ep:Ai}{t:Fn}
theorem oT {slot:Ai}{Q:Al (Ac × Ai)->Ag->Prop}(Z:Still w S es ep t)(ho:s.heap.get? S=Ab (setO es ep t))(hs:w.params.followText "set-order" = true\/Co t.place slot=i)
  (h1:∀ e slot',(qQ w S ep es)[i]? = Ab e->(w.params.followText "set-order" = true\/Co t.place slot'=i+1)->Q (Ab (e.2,slot')) s) (h2:(qQ w S ep es)[i]? = none->Q none s):Ap (As prog w) A (setNext S slot i ep) Q E s:=by
 rw[PH];refine Ad (Gb ho rfl Z.tab.fits ?_);dsimp only;refine Ad (Ad (Km (Am ?_)));cases hf:w.params.followText "set-order" with
 |true =>
  show Ap _ _ (if (w.params.followText "set-order")=true then _ else _) _ _ _
  rw[Bd hf];have hb:(ep != ep)=false:=by simp
  rw[hb];simp only[Cb,Ef];refine Ad ?_;rw[FK];refine Ad (Gb ho rfl Z.tab.fits ?_);dsimp only;refine Ad (Ad (Km (Am ?_)));show Ap _ _ (if (w.params.followText "set-order")=true then _ else _) _ _ _
  rw[Bd hf];refine Ad (Km (Am (Am ?_)));show Q (((Pq (w.params.setOrder S ep) es)[i]?).map λe=>(e.2,slot)) s;have ho':qQ w S ep es=Pq (w.params.setOrder S ep) es:=by unfold qQ;rw[Bd hf]
  rw[ho'] at h1 h2;cases hx:(Pq (w.params.setOrder S ep) es)[i]? with
  |none=>exact h2 hx
  |some e=>exact h1 e slot hx (.inl hf)
 |false =>
  show Ap _ _ (if (w.params.followText "set-order")=true then _ else _) _ _ _
  rw[Bf (by rw[hf];decide),Z.tab.plain,Z.led]
  unfold xZ;rw[hf];simp only[Lf,Hj,Cb,Ef,Vo];have hb:Co t.place slot=i:=by
   rcases hs with h|h
   .rw[hf] at h;cases h
   .exact h
  rw[hb];have ho':qQ w S ep es=es:=by unfold qQ;rw[Bf (by rw[hf];decide)]
  rw[ho'] at h1 h2;refine Am ?_;cases hx:es[i]? with
  |none=>exact h2 hx
  |some e =>
   have hi:i<t.place.size:=by rw[Z.tab.size];exact(Dx.mp hx).1
   have hp:t.place[i]? = Ab t.place[i]:=Eb hi;rw[hp];exact h1 e _ hx (.inr (iH Z.tab.tb.rs hp))
theorem At.type (h:At w I S es ep t i s.heap):s.TypeIs (.ref I) "set_iterator":=by
 obtain⟨slot,h,_⟩:=h;exact⟨_,h,rfl⟩
theorem lT (Z:Still w S es ep t)(hI:At w I S es ep t i s.heap)
  (h1:∀ e slot' slot,(qQ w S ep es)[i]? = Ab e->s.heap.get? I=Ab (itO slot i S es.size ep)->s.heap.get? S=Ab (setO es ep t)->(w.params.followText "set-order" = true\/Co t.place slot'=i+1) ->
   Q e.2 { s with heap:=(s.heap.update I (Ws (·.setIfInBounds 0 (Ol slot')))).update I (Ws (·.setIfInBounds 1 (Ol ((i:An)+1)))) })
  (h2:(qQ w S ep es)[i]? = none->Ap (As prog w) A (do setField (.ref I) 2 .none;raiseNew (<- newExc (.type "StopIteration") [])) (λ(fin:PySem.Fin) s'=>∃ r,fin=.done (.ret r)/\Q r s') E s) :
  Ap (As prog w) A (Ih.«set_iterator.__next__» ⟨[.ref I],[]⟩) (λfin s'=>∃ r,fin=.done (.ret r)/\Q r s') E s:=by
 obtain⟨slot,hg,hS,hb⟩:=hI;show Ap _ _ (fieldsOf (.ref I) >>= _) _ _ s;refine Ad (wpAny_fieldsOf hg rfl ?_);show Ap _ _ (setEntries S >>= _) _ _ s;refine Ad (Wt hS rfl Z.tab.fits ?_);have hne:(((es.size:Ai):An) != ((es.size:Ai):An))=false:=by simp
 rw[hne];simp only[Cb,Ef];show Ap _ _ (setNext S (slot:An).toNat (i:An).toNat (ep:An).toNat >>= _) _ _ s;rw[Gq,Gq,Gq];refine Ad (oT Z hS hb (λe slot' he hb'=>?_) λhe=>?_)
 .dsimp only
  refine Ad (Nr hg rfl (by show 0<5;decide) ?_)
  have hg2:=Es (Ws (·.setIfInBounds 0 (Ol slot'))) hg rfl
  refine Ad (Nr hg2 rfl (by show 1<5;decide) ?_)
  exact Am ⟨_,rfl,h1 e slot' slot he hg hS hb'⟩
 .exact h2 he
theorem FJ (hh:A.handled=none)(hne:S≠I)(Z:Still w S es ep t):Walks prog w A I [I,S] [I] es.size (λi v=>∃ e,(qQ w S ep es)[i]? = Ab e/\e.2=v) (λi h=>At w I S es ep t i h) where
 sub:=λb hb=>by simp at hb;simp[hb]
 frame:=λi h h' ⟨slot,h1,h2,h3⟩ hk=>⟨slot,hk I (by simp) _ h1,hk S (by simp) _ h2,h3⟩
 item:=λi s Q E hi st hQ=>by
  unfold No;refine Ad (Ld (Eg (name:=Gg "__next__") st.type yU (Em yU st.type mH (lT Z st (λe slot' slot he hg hS hb=>?_) λhe=>?_) (l7 _))))
  .refine Am (hQ e.2 _ s.toks ⟨e,he,rfl⟩ ⟨slot',?_,?_,hb⟩ λb o hb e=>?_)
   .exact Es _ (Es _ hg rfl) rfl
   .rw[Cj _ _ hne.symm,Cj _ _ hne.symm];exact hS
   .have hb:I≠b:=λz=>hb (by simp[z])
    rw[Cj _ _ hb,Cj _ _ hb];exact e
  .have:=Array.getElem?_eq_none_iff.mp he
   rw[uE] at this;omega
 done:=λs Q E st hQ=>by
  unfold No;refine Ad (Ld (Eg (name:=Gg "__next__") st.type yU (Em yU st.type mH (lT Z st (λe slot' slot he hg hS hb=>?_) λhe=>?_) (l7 _))))
  .have:=(Dx.mp he).1
   rw[uE] at this;omega
  .obtain⟨slot,hg,hS,hb⟩:=st
   refine Ad (Nr hg rfl (by show 2<5;decide) ?_)
   refine Ad ?_;simp only[newExc,newTuple];refine Ad (Ee ?_ (by size_fits))
   refine Ad (m:=Qi _ _) (Ux (a:=Dq) (by first|rfl|(simp only[Qi];rfl)) ?_)
   refine Ee ?_ (by size_fits)
   simp only[raiseNew];refine Ad (wpAny_handled ?_);rw[show A.in1.handled=none from hh]
   refine Ad (Am (wpAny_throw ?_));refine Ad (Os (T:="StopIteration") (b:=true) ⟨_,Ay _ rfl,rfl⟩ Vl ?_);refine Am (hQ _ s.toks λb o hb e=>?_);exact(((Hs ..).extBut.push _).push _) b o (λz=>hb (by simp[z])) e
 self:=λi s Q E st hQ=>by
  refine Yy st.type d0 (Em d0 st.type iP ?_ (Q9 _));show Ap _ _ (ret (.ref I)) _ _ s;exact Am ⟨_,rfl,"set_iterator",_,st.type,yU.lookup,hQ⟩
theorem V9 (Z:Still w S es ep t)(ho:s.heap.get? S=Ab (setO es ep t))(h:Q (.ref s.heap.objs.size) { s with heap:=s.heap.push (itO 0 0 S es.size ep) }) : Ap (As prog w) A (Oh (.ref S)) Q E s:=by
 have hT:s.TypeIs (.ref S) "set":=⟨_,ho,rfl⟩;refine Yy hT Vd (Em Vd hT iO ?_ (PySem.F.args_set_iter_1 _));show Ap _ _ (Ss S >>= _) _ _ s;unfold Ss;refine Ad (Ad (Wt ho rfl Z.tab.fits (Am ?_)));refine Ad ?_;rw[YD];refine Ad (Gb ho rfl Z.tab.fits ?_);dsimp only;refine Ad (Ad (Km (Am (Am ?_))));rw[Z.tab.plain];simp only[Lf,Hj,Qk,Cb,Ef];refine Ad (Am ?_);unfold setEpoch;refine Ad (Ad (Gb ho rfl Z.tab.fits (Am ?_)));refine Ad (Ee (Am ⟨_,rfl,"set_iterator",_,⟨_,Ay _ rfl,rfl⟩,yU.lookup,h⟩))
theorem K8 (Z:Still w S es ep t)(ho:s.heap.get? S=Ab (setO es ep t)):At w s.heap.objs.size S es ep t 0 (s.heap.push (itO 0 0 S es.size ep)):=
 ⟨0,Ay _ rfl,Ah _ ho,.inr (iI Z.tab.tb.rs)⟩
end
end _S
namespace _S
open PySem PySem.W PyProof.Rows
variable {vs:Aa Ac}{n lo:Ai}{arr m:Ax Bs}
structure Ord {K:Type}(lt:K->K->Ar):Prop where
 irr:∀ a,lt a a=false
 tr:∀ {a b c},lt a b=true->lt b c=true->lt a c=true
 tri:∀ {a b},lt a b=false->a=b\/lt b a=true
noncomputable def ltI (a b:An):Ar:=decide (a<b)
theorem AQ:Ord ltI:=⟨λa=>by simp[ltI],λ{a b c} h1 h2=>by simp only[ltI,Cq] at *;omega,λ{a b} h=>by simp only[ltI,Cq,Ip] at *;omega⟩
theorem cY:∀ a:Aa An,_H.lexLt a a=false
 |[]=>rfl
 |x::xs=>by rw[_H.lexLt_cons,Bd rfl];exact cY xs
theorem ZX:∀ {a b c:Aa An},_H.lexLt a b=true->_H.lexLt b c=true->_H.lexLt a c=true
 |_,[],[],_,h=>by cases h
 |_,_::_,[],_,h=>by cases h
 |[],_,_::_,_,_=>rfl
 |_::_,[],_::_,h,_=>by cases h
 |x::xs,y::ys,z::zs,h1,h2=>by
  rw[_H.lexLt_cons] at h1 h2 ⊢;by_cases e1:x=y
  .subst e1
   rw[Bd rfl] at h1;by_cases e2:x=z
   .rw[Bd e2] at h2 ⊢;exact ZX h1 h2
   .rw[Bf e2] at h2 ⊢;exact h2
  .rw[Bf e1] at h1
   have h1:=Ct h1;by_cases e2:y=z
   .subst e2;rw[Bf e1];exact Cp h1
   .rw[Bf e2] at h2
    have h2:=Ct h2;rw[Bf (by omega)]
    exact Cp (by omega)
theorem cZ:∀ {a b:Aa An},_H.lexLt a b=false->a=b\/_H.lexLt b a=true
 |[],[],_=>.inl rfl
 |[],_::_,h=>by cases h
 |_::_,[],_=>.inr rfl
 |x::xs,y::ys,h=>by
  rw[_H.lexLt_cons] at h ⊢;by_cases e:x=y
  .subst e
   rw[Bd rfl] at h ⊢;rcases cZ h with h|h
   .exact .inl (by rw[h])
   .exact .inr h
  .rw[Bf e] at h
   have h:=of_decide_eq_false h;rw[Bf (Fb e)];exact .inr (Cp (by omega))
theorem vD:Ord _H.lexLt:=⟨cY,ZX,cZ⟩
theorem lG {α:Type}{p q:α->Ar}:∀ {l:Aa α},(∀ x∈l,p x=true->q x=true)->(∃ x∈l,q x=true/\p x=false)->l.countP p<l.countP q
 |[],_,⟨x,h,_⟩=>by simp at h
 |a::l,h,⟨x,hx,h1,h2⟩=>by
  have le:l.countP p<=l.countP q:=Ve λy hy=>h y (by simp[hy])
  rw[Zu,Zu];rcases Az.mp hx with rfl|hx
  .rw[Bf (by rw[h2];decide),Bd h1];omega
  .have ih:=lG (l:=l) (λy hy=>h y (by simp[hy])) ⟨x,hx,h1,h2⟩
   have:=h a (by simp)
   cases hp:p a with
   |false=>rw[Bf (by decide)];split <;> omega
   |true=>rw[Bd rfl,Bd (this hp)];omega
section
variable {K:Type}{lt':K->K->Ar}
noncomputable def gX (lt':K->K->Ar)(ks:Aa K)(x:K):An:=(ks.countP (λk=>lt' k x):Ai)
theorem eE (O:Ord lt'){ks:Aa K}{x y:K}(hx:x∈ks):lt' x y=decide (gX lt' ks x<gX lt' ks y):=by
 unfold gX;cases h:lt' x y with
 |true =>
  refine(Cp ?_).symm;have:=lG (l:=ks) (p:=λk=>lt' k x) (q:=λk=>lt' k y) (λz _ hz=>O.tr hz h) ⟨x,hx,h,O.irr x⟩;omega
 |false =>
  refine(Dj ?_).symm;have:ks.countP (λk=>lt' k y)<=ks.countP (λk=>lt' k x):=by
   rcases O.tri h with e|h'
   .rw[e];exact Av _
   .exact Ve λz _ hz=>O.tr hz h'
  omega
noncomputable def sL (lt':K->K->Ar)(ks:Aa K)(d:K)(i j:Ai):Ar:=lt' (ks.getD i d) (ks.getD j d)
def Nf (lt':K->K->Ar)(l:Aa K):Prop:=l.Pairwise λa b=>lt' b a=false
theorem aA (O:Ord lt'):∀ {a b:Aa K},Nf lt' a->Nf lt' b->a.Perm b->a=b
 |[],b,_,_,p=>(List.nil_perm.mp p).symm
 |x::a,b,ha,hb,p=>by
  cases b with
  |nil=>exact absurd p.symm (by simp)
  |cons y b =>
   unfold Nf at ha hb;rw[Dw] at ha hb;have e:x=y:=by
    rcases Az.mp (p.mem_iff.mp (.head _)) with e|e
    .exact e
    .rcases Az.mp (p.mem_iff.mpr (.head _)) with e'|e'
     .exact e'.symm
     .have h1:=ha.1 y e'
      have h2:=hb.1 x e;rcases O.tri h1 with e|h
      .exact e.symm
      .rw[h2] at h;cases h
   subst e;rw[aA O ha.2 hb.2 (List.Perm.cons_inv p)]
theorem XD (O:Ord lt'){l:Aa K}(h:Nf lt' l)(nd:l.Nodup):l.Pairwise λa b=>lt' a b=true:=by
 refine List.Pairwise.imp₂ (λ{a b} h1 h2=>?_) h nd;exact(O.tri h1).elim (λe=>absurd e.symm h2) id
noncomputable def wD (lt':K->K->Ar)(l:Aa K):Aa K:=l.mergeSort λa b=>!lt' b a
theorem xG (l:Aa K):(wD lt' l).Perm l:=List.mergeSort_perm _ _
theorem aY (O:Ord lt')(l:Aa K):Nf lt' (wD lt' l):=by
 have:=List.pairwise_mergeSort (le:=λa b=>!lt' b a) (λa b c h1 h2=>?_) (λa b=>?_) l
 .exact this.imp λh=>by simpa using h
 .have h1:lt' b a=false:=by simpa using h1
  have h2:lt' c b=false:=by simpa using h2
  cases h3:lt' c a with
  |false=>rfl
  |true =>
   rcases O.tri h1 with e|h
   .rw[<- e] at h3;rw[h3] at h2;cases h2
   .have:=O.tr h3 h;rw[h2] at this;cases this
 .cases h:lt' b a with
  |false=>rfl
  |true =>
   cases h':lt' a b with
   |false=>rfl
   |true=>have:=O.tr h h';rw[O.irr] at this;cases this
noncomputable def j6 (lt':K->K->Ar)(x:K):Aa K->Aa K
 |[]=>[x]
 |y::l=>if lt' x y then x::y::l else if lt' y x then y::j6 lt' x l else y::l
noncomputable def srt (lt':K->K->Ar):Aa K->Aa K
 |[]=>[]
 |x::xs=>j6 lt' x (srt lt' xs)
set_option tactic.hygienic true in
theorem fS (O:Ord lt')(x y:K):∀ l:Aa K,y∈j6 lt' x l↔y=x\/y∈l
 |[]=>by simp[j6]
 |z::l=>by
  unfold j6
  split
  .simp
  .rename_i h1
   split
   .rw[Az,fS O x y l,Az]
    exact⟨λh=>by rcases h with h|h|h <;> simp[h],λh=>by rcases h with h|h|h <;> simp[h]⟩
   .rename_i h2
    have:x=z:=(O.tri (by simpa using h1)).elim id λh=>absurd h h2
    subst this;simp
set_option tactic.hygienic true in
theorem cP (O:Ord lt')(x:K):∀ l:Aa K,l.Pairwise (λa b=>lt' a b=true)->(j6 lt' x l).Pairwise (λa b=>lt' a b=true)
 |[],_=>by simp[j6]
 |z::l,h=>by
  rw[Dw] at h;unfold j6
  split
  .rename_i h1
   refine Dw.mpr ⟨λy hy=>?_,Dw.mpr h⟩;rcases Az.mp hy with rfl|hy
   .exact h1
   .exact O.tr h1 (h.1 y hy)
  .split
   .rename_i h2
    refine Dw.mpr ⟨λy hy=>?_,cP O x l h.2⟩;rcases (fS O x y l).mp hy with rfl|hy
    .exact h2
    .exact h.1 y hy
   .exact Dw.mpr h
theorem vG (O:Ord lt')(y:K):∀ l:Aa K,y∈srt lt' l↔y∈l
 |[]=>by simp[srt]
 |x::l=>by rw[srt,fS O,vG O y l,Az]
theorem b9 (O:Ord lt'):∀ l:Aa K,(srt lt' l).Pairwise (λa b=>lt' a b=true)
 |[]=>by simp[srt]
 |x::l=>cP O x _ (b9 O l)
theorem l3 (O:Ord lt'):∀ {a b:Aa K},a.Pairwise (λa b=>lt' a b=true)->b.Pairwise (λa b=>lt' a b=true)->(∀ x,x∈a↔x∈b)->a=b
 |[],[],_,_,_=>rfl
 |[],y::b,_,_,h=>by have:=(h y).mpr (by simp);simp at this
 |x::a,[],_,_,h=>by have:=(h x).mp (by simp);simp at this
 |x::a,y::b,ha,hb,h=>by
  rw[Dw] at ha hb;have asym:∀ {u v},lt' u v=true->lt' v u=true->Fv:=λp q=>by have:=O.tr p q;rw[O.irr] at this;cases this
  have e:x=y:=by
   rcases Az.mp ((h x).mp (by simp)) with e|e
   .exact e
   .rcases Az.mp ((h y).mpr (by simp)) with e'|e'
    .exact e'.symm
    .exact(asym (hb.1 x e) (ha.1 y e')).elim
  subst e;have ne:∀ {z:K} {l:Aa K},(∀ y∈l,lt' x y=true)->z∈l->z≠x:=λh hz e=>by subst e;have:=h _ hz;rw[O.irr] at this;cases this
  rw[l3 O ha.2 hb.2 λz=>⟨λhz=>?_,λhz=>?_⟩]
  .exact(Az.mp ((h z).mp (by simp[hz]))).elim (λe=>absurd e (ne ha.1 hz)) id
  .exact(Az.mp ((h z).mpr (by simp[hz]))).elim (λe=>absurd e (ne hb.1 hz)) id
theorem NT (O:Ord lt'){l xs:Aa K}(h:Nf lt' l)(nd:l.Nodup)(m:∀ x,x∈l↔x∈xs):l=srt lt' xs:=
 l3 O (XD O h nd) (b9 O xs) λx=>by rw[m,vG O]
end
theorem PC:Wi (.type "set") "__len__" = pure (Ab (.builtin "set.__len__")):=PySem.F.slot_set_len.lookup
section
variable {prog:Bg}{w:Ca}{A:Bt}{E:Ac->Ag->Prop}{s:Ag}{S:Af}{es:Ax (An × Ac)}{ep:Ai}{t:Fn}
theorem V2 {r:Af}(hT:s.TypeIs (.ref r) "set"){Q:Ar->Ag->Prop}(h:Q false s):Ap (As prog w) A (Ql (.ref r)) Q E s:=by
 unfold Ql;refine Ad (Ua hT PC ?_);generalize hid:("set.__len__" : Ek)=id0
 wp_delta
 rw[show splitId id0=Ab ("set","__len__") from by subst hid;decide +kernel]
 subst hid;refine Ad (Os (T:="set") (b:=true) hT (by rw[Vq];kernel_rfl) ?_)
 refine Uj (λhab=>absurd hab (by decide)) (λ_=>?_)
 refine Uj (λ_=>?_) (λhab=>absurd (by decide +kernel) hab)
 exact Ad (Nl hT (Am h))
theorem eX {Q:Aa Ac->Ag->Prop}(hh:A.handled=none)(Z:Still w S es ep t)(ho:s.heap.get? S=Ab (setO es ep t))(hn:es.size<=1000)
  (h:∀ h' tk,(∀ b o,s.heap.get? b=Ab o->h'.get? b=Ab o)->s.heap.objs.size<h'.objs.size->Q ((qQ w S ep es).toList.map (·.2)) { s with heap:=h',toks:=tk }) : Ap (As prog w) A (collect (.ref S)) Q E s:=by
 have hS:S<s.heap.objs.size:=Ba ho;unfold collect;refine Ad (Vp (Gh PySem.F.entry_proto_collect ?_));rw[Fo PySem.F.plain_proto_collect _];show Ap _ A.in1 (newList [] >>= λl=>again (.builtin "list.__iadd__" ⟨[l,.ref S],[]⟩)) _ _ s;refine Ad (Ee (Am ⟨Ix Tu _,Gh PySem.F.entry_list_iadd ?_⟩));rw[Fo Tu _];have hD:(s.heap.push { cls:=.type "list",data:=.seq ([] : Aa Ac).toArray }).get? s.heap.objs.size=Ab { cls:=.type "list",data:=.seq #[] }:=Ay _ rfl;have ho1:(s.heap.push { cls:=.type "list",data:=.seq ([] : Aa Ac).toArray }).get? S=Ab (setO es ep t):=Ah _ ho;show Ap _ A.in1 (Qm (.ref s.heap.objs.size) (.ref S) (.ref s.heap.objs.size)) _ _ _;unfold Qm;have hT1:Sc { s with heap:=s.heap.push { cls:=.type "list",data:=.seq ([] : Aa Ac).toArray } } (.ref S) "set":=⟨_,ho1,rfl⟩
 refine Ad (Nl hT1 ?_);have h1:Su (.ref s.heap.objs.size) (.ref S)=false:=by simp[Su];exact Gf hS
 rw[Bf (by rw[h1];decide)]
 refine Ad (V9 (s:={ s with heap:=s.heap.push { cls:=.type "list",data:=.seq ([] : Aa Ac).toArray } }) Z ho1 ?_)
 have hD2:=Ah (itO 0 0 S es.size ep) hD;have hT2:Sc { s with heap:=(s.heap.push { cls:=.type "list",data:=.seq ([] : Aa Ac).toArray }).push (itO 0 0 S es.size ep) } (.ref S) "set":=⟨_,Ah _ ho1,rfl⟩
 refine Ad (Ej (V2 hT2 ?_));refine Uj (λ_=>?_) (λhab=>absurd (by decide) hab)
 refine Ad (Go (Ad ?_));show Ap _ _ (updateSeq s.heap.objs.size (·.push .none) >>= λ_=>updateSeq s.heap.objs.size (·.pop)) _ _ _
 refine Ad (My hD2 rfl ?_);have hD3:=Es (Ew (·.push Dq)) hD2 rfl
 refine My (hz:=by seq_fits) hD3 rfl ?_
 have hD4:=Es (Ew (·.pop)) hD3 rfl
 have sz:(s.heap.push { cls:=.type "list",data:=.seq ([] : Aa Ac).toArray }).objs.size=s.heap.objs.size+1:=Dt ..;have oth:∀ {b:Af} {o:Cu},b≠s.heap.objs.size->((s.heap.push { cls:=.type "list",data:=.seq ([] : Aa Ac).toArray }).push (itO 0 0 S es.size ep)).get? b=Ab o ->
   ((((s.heap.push { cls:=.type "list",data:=.seq ([] : Aa Ac).toArray }).push (itO 0 0 S es.size ep)).update s.heap.objs.size (Ew (·.push Dq))).update s.heap.objs.size (Ew (·.pop))).get? b=Ab o:=
  λhb e=>(Cj _ _ (Fb hb)).trans ((Cj _ _ (Fb hb)).trans e)
 have at0:=K8 (w:=w) (s:={ s with heap:=s.heap.push { cls:=.type "list",data:=.seq ([] : Aa Ac).toArray } }) Z ho1
 refine Am ⟨Ix PySem.F.plain_extend_loop _,?_⟩;refine codeAny_extend_loopS ((FJ (prog:=prog) (A:=A.in1) (I:=(s.heap.push { cls:=.type "list",data:=.seq ([] : Aa Ac).toArray }).objs.size) hh (by rw[sz];exact Cw (Ob hS)) Z).toS) (by rw[Fp];lia) s.heap.objs.size ?_ _ es.size 0 _ #[] _ rfl (Fh _) ?_ hD4 (ItemsOf.nil _) λs' acc c hm hS' hacc=>?_
 .rw[sz]
  simp only[Az,Dm,Hd,Uy];exact⟨Cw (Jb _),Gf hS⟩
 .obtain⟨slot,a1,a2,a3⟩:=at0
  exact⟨slot,oth (by rw[sz];exact Gf (Jb _)) a1,oth (Cw hS) a2,a3⟩
 .show Ap _ A (load s.heap.objs.size >>= _) _ _ s'
  refine Ad (wpAny_load hS' ?_);obtain⟨h',g',d',tk',os'⟩:=s';have eg:g'=s.gens:=hm.gens;have ed:d'=s.drawn:=hm.drawn;have eo:os'=s.os:=hm.os;subst eg;subst ed;subst eo;have e:acc.toList=(qQ w S ep es).toList.map (·.2):=by
   refine Yz λi=>?_;rw[Bn,Dy,Bn];by_cases hi:i<es.size
   .have hi':i<acc.size:=by rw[hacc.1];exact hi
    obtain⟨e,he,q⟩:=hacc.2 i acc[i] (Eb hi');rw[Eb hi',he,Ug,q]
   .rw[Uk (by rw[hacc.1];lia),Uk (by rw[uE];lia)]
    rfl
  refine Am ?_;show Q acc.toList _;rw[e];refine h h' tk' (λb o q=>?_) (Ba hS');have hb:b<s.heap.objs.size:=Ba q;refine hm.heap b o (λhx=>?_) (oth (Cw hb) (Ah _ (Ah _ q)));simp only[Az,Dm,Hd] at hx;rcases hx with hx|hx
  .exact absurd hb (by rw[hx];exact Ei _)
  .exact absurd hb (by rw[hx,sz];exact Lo.mpr (Mu _))
end
noncomputable def tW:Ar->Bs->Ax Bs->Ai->Ai->Ai->Ov Gc Ln (Al Ai):=sortPriv% PySem.Builtin.gallop
noncomputable def VJ:Ax Bs->Ax Bs->Ov Gc Ln (Ax Bs):=sortPriv% PySem.Builtin.mergeLo
noncomputable def VI:Ax Bs->Ax Bs->Ov Gc Ln (Ax Bs):=sortPriv% PySem.Builtin.mergeHi
noncomputable def nv:Bs:=(Dq,Dq)
section
variable {M:Pj}{A:Bt}{E:Ac->Ag->Prop}{s:Ag}{κ : Mz}{U:Bs->Prop}{r:Bs->An}
structure Cm (M:Pj)(A:Bt)(s:Ag)(κ : Mz)(U:Bs->Prop)(r:Bs->An):Prop where
 lt:∀ {x y:Bs},U x->U y->∀ {E:Ac->Ag->Prop} {Q:Al Ar->Gc->Prop} {st:Gc},kindOf st=κ->Q (Ab (decide (r x<r y))) st->wpS M A E s (lt' x y) Q st
theorem zE {i:Ai}{Q:Bs->Gc->Prop}{st:Gc}(h:i<arr.size)(q:Q (arr.getD i nv) st):wpS M A E s (elem' arr i) Q st:=by
 rw[elem'_eq,getElem?_pos arr i h];have e:arr.getD i nv=arr[i]:=by simp[Gs,h]
 rw[e] at q;exact Bp q
theorem Q7 (C:Cm M A s κ U r){left:Ar}{key:Bs}{arr:Ax Bs}{i:Ai}{Q:Al Ar->Gc->Prop}{st:Gc}(hk:kindOf st=κ)(hi:i<arr.size)(hU:U (arr.getD i nv))(hkU:U key)
  (q:Q (Ab (if left then decide (r (arr.getD i nv)<r key) else !decide (r key<r (arr.getD i nv)))) st) :
  wpS M A E s (do let x <- elem' arr i;if left then lt' x key else (do let a <- lt' key x;pure (a.map (λb=>!b)))) Q st:=by
 refine Bb (zE hi ?_);cases left with
 |true=>exact C.lt hU hkU hk q
 |false=>exact Bb (C.lt hkU hU hk (Bp q))
theorem tG (C:Cm M A s κ U r){left:Ar}{key:Bs}{arr:Ax Bs}{base n hint cut:Ai}{Q:Al Ai->Gc->Prop}{st:Gc}(hk:kindOf st=κ)(hh:hint<n)(hb:base+n<=arr.size)(hU:∀ i,i<n->U (arr.getD (base+i) nv))(hkU:U key)(hc:cut<=n)
  (hB:∀ i,i<n->(if left then decide (r (arr.getD (base+i) nv)<r key) else !decide (r key<r (arr.getD (base+i) nv)))=decide (i<cut)) (h:Q (Ab cut) st):wpS M A E s (tW left key arr base n hint) Q st:=by
 have B:∀ {i:Ai} {E:Ac->Ag->Prop} {Q:Al Ar->Gc->Prop},i<n->Q (Ab (decide (i<cut))) st->wpS M A E s (do let x <- elem' arr (base+i);if left then lt' x key else (do let a <- lt' key x;pure (a.map (λb=>!b)))) Q st:=by
  intro i E Q hi q;exact Q7 C hk (by lia) (hU i hi) hkU (by rw[hB i hi];exact q)
 have bin:∀ {lo hi:Ai} {f:Ai->Al (Al Ai) × Ai × Ai->Ov Gc Ln (ForInStep (Al (Al Ai) × Ai × Ai))},lo<=cut->cut<=hi->hi<=n ->
   (∀ x a b,f x (none,a,b)=if a>=b then pure (.done (none,a,b)) else ((do let x <- elem' arr (base+(a+(b-a)/2));if left then lt' x key else (do let a <- lt' key x;pure (a.map (λb=>!b)))) >>= λo=>match o with
    |some more=>if more then pure (.yield (none,a+(b-a)/2+1,b)) else pure (.yield (none,a,a+(b-a)/2))
    |_=>pure (.done (Ab none,a,b))))->wpS M A E s (forIn [0:n] (none,lo,hi) f) (λc st'=>st'=st/\∃ a,c=(none,a,cut)) st:=by
  intro lo hi f h1 h2 h3 hf;refine Fl (I:=λx c st'=>st'=st/\∃ a b,c=(none,a,b)/\a<=cut/\cut<=b/\b<=n/\b-a<=n-x) ?_ ?_ ⟨rfl,lo,hi,rfl,h1,h2,h3,by lia⟩
  .rintro x c st' _ hx ⟨rfl,a,b,rfl,q1,q2,q3,q4⟩
   rw[hf];by_cases g:a>=b
   .rw[Bd g];exact Bp ⟨rfl,a,by rw[show b=cut by lia]⟩
   .rw[Bf g]
    refine Bb (B (by lia) ?_)
    by_cases z:a+(b-a)/2<cut
    .simp only[z,Kn,Ds]
     exact Bp ⟨rfl,_,_,rfl,by lia,q2,q3,by lia⟩
    .simp only[z,Kt,Cb,Ef]
     exact Bp ⟨rfl,_,_,rfl,q1,by lia,by lia,by lia⟩
  .rintro c st' ⟨rfl,a,b,rfl,q1,q2,q3,q4⟩
   exact⟨rfl,a,by rw[show b=cut by lia]⟩
 refine Bb (B hh ?_);dsimp only;by_cases hr:hint<cut
 .simp only[hr,Kn,Ds]
  refine Bb (Ht (Fl (I:=λx c st'=>st'=st/\∃ a b,c=(none,a,b)/\hint+a<cut/\a<b/\x<b)
   (Q:=λc st'=>st'=st/\∃ a b,c=(none,a,b)/\hint+a<cut/\cut<=hint+min b (n-hint)) ?_ ?_ ⟨rfl,0,1,rfl,hr,by lia,by lia⟩) ?_)
  .rintro x c st' _ hx ⟨rfl,a,b,rfl,q1,q2,q3⟩
   dsimp only;by_cases g:b>=n-hint
   .rw[Bd g];exact Bp ⟨rfl,a,b,rfl,q1,by lia⟩
   .rw[Bf g]
    refine Bb (B (by lia) ?_)
    by_cases z:hint+b<cut
    .simp only[z,Kn,Lf,Cb,Ef]
     exact Bp ⟨rfl,_,_,rfl,z,by lia,by lia⟩
    .simp only[z,Kt,Vo,Ds]
     exact Bp ⟨rfl,a,b,rfl,q1,by lia⟩
  .rintro c st' ⟨rfl,a,b,rfl,q1,q2,q3⟩
   exact⟨rfl,a,b,rfl,q1,by lia⟩
  .rintro c st' ⟨rfl,a,b,rfl,q1,q2⟩
   dsimp only;refine Bb (Ht (bin (lo:=hint+a+1) (hi:=hint+min b (n-hint)) (by lia) q2 (by lia) λ_ _ _=>rfl) ?_)
   rintro c st' ⟨rfl,a',rfl⟩;exact Bp h
 .simp only[hr,Kt,Cb,Ef]
  refine Bb (Ht (Fl (I:=λx c st'=>st'=st/\∃ a b,c=(none,a,b)/\cut+a<=hint/\a<b/\x<b)
   (Q:=λc st'=>st'=st/\∃ a b,c=(none,a,b)/\cut+a<=hint/\hint+1<=cut+min b (hint+1)) ?_ ?_ ⟨rfl,0,1,rfl,by lia,by lia,by lia⟩) ?_)
  .rintro x c st' _ hx ⟨rfl,a,b,rfl,q1,q2,q3⟩
   dsimp only;by_cases g:b>=hint+1
   .rw[Bd g];exact Bp ⟨rfl,a,b,rfl,q1,by lia⟩
   .rw[Bf g]
    refine Bb (B (by lia) ?_)
    by_cases z:hint-b<cut
    .simp only[z,Kn,Ds]
     exact Bp ⟨rfl,a,b,rfl,q1,by lia⟩
    .simp only[z,Kt,Cb,Ef]
     exact Bp ⟨rfl,_,_,rfl,by lia,by lia,by lia⟩
  .rintro c st' ⟨rfl,a,b,rfl,q1,q2,q3⟩
   exact⟨rfl,a,b,rfl,q1,by lia⟩
  .rintro c st' ⟨rfl,a,b,rfl,q1,q2⟩
   dsimp only;refine Bb (Ht (bin (lo:=hint+1-min b (hint+1)) (hi:=hint-a) (by lia) (by lia) (by lia) λ_ _ _=>rfl) ?_)
   rintro c st' ⟨rfl,a',rfl⟩;exact Bp h
end
def Le (r:Bs->An)(x y:Bs):Prop:=r x<=r y
structure Mg (r:Bs->An)(o A B T:Aa Bs):Prop where
 p1:(o++A).Pairwise (Le r)
 p2:(o++B).Pairwise (Le r)
 pm:(o++A++B).Perm T
structure Mh (r:Bs->An)(A B o T:Aa Bs):Prop where
 p1:(A++o).Pairwise (Le r)
 p2:(B++o).Pairwise (Le r)
 pm:(A++B++o).Perm T
section
variable {r:Bs->An}{o A B A1 A2 B1 B2 T:Aa Bs}
theorem Mg.b (h:Mg r o A (B1++B2) T)(l:∀ x∈B1,∀ y∈A,Le r x y):Mg r (o++B1) A B2 T:=by
 obtain⟨p1,p2,pm⟩:=h;refine⟨?_,by rw[Ch];exact p2,?_⟩
 .rw[Ch]
  rw[Dn] at p1 p2 ⊢;refine⟨p1.1,?_,λx hx y hy=>?_⟩
  .rw[Dn]
   exact⟨(Dn.mp p2.2.1).1,p1.2.1,l⟩
  .rcases Bz.mp hy with hy|hy
   .exact p2.2.2 x hx y (Dc _ hy)
   .exact p1.2.2 x hx y hy
 .refine Pr ?_ pm
  simp only[Ch];refine Jk _ ?_;simp only[<- Ch];exact Lg _ Jl
theorem Mg.a (h:Mg r o (A1++A2) B T)(l:∀ x∈A1,∀ y∈B,Le r x y):Mg r (o++A1) A2 B T:=by
 obtain⟨p1,p2,pm⟩:=h;refine⟨by rw[Ch];exact p1,?_,by simpa only [Ch] using pm⟩
 rw[Ch];rw[Dn] at p1 p2 ⊢;refine⟨p2.1,?_,λx hx y hy=>?_⟩
 .rw[Dn]
  exact⟨(Dn.mp p1.2.1).1,p2.2.1,l⟩
 .rcases Bz.mp hy with hy|hy
  .exact p1.2.2 x hx y (Dc _ hy)
  .exact p2.2.2 x hx y hy
theorem Mh.a (h:Mh r (A1++A2) B o T)(l:∀ x∈B,∀ y∈A2,Le r x y):Mh r A1 B (A2++o) T:=by
 obtain⟨p1,p2,pm⟩:=h;refine⟨by rw[<- Ch];exact p1,?_,?_⟩
 .rw[Ch] at p1
  rw[Dn] at p1 p2 ⊢;refine⟨p2.1,p1.2.1,λx hx y hy=>?_⟩;rcases Bz.mp hy with hy|hy
  .exact l x hx y hy
  .exact p2.2.2 x hx y hy
 .refine Pr ?_ pm
  simp only[Ch];refine Jk _ ?_;simp only[<- Ch];exact Lg _ Jl
theorem Mh.b (h:Mh r A (B1++B2) o T)(l:∀ x∈A,∀ y∈B2,Le r x y):Mh r A B1 (B2++o) T:=by
 obtain⟨p1,p2,pm⟩:=h;refine⟨?_,by rw[<- Ch];exact p2,by simpa only [Ch] using pm⟩
 rw[Ch] at p2;rw[Dn] at p1 p2 ⊢;refine⟨p1.1,p2.2.1,λx hx y hy=>?_⟩;rcases Bz.mp hy with hy|hy
 .exact l x hx y hy
 .exact p1.2.2 x hx y hy
end
structure Mo (r:Bs->An)(T:Aa Bs)(m:Ax Bs):Prop where
 pm:m.toList.Perm T
 up:m.toList.Pairwise (Le r)
noncomputable abbrev v9 (st:Gc)(g:Ai):Gc:=Dk (kindOf st) (arrOf st) (pendingOf st) g (failedOf st)
theorem tP {a:Ax Bs}{i:Ai}(h:i<a.size):a.toList.drop i=a.getD i nv::a.toList.drop (i+1):=by
 rw[Gr (by simpa using h)]
 congr 1
 simp[Gs,h]
theorem zQ {a:Ax Bs}{i:Ai}(h:i<a.size):a.getD i nv∈a.toList:=by
 have e:a.getD i nv=a[i]:=by simp[Gs,h]
 rw[e];exact Array.getElem_mem_toList h
theorem wY {r:Bs->An}{a:Ax Bs}(s:a.toList.Pairwise (Le r)){i j:Ai}(h:i<=j)(hj:j<a.size):r (a.getD i nv)<=r (a.getD j nv):=by
 rcases Nat.lt_or_ge i j with l|l
 .have e:=Jx.mp s i j (by simpa using Io l hj) (by simpa using hj) l
  have hi:i<a.size:=Io l hj;simpa [Gs,hi,hj,Le] using e
 .rw[Lh h l];exact Ow _
theorem gP {a:Ax Bs}{i:Ai}{x:Bs}(h:x∈a.toList.drop i):∃ j,i<=j/\j<a.size/\x=a.getD j nv:=by
 obtain⟨k,hk,e⟩:=Cs.mp h;rw[Sa] at e;have hk':k<a.size-i:=by simpa using hk
 refine⟨i+k,by lia,by lia,?_⟩
 have:i+k<a.size:=by lia
 simp[Gs,this,<- e]
theorem gR {a:Ax Bs}{x:Bs}(h:x∈a.toList.take n):∃ j,j<n/\j<a.size/\x=a.getD j nv:=by
 obtain⟨k,hk,e⟩:=Cs.mp h;rw[Rz] at e;have hk':k<n/\k<a.size:=by rw[Eu,Bm] at hk;lia
 refine⟨k,hk'.1,hk'.2,?_⟩;simp[Gs,hk'.2,<- e]
theorem fP {a:Ax Bs}{i k:Ai}:(a.extract i (i+k)).toList++a.toList.drop (i+k)=a.toList.drop i:=by
 rw[Kb,Ia,Ku,<- List.drop_drop];exact Ox _ _
theorem bK {a:Ax Bs}{i:Ai}:(a.extract i a.size).toList=a.toList.drop i:=by
 rw[Kb,Ia];exact Gn (by simp)
theorem nF {a:Ax Bs}{i k:Ai}{x:Bs}(h:x∈(a.extract i (i+k)).toList):∃ j,i<=j/\j<i+k/\j<a.size/\x=a.getD j nv:=by
 rw[Kb,Ia,Ku] at h;obtain⟨m,hm,e⟩:=Cs.mp h;rw[Rz,Sa] at e;have hm':m<k/\i+m<a.size:=by rw[Eu,Kj,Bm] at hm;lia
 refine⟨i+m,by lia,by lia,hm'.2,?_⟩
 simp[Gs,hm'.2,<- e]
def GL (r:Bs->An)(a b o:Ax Bs)(i j:Ai):Prop:=Mg r o.toList (a.toList.drop i) (b.toList.drop j) (a.toList++b.toList)
section
variable {r:Bs->An}{a b o:Ax Bs}{i j k:Ai}
theorem GL.pb (sa:a.toList.Pairwise (Le r))(h:GL r a b o i j)(hj:j<b.size)(l:i<a.size->r (b.getD j nv)<=r (a.getD i nv)):GL r a b (o.push (b.getD j nv)) i (j+1):=by
 have h':Mg r o.toList (a.toList.drop i) ([b.getD j nv]++b.toList.drop (j+1)) (a.toList++b.toList):=by rw[Vf,<- tP hj];exact h
 have:=h'.b λx hx y hy=>by
  cases Ci.mp hx;obtain⟨m,h1,h2,rfl⟩:=gP hy;exact Fu (l (by lia)) (wY sa h1 h2)
 unfold GL;rw[En];exact this
theorem GL.pa (sb:b.toList.Pairwise (Le r))(h:GL r a b o i j)(hi:i<a.size)(l:j<b.size->r (a.getD i nv)<=r (b.getD j nv)):GL r a b (o.push (a.getD i nv)) (i+1) j:=by
 have h':Mg r o.toList ([a.getD i nv]++a.toList.drop (i+1)) (b.toList.drop j) (a.toList++b.toList):=by rw[Vf,<- tP hi];exact h
 have:=h'.a λx hx y hy=>by
  cases Ci.mp hx;obtain⟨m,h1,h2,rfl⟩:=gP hy;exact Fu (l (by lia)) (wY sb h1 h2)
 unfold GL;rw[En];exact this
theorem GL.ea (sb:b.toList.Pairwise (Le r))(h:GL r a b o i j)(hj:j<b.size)(l:∀ m,m<k->r (a.getD (i+m) nv)<=r (b.getD j nv)):GL r a b (o++a.extract i (i+k)) (i+k) j:=by
 have h':Mg r o.toList ((a.extract i (i+k)).toList++a.toList.drop (i+k)) (b.toList.drop j) (a.toList++b.toList):=by rw[fP];exact h
 have:=h'.a λx hx y hy=>by
  obtain⟨m,h1,h2,h3,rfl⟩:=nF hx;obtain⟨m',h4,h5,rfl⟩:=gP hy;have:=l (m-i) (by lia)
  rw[show i+(m-i)=m by lia] at this
  exact Fu this (wY sb h4 h5)
 unfold GL;rw[Ec];exact this
theorem GL.eb (sa:a.toList.Pairwise (Le r))(h:GL r a b o i j)(hi:i<a.size)(l:∀ m,m<k->r (b.getD (j+m) nv)<=r (a.getD i nv)):GL r a b (o++b.extract j (j+k)) i (j+k):=by
 have h':Mg r o.toList (a.toList.drop i) ((b.extract j (j+k)).toList++b.toList.drop (j+k)) (a.toList++b.toList):=by rw[fP];exact h
 have:=h'.b λx hx y hy=>by
  obtain⟨m,h1,h2,h3,rfl⟩:=nF hx;obtain⟨m',h4,h5,rfl⟩:=gP hy;have:=l (m-j) (by lia)
  rw[show j+(m-j)=m by lia] at this
  exact Fu this (wY sa h4 h5)
 unfold GL;rw[Ec];exact this
theorem GL.fin (h:GL r a b o i j)(e:i=a.size\/j=b.size):Mo r (a.toList++b.toList) (o++a.extract i a.size++b.extract j b.size):=by
 refine⟨?_,?_⟩ <;> rw[Ec,Ec,bK,bK]
 .exact h.pm
 .rcases e with rfl|rfl
  .rw[Li (by simp),Fq];exact h.p2
  .rw[Li (l:=b.toList) (by simp),Fq];exact h.p1
theorem GL.last (h:GL r a b o i j)(e:i+1=a.size)(l:∀ x∈b.toList,Le r x (a.getD (a.size-1) nv)):Mo r (a.toList++b.toList) (o++b.extract j b.size++a.extract i a.size):=by
 have hi:i<a.size:=by lia
 have hd:a.toList.drop i=[a.getD i nv]:=by rw[tP hi,Li (by simp;lia)]
 refine⟨?_,?_⟩ <;> rw[Ec,Ec,bK,bK]
 .refine Pr ?_ h.pm
  rw[Ch,Ch];exact Jk _ Jl
 .have p1:=h.p1
  rw[hd] at p1 ⊢;rw[Dn] at p1 ⊢;refine⟨h.p2,Hi _ _,λx hx y hy=>?_⟩;rcases Bz.mp hx with hx|hx
  .exact p1.2.2 x hx y hy
  .cases Ci.mp hy
   have:=l x (Vw hx);rw[show a.size-1=i by lia] at this
   exact this
end
theorem sX {p:Ai->Ar}:∀ (n:Ai),(∀ i j,i<=j->j<n->p j=true->p i=true)->∃ c,c<=n/\∀ i,i<n->p i=decide (i<c)
 |0,_=>⟨0,Av _,λi h=>by lia⟩
 |n+1,h=>by
  obtain⟨c,hc,e⟩:=sX n λi j a b=>h i j a (by lia)
  by_cases q:p n=true
  .refine⟨n+1,Av _,λi hi=>?_⟩
   rw[h i n (by lia) (by lia) q]
   simp[hi]
  .refine⟨c,by lia,λi hi=>?_⟩
   rcases Nat.lt_or_ge i n with l|l
   .exact e i l
   .have:i=n:=by lia
    subst this;have:¬ i<c:=by lia
    simp[this,q]
section
variable {M:Pj}{A:Bt}{E:Ac->Ag->Prop}{s:Ag}{κ : Mz}{U:Bs->Prop}{r:Bs->An}
theorem qO {σ α:Type}{c:Prop}[Ju c]{x y:Ov σ Ln α}{Q:α->σ->Prop}{st:σ}(h1:c->wpS M A E s x Q st)(h2:¬ c->wpS M A E s y Q st):wpS M A E s (if c then x else y) Q st:=by
 by_cases h:c
 .rw[Bd h];exact h1 h
 .rw[Bf h];exact h2 h
theorem YY (C:Cm M A s κ U r){key:Bs}{arr:Ax Bs}{base n hint:Ai}{Q:Al Ai->Gc->Prop}{st:Gc}(hk:kindOf st=κ)(hh:hint<n)(hb:base+n<=arr.size)(hU:∀ i,i<n->U (arr.getD (base+i) nv))(hkU:U key)
  (sa:∀ i j,i<=j->j<n->r (arr.getD (base+i) nv)<=r (arr.getD (base+j) nv)) (h:∀ c,c<=n->(∀ i,i<c->r (arr.getD (base+i) nv)<=r key)->(∀ i,c<=i->i<n->r key<r (arr.getD (base+i) nv))->Q (Ab c) st):wpS M A E s (tW false key arr base n hint) Q st:=by
 obtain⟨c,hc,e⟩:=sX (p:=λi=>!decide (r key<r (arr.getD (base+i) nv))) n λi j a b q=>by
  have:=sa i j a b;simp only[Ny,Ip] at q ⊢
  lia
 refine tG C hk hh hb hU hkU hc (λi hi=>by simpa using e i hi) (h c hc (λi hi=>?_) λi hi hn=>?_)
 .have:=e i (by lia)
  simp only[hi,Kn,Ny,Ip] at this
  lia
 .have:=e i hn
  simp only[show ¬ i<c by lia,Kt,Bool.not_eq_false',Cq] at this
  exact this
theorem YZ (C:Cm M A s κ U r){key:Bs}{arr:Ax Bs}{base n hint:Ai}{Q:Al Ai->Gc->Prop}{st:Gc}(hk:kindOf st=κ)(hh:hint<n)(hb:base+n<=arr.size)(hU:∀ i,i<n->U (arr.getD (base+i) nv))(hkU:U key)
  (sa:∀ i j,i<=j->j<n->r (arr.getD (base+i) nv)<=r (arr.getD (base+j) nv)) (h:∀ c,c<=n->(∀ i,i<c->r (arr.getD (base+i) nv)<r key)->(∀ i,c<=i->i<n->r key<=r (arr.getD (base+i) nv))->Q (Ab c) st):wpS M A E s (tW true key arr base n hint) Q st:=by
 obtain⟨c,hc,e⟩:=sX (p:=λi=>decide (r (arr.getD (base+i) nv)<r key)) n λi j a b q=>by
  have:=sa i j a b;simp only[Cq] at q ⊢
  lia
 refine tG C hk hh hb hU hkU hc (λi hi=>by simpa using e i hi) (h c hc (λi hi=>?_) λi hi hn=>?_)
 .have:=e i (by lia)
  simp only[hi,Kn,Cq] at this;exact this
 .have:=e i hn
  simp only[show ¬ i<c by lia,Kt,Ip] at this
  lia
end
section
variable {M:Pj}{A:Bt}{E:Ac->Ag->Prop}{s:Ag}{σ α γ δ:Type}{Q:α->σ->Prop}{st:σ}{c c' c2:Prop}[Ju c][Ju c'][Ju c2]
theorem i0 {K:γ->Ov σ Ln α}{x y:γ}(h:∀ z,wpS M A E s (K z) Q st):wpS M A E s (if c then K x else K y) Q st:=qO (λ_=>h x) λ_=>h y
theorem WC {K:γ->δ->Ov σ Ln α}{u:Ov σ Ln α}{x y:γ}{w v:δ}(P:γ->δ->Prop)(hK:∀ z w,P z w->wpS M A E s (K z w) Q st)(h1:c->c'->wpS M A E s u Q st)(h2:c->¬ c'->P x w)(h3:¬ c->P y v):wpS M A E s (if c then (if c' then u else K x w) else K y v) Q st:=qO (λe=>qO (h1 e) λe'=>hK _ _ (h2 e e')) λe=>hK _ _ (h3 e)
theorem WD {K:γ->δ->Ov σ Ln α}{u u':Ov σ Ln α}{x y:γ}{w v:δ}(P:γ->δ->Prop)(hK:∀ z w,P z w->wpS M A E s (K z w) Q st)(h1:c->c'->wpS M A E s u Q st)(h1':c->¬ c'->c2->wpS M A E s u' Q st)(h2:c->¬ c'->¬ c2->P x w)(h3:¬ c->P y v):wpS M A E s (if c then (if c' then u else if c2 then u' else K x w) else K y v) Q st:=qO (λe=>qO (h1 e) λe'=>qO (h1' e e') λe2=>hK _ _ (h2 e e' e2)) λe=>hK _ _ (h3 e)
end
section
variable {prog:Bg}{w:Ca}{A:Bt}{E:Ac->Ag->Prop}{s:Ag}{κ : Mz}{U:Bs->Prop}{r:Bs->An}
theorem c7 (C:Cm (As prog w) A s κ U r){a b:Ax Bs}{Q:Ax Bs->Gc->Prop}{st:Gc}(hk:kindOf st=κ)(ua:∀ x∈a.toList,U x)(ub:∀ x∈b.toList,U x)(sa:a.toList.Pairwise (Le r))(sb:b.toList.Pairwise (Le r))
  (h:∀ m g,Mo r (a.toList++b.toList) m->Q m (v9 st g)) (ha:0<a.size) (hb:0<b.size) (h0:r (b.getD 0 nv)<=r (a.getD 0 nv)) (h1:∀ x∈b.toList,Le r x (a.getD (a.size-1) nv)):wpS (As prog w) A E s (VJ a b) Q st:=by
 have G0:GL r a b #[] 0 0:=⟨by simpa using sa,by simpa using sb,by simp⟩
 have G1:=G0.pb sa hb λ_=>h0;refine Bb (Rh (Go ⟨rfl,?_⟩));refine Bb (zE hb ?_);dsimp only;refine qO (λe=>Bp (h _ (Ul st) (G1.fin (.inr (by simpa using e))))) λe1=>?_
 refine qO (λe=>Bp (h _ (Ul st) (G1.last (by simpa using e) h1))) λe2=>?_
 have e1:1<b.size:=by
  have:¬ 1=b.size:=by simpa using e1
  lia
 have e2:0+1<a.size:=by
  have:¬ 0+1=a.size:=by simpa using e2
  lia
 refine Bb (Nn ?_);refine Bb (Ht (Fl (I:=λx c st'=>(∃ g,st'=v9 st g)/\∃ o i j g,c=(none,o,i,j,g)/\GL r a b o i j/\i+1<a.size/\j<b.size/\x<i+j)
  (Q:=λc st'=>(∃ g,st'=v9 st g)/\∃ m,c.1=Ab m/\Mo r (a.toList++b.toList) m) ?_ ?_ ⟨⟨Ul st,rfl⟩,_,0,1,_,rfl,G1,e2,e1,by lia⟩) ?_)
 .rintro x c st' _ hx ⟨⟨g,rfl⟩,o,i,j,mg,rfl,G,hi,hj,hp⟩
  dsimp only;refine Bb (Ht (Fl (I:=λy c st'=>(∃ g,st'=v9 st g)/\∃ o i' j' p q,c=(none,o,i',j',p,q)/\GL r a b o i' j'/\i'+1<a.size/\j'<b.size/\i+j+y<=i'+j')
   (Q:=λc st'=>(∃ g,st'=v9 st g)/\((∃ m,c.1=Ab m/\Mo r (a.toList++b.toList) m)\/∃ o i' j' p q,c=(none,o,i',j',p,q)/\GL r a b o i' j'/\i'+1<a.size/\j'<b.size/\x+1<i'+j')) ?_ ?_ ⟨⟨g,rfl⟩,o,i,j,0,0,rfl,G,hi,hj,by lia⟩) ?_)
  .rintro y c st' _ hy ⟨⟨g,rfl⟩,o,i',j',p,q,rfl,G,hi,hj,hq⟩
   dsimp only;refine Bb (zE hj (Bb (zE (i:=i') (by lia) (Bb (C.lt (ub _ (zQ hj)) (ua _ (zQ (i:=i') (by lia))) hk ?_)))))
   dsimp only;refine qO (λl=>?_) λl=>?_
   .have l:r (b.getD j' nv)<r (a.getD i' nv):=by simpa using l
    have G2:=G.pb sa hj λ_=>Hw l;refine Bb (zE hj ?_);refine qO (λe=>?_) λe=>?_
    .exact Bp ⟨⟨g,rfl⟩,.inl ⟨_,rfl,G2.fin (.inr (by simpa using e))⟩⟩
    .have e:¬ j'+1=b.size:=by simpa using e
     refine qO (λ_=>?_) λ_=>?_
     .exact Bp ⟨⟨g,rfl⟩,.inr ⟨_,_,_,_,_,rfl,G2,hi,by lia,by lia⟩⟩
     .exact Bp ⟨⟨g,rfl⟩,_,_,_,_,_,rfl,G2,hi,by lia,by lia⟩
   .have l:¬ r (b.getD j' nv)<r (a.getD i' nv):=by simpa using l
    have G2:=G.pa sb (by lia) λ_=>Wu.mp l
    refine Bb (zE (i:=i') (by lia) ?_)
    refine qO (λe=>?_) λe=>?_
    .exact Bp ⟨⟨g,rfl⟩,.inl ⟨_,rfl,G2.last (by simpa using e) h1⟩⟩
    .have e:¬ i'+1+1=a.size:=by simpa using e
     refine qO (λ_=>?_) λ_=>?_
     .exact Bp ⟨⟨g,rfl⟩,.inr ⟨_,_,_,_,_,rfl,G2,by lia,hj,by lia⟩⟩
     .exact Bp ⟨⟨g,rfl⟩,_,_,_,_,_,rfl,G2,by lia,hj,by lia⟩
  .rintro c st' ⟨z,o,i',j',p,q,rfl,G,hi,hj,hq⟩
   exact⟨z,.inr ⟨_,_,_,_,_,rfl,G,hi,hj,by lia⟩⟩
  .rintro c st' ⟨⟨g,rfl⟩,⟨m,hc,hm⟩|⟨o,i',j',p,q,rfl,G,hi,hj,hq⟩⟩
   .obtain⟨c0,c1⟩:=c
    cases hc;exact Bp ⟨⟨g,rfl⟩,m,rfl,hm⟩
   dsimp only;refine Bb (Rh (Go ⟨rfl,?_⟩));refine Bb (Ht (Fl (I:=λy c st'=>(∃ g,st'=v9 st g)/\∃ o i' j' p q t,c=(none,o,i',j',p,q,t)/\GL r a b o i' j'/\i'+1<a.size/\j'<b.size/\x+1<i'+j')
    (Q:=λc st'=>(∃ g,st'=v9 st g)/\((∃ m,c.1=Ab m/\Mo r (a.toList++b.toList) m)\/∃ o i' j' p q t,c=(none,o,i',j',p,q,t)/\GL r a b o i' j'/\i'+1<a.size/\j'<b.size/\x+1<i'+j')) ?_ ?_ ⟨⟨g,rfl⟩,o,i',j',_,_,_,rfl,G,hi,hj,hq⟩) ?_)
   .rintro y c st' _ hy ⟨⟨g,rfl⟩,o,i,j,p,q,t,rfl,G,hi,hj,hq⟩
    dsimp only;generalize p-1=p1;apply i0 (x:=p1) (y:=p);intro mg;have hi0:i<a.size:=Sd hi;refine Bb (Jo ?_);refine Bb (zE hj ?_);refine Bb (YY C hk (Se hi0) (Yc (Wv (Fi hi0))) (λi' hi'=>ua _ (zQ (Lw hi'))) (ub _ (zQ hj)) (λi' j' h1 h2=>wY sa (Iy h1 _) (Lw h2)) λk k1 k2 k3=>?_);dsimp only;have G2:=G.ea sb hj k2;have k4:i+k<=a.size:=Vg (Fi hi0) k1;have k5:i+k<a.size->r (b.getD j nv)<r (a.getD (i+k) nv):=λh=>k3 k (Av _) (Vx (by rw[Ts];exact h))
    have k6:x+1<i+k+j:=Bh hq (Vy (HT _ _) _);have k7:k=0->i=i+k:=λh=>by rw[h];rfl
    generalize i+k=i1 at G2 k4 k5 k6 k7 ⊢;generalize o++a.extract i i1=o1 at G2 ⊢;apply WD (x:=o1) (w:=i1) (y:=o) (v:=i) (P:=λout ia=>GL r a b out ia j/\ia+1<a.size/\x+1<ia+j/\r (b.getD j nv)<r (a.getD ia nv))
    case h1=>exact λ_ e=>Bp ⟨⟨_,rfl⟩,.inl ⟨_,rfl,G2.last (by simpa using e) h1⟩⟩
    case h1'=>exact λ_ _ e=>Bp ⟨⟨_,rfl⟩,.inl ⟨_,rfl,G2.fin (.inl (by simpa using e))⟩⟩
    case h2 =>
     intro _ e3 e4;have e3:¬ i1+1=a.size:=by simpa using e3
     have e4:¬ i1=a.size:=by simpa using e4
     have e5:i1<a.size:=Ie k4 e4;exact⟨G2,Ie e5 e3,k6,k5 e5⟩
    case h3 =>
     intro e;have e:=k7 (Lj e);exact⟨G,hi,hq,by rw[e];exact k5 (by rw[<- e];exact hi0)⟩
    case hK =>
     rintro out ia ⟨G2,hl,hq,hc⟩;have ha0:ia<a.size:=Sd hl;refine Bb (zE hj ?_);have G3:=G2.pb sa hj λ_=>Hw hc;refine qO (λe=>Bp ⟨⟨_,rfl⟩,.inl ⟨_,rfl,G3.fin (.inr (by simpa using e))⟩⟩) λe5=>?_
     have e5:¬ j+1=b.size:=by simpa using e5
     have hj1:j+1<b.size:=Ie hj e5;refine Bb (zE ha0 ?_);refine Bb (YZ C hk (Se hj1) (Yc (Wv hj)) (λi hi=>ub _ (zQ (Lw hi))) (ua _ (zQ ha0)) (λi j h1 h2=>wY sb (Iy h1 _) (Lw h2)) λm m1 m2 m3=>?_);dsimp only;have G4:=G3.eb sa ha0 λi hi=>Hw (m2 i hi);have m4:j+1+m<=b.size:=Vg hj m1;have m5:j+1+m<b.size->r (a.getD ia nv)<=r (b.getD (j+1+m) nv):=λh=>m3 m (Av _) (Vx (by rw[Ts];exact h))
     have m6:j+1<=j+1+m:=HT _ _;have m7:m=0->j+1=j+1+m:=λh=>by rw[h]
     generalize j+1+m=j1 at G4 m4 m5 m6 m7 ⊢;generalize out.push (b.getD j nv)++b.extract (j+1) j1=o2 at G4 ⊢;apply WC (x:=o2) (w:=j1) (y:=out.push (b.getD j nv)) (v:=j+1) (P:=λout ib=>GL r a b out ia ib/\ib<b.size/\j+1<=ib/\r (a.getD ia nv)<=r (b.getD ib nv))
     case h1=>exact λ_ e=>Bp ⟨⟨_,rfl⟩,.inl ⟨_,rfl,G4.fin (.inr (by simpa using e))⟩⟩
     case h2 =>
      intro _ e6;have e6:¬ j1=b.size:=by simpa using e6
      have e7:=Ie m4 e6;exact⟨G4,e7,m6,m5 e7⟩
     case h3 =>
      intro e;have e:=m7 (Lj e);exact⟨G3,hj1,Av _,by rw[e];exact m5 (by rw[<- e];exact hj1)⟩
     case hK =>
      rintro out ib ⟨G4,hb1,hb2,hc4⟩;refine Bb (zE ha0 ?_);have G5:=G4.pa sb ha0 λ_=>hc4;refine qO (λe=>Bp ⟨⟨_,rfl⟩,.inl ⟨_,rfl,G5.last (by simpa using e) h1⟩⟩) λe7=>?_
      have e7:¬ ia+1+1=a.size:=by simpa using e7
      have e8:ia+1+1<a.size:=Ie hl e7;have e9:x+1<ia+1+ib:=Bh hq (Aa7 (Mu _) (Nat.le_of_succ_le hb2));exact qO (λ_=>Bp ⟨⟨_,rfl⟩,.inr ⟨_,_,_,_,_,_,rfl,G5,e8,hb1,e9⟩⟩) λ_=>Bp ⟨⟨_,rfl⟩,_,_,_,_,_,_,rfl,G5,e8,hb1,e9⟩
   .rintro c st' ⟨z,o,i',j',p,q,t,rfl,G,hi,hj,hq⟩
    exact⟨z,.inr ⟨_,_,_,_,_,_,rfl,G,hi,hj,by lia⟩⟩
   .rintro c st' ⟨⟨g,rfl⟩,⟨m,hc,hm⟩|⟨o,i',j',p,q,t,rfl,G,hi,hj,hq⟩⟩
    .obtain⟨c0,c1⟩:=c
     cases hc;exact Bp ⟨⟨g,rfl⟩,m,rfl,hm⟩
    dsimp only;refine Bb (Jo ?_);exact Bp ⟨⟨_,rfl⟩,_,_,_,_,rfl,G,hi,hj,by lia⟩
 .rintro c st' ⟨z,o,i',j',p,rfl,G,hi,hj,hq⟩
  exfalso
  lia
 .rintro c st' ⟨⟨g,rfl⟩,m,hc,hm⟩
  obtain⟨c0,c1⟩:=c;cases hc;exact Bp (h m g hm)
end
theorem nZ {a:Ax Bs}(h:0<n)(hn:n<=a.size):a.toList.take n=a.toList.take (n-1)++[a.getD (n-1) nv]:=by
 obtain⟨m,rfl⟩:∃ m,n=m+1:=⟨n-1,by lia⟩
 rw[Nat.add_sub_cancel,List.take_add_one];have hm:m<a.size:=by lia
 simp[Gs,hm]
theorem rC {a:Ax Bs}{i:Ai}(h:i<=n):a.toList.take i++(a.extract i n).toList=a.toList.take n:=by
 rw[Kb,Ia]
 conv=>rhs;rw[show n=i+(n-i) by lia,List.take_add]
theorem gC {a:Ax Bs}:(a.extract 0 n).toList=a.toList.take n:=by
 rw[Kb,Ia];simp
theorem gQ {a:Ax Bs}{i:Ai}{x:Bs}(hn:i<=n)(h:x∈(a.extract i n).toList):∃ j,i<=j/\j<n/\j<a.size/\x=a.getD j nv:=by
 obtain⟨k,rfl⟩:∃ k,n=i+k:=⟨n-i,by lia⟩
 exact nF h
def GH (r:Bs->An)(a b o:Ax Bs)(i j:Ai):Prop:=Mh r (a.toList.take i) (b.toList.take j) o.toList.reverse (a.toList++b.toList)
section
variable {r:Bs->An}{a b o:Ax Bs}{i j k:Ai}
theorem GH.pa (sb:b.toList.Pairwise (Le r))(h:GH r a b o i j)(h1:0<i)(h2:i<=a.size)(hj:j<=b.size)(l:0<j->r (b.getD (j-1) nv)<=r (a.getD (i-1) nv)):GH r a b (o.push (a.getD (i-1) nv)) (i-1) j:=by
 have h':Mh r (a.toList.take (i-1)++[a.getD (i-1) nv]) (b.toList.take j) o.toList.reverse (a.toList++b.toList):=by rw[<- nZ h1 h2];exact h
 have:=h'.a λx hx y hy=>by
  cases Ci.mp hy;obtain⟨m,q1,q2,rfl⟩:=gR hx;exact Fu (wY sb (by lia) (by lia)) (l (by lia))
 unfold GH;rw[En,Mp];exact this
theorem GH.pb (sa:a.toList.Pairwise (Le r))(h:GH r a b o i j)(h1:0<j)(h2:j<=b.size)(hi:i<=a.size)(l:0<i->r (a.getD (i-1) nv)<=r (b.getD (j-1) nv)):GH r a b (o.push (b.getD (j-1) nv)) i (j-1):=by
 have h':Mh r (a.toList.take i) (b.toList.take (j-1)++[b.getD (j-1) nv]) o.toList.reverse (a.toList++b.toList):=by rw[<- nZ h1 h2];exact h
 have:=h'.b λx hx y hy=>by
  cases Ci.mp hy;obtain⟨m,q1,q2,rfl⟩:=gR hx;exact Fu (wY sa (by lia) (by lia)) (l (by lia))
 unfold GH;rw[En,Mp];exact this
theorem GH.ea (sb:b.toList.Pairwise (Le r))(h:GH r a b o i j)(hk:k<=i)(hj:j<=b.size)(l:0<j->∀ m,k<=m->m<i->m<a.size->r (b.getD (j-1) nv)<=r (a.getD m nv)):GH r a b (o++(a.extract k i).reverse) k j:=by
 have h':Mh r (a.toList.take k++(a.extract k i).toList) (b.toList.take j) o.toList.reverse (a.toList++b.toList):=by rw[rC hk];exact h
 have:=h'.a λx hx y hy=>by
  obtain⟨m,q1,q2,rfl⟩:=gR hx;obtain⟨m',q3,q4,q5,rfl⟩:=gQ hk hy;exact Fu (wY sb (by lia) (by lia)) (l (by lia) m' q3 q4 q5)
 unfold GH;rw[Ec,Mc,Mp,Vz];exact this
theorem GH.eb (sa:a.toList.Pairwise (Le r))(h:GH r a b o i j)(hk:k<=j)(hi:i<=a.size)(l:0<i->∀ m,k<=m->m<j->m<b.size->r (a.getD (i-1) nv)<=r (b.getD m nv)):GH r a b (o++(b.extract k j).reverse) i k:=by
 have h':Mh r (a.toList.take i) (b.toList.take k++(b.extract k j).toList) o.toList.reverse (a.toList++b.toList):=by rw[rC hk];exact h
 have:=h'.b λx hx y hy=>by
  obtain⟨m,q1,q2,rfl⟩:=gR hx;obtain⟨m',q3,q4,q5,rfl⟩:=gQ hk hy;exact Fu (wY sa (by lia) (by lia)) (l (by lia) m' q3 q4 q5)
 unfold GH;rw[Ec,Mc,Mp,Vz];exact this
theorem GH.fin (h:GH r a b o i j)(e:i=0\/j=0):Mo r (a.toList++b.toList) (a.extract 0 i++b.extract 0 j++o.reverse):=by
 refine⟨?_,?_⟩ <;> rw[Ec,Ec,gC,gC,Mc]
 .exact h.pm
 .rcases e with rfl|rfl
  .rw[Aa8,Jt];exact h.p2
  .rw[Aa8,Fq];exact h.p1
theorem GH.first (h:GH r a b o i j)(e:j=1)(hb:0<b.size)(l:∀ x∈a.toList,Le r (b.getD 0 nv) x):Mo r (a.toList++b.toList) (b.extract 0 j++a.extract 0 i++o.reverse):=by
 subst e;have hd:b.toList.take 1=[b.getD 0 nv]:=by rw[nZ (by lia) (by lia)];rfl
 refine⟨?_,?_⟩ <;> rw[Ec,Ec,gC,gC,Mc]
 .refine Pr ?_ h.pm
  exact Lg _ Jl
 .have p2:=h.p2
  rw[hd] at p2 ⊢;rw[Ch];rw[Dn] at p2 ⊢;refine⟨p2.1,h.p1,λx hx y hy=>?_⟩;rcases Bz.mp hy with hy|hy
  .cases Ci.mp hx
   exact l y (Ph hy)
  .exact p2.2.2 x hx y hy
end
section
variable {prog:Bg}{w:Ca}{A:Bt}{E:Ac->Ag->Prop}{s:Ag}{κ : Mz}{U:Bs->Prop}{r:Bs->An}
theorem c6 (C:Cm (As prog w) A s κ U r){a b:Ax Bs}{Q:Ax Bs->Gc->Prop}{st:Gc}(hk:kindOf st=κ)(ua:∀ x∈a.toList,U x)(ub:∀ x∈b.toList,U x)(sa:a.toList.Pairwise (Le r))(sb:b.toList.Pairwise (Le r))
  (h:∀ m g,Mo r (a.toList++b.toList) m->Q m (v9 st g)) (ha:0<a.size) (hb:0<b.size) (h0:∀ x∈a.toList,Le r (b.getD 0 nv) x) (h1:r (b.getD (b.size-1) nv)<=r (a.getD (a.size-1) nv)):wpS (As prog w) A E s (VI a b) Q st:=by
 have G0:GH r a b #[] a.size b.size:=by
  unfold GH;rw[Gn (by simp),Gn (by simp)]
  exact⟨by simpa using sa,by simpa using sb,by simp⟩
 have G1:=G0.pa sb ha (Av _) (Av _) λ_=>h1;refine Bb (Rh (Go ⟨rfl,?_⟩));refine Bb (zE (i:=a.size-1) (by lia) ?_)
 dsimp only;refine qO (λe=>Bp (h _ (Ul st) (G1.fin (.inl (by simpa using e))))) λe1=>?_
 refine qO (λe=>Bp (h _ (Ul st) (G1.first (by simpa using e) hb h0))) λe2=>?_
 have e1:¬ a.size-1=0:=by simpa using e1
 have e2:¬ b.size=1:=by simpa using e2
 refine Bb (Nn ?_);refine Bb (Ht (Fl (I:=λx c st'=>(∃ g,st'=v9 st g)/\∃ o i j g,c=(none,i,j,o,g)/\GH r a b o i j/\0<i/\i<=a.size/\1<j/\j<=b.size/\x+i+j<a.size+b.size)
  (Q:=λc st'=>(∃ g,st'=v9 st g)/\∃ m,c.1=Ab m/\Mo r (a.toList++b.toList) m) ?_ ?_ ⟨⟨Ul st,rfl⟩,_,a.size-1,b.size,_,rfl,G1,by lia,by lia,by lia,by lia,by lia⟩) ?_)
 .rintro x c st' _ hx ⟨⟨g,rfl⟩,o,i,j,mg,rfl,G,hi,hi2,hj,hj2,hp⟩
  dsimp only;refine Bb (Ht (Fl (I:=λy c st'=>(∃ g,st'=v9 st g)/\∃ o i' j' p q,c=(none,i',j',o,p,q)/\GH r a b o i' j'/\0<i'/\i'<=a.size/\1<j'/\j'<=b.size/\i'+j'+y<=i+j)
   (Q:=λc st'=>(∃ g,st'=v9 st g)/\((∃ m,c.1=Ab m/\Mo r (a.toList++b.toList) m)\/∃ o i' j' p q,c=(none,i',j',o,p,q)/\GH r a b o i' j'/\0<i'/\i'<=a.size/\1<j'/\j'<=b.size/\x+1+i'+j'<a.size+b.size)) ?_ ?_ ⟨⟨g,rfl⟩,o,i,j,0,0,rfl,G,hi,hi2,hj,hj2,by lia⟩) ?_)
  .rintro y c st' _ hy ⟨⟨g,rfl⟩,o,i',j',p,q,rfl,G,hi,hi2,hj,hj2,hq⟩
   dsimp only;refine Bb (zE (i:=j'-1) (by lia) (Bb (zE (i:=i'-1) (by lia) (Bb (C.lt (ub _ (zQ (i:=j'-1) (by lia))) (ua _ (zQ (i:=i'-1) (by lia))) hk ?_)))))
   dsimp only;refine qO (λl=>?_) λl=>?_
   .have l:r (b.getD (j'-1) nv)<r (a.getD (i'-1) nv):=by simpa using l
    have G2:=G.pa sb hi hi2 hj2 λ_=>Hw l;refine Bb (zE (i:=i'-1) (by lia) ?_)
    refine qO (λe=>Bp ⟨⟨g,rfl⟩,.inl ⟨_,rfl,G2.fin (.inl (by simpa using e))⟩⟩) λe=>?_
    have e:¬ i'-1=0:=by simpa using e
    exact qO (λ_=>Bp ⟨⟨g,rfl⟩,.inr ⟨_,_,_,_,_,rfl,G2,by lia,by lia,hj,hj2,by lia⟩⟩) λ_=>Bp ⟨⟨g,rfl⟩,_,_,_,_,_,rfl,G2,by lia,by lia,hj,hj2,by lia⟩
   .have l:¬ r (b.getD (j'-1) nv)<r (a.getD (i'-1) nv):=by simpa using l
    have G2:=G.pb sa (by lia) hj2 hi2 λ_=>Wu.mp l
    refine Bb (zE (i:=j'-1) (by lia) ?_)
    refine qO (λe=>Bp ⟨⟨g,rfl⟩,.inl ⟨_,rfl,G2.first (by simpa using e) hb h0⟩⟩) λe=>?_
    have e:¬ j'-1=1:=by simpa using e
    exact qO (λ_=>Bp ⟨⟨g,rfl⟩,.inr ⟨_,_,_,_,_,rfl,G2,hi,hi2,by lia,by lia,by lia⟩⟩) λ_=>Bp ⟨⟨g,rfl⟩,_,_,_,_,_,rfl,G2,hi,hi2,by lia,by lia,by lia⟩
  .rintro c st' ⟨z,o,i',j',p,q,rfl,G,hi,hi2,hj,hj2,hq⟩
   exact⟨z,.inr ⟨_,_,_,_,_,rfl,G,hi,hi2,hj,hj2,by lia⟩⟩
  .rintro c st' ⟨⟨g,rfl⟩,⟨m,hc,hm⟩|⟨o,i',j',p,q,rfl,G,hi,hi2,hj,hj2,hq⟩⟩
   .obtain⟨c0,c1⟩:=c
    cases hc;exact Bp ⟨⟨g,rfl⟩,m,rfl,hm⟩
   dsimp only;refine Bb (Rh (Go ⟨rfl,?_⟩));refine Bb (Ht (Fl (I:=λy c st'=>(∃ g,st'=v9 st g)/\∃ o i' j' p q t,c=(none,i',j',o,p,q,t)/\GH r a b o i' j'/\0<i'/\i'<=a.size/\1<j'/\j'<=b.size/\x+1+i'+j'<a.size+b.size)
    (Q:=λc st'=>(∃ g,st'=v9 st g)/\((∃ m,c.1=Ab m/\Mo r (a.toList++b.toList) m)\/∃ o i' j' p q t,c=(none,i',j',o,p,q,t)/\GH r a b o i' j'/\0<i'/\i'<=a.size/\1<j'/\j'<=b.size/\x+1+i'+j'<a.size+b.size)) ?_ ?_ ⟨⟨g,rfl⟩,o,i',j',_,_,_,rfl,G,hi,hi2,hj,hj2,hq⟩) ?_)
   .rintro y c st' _ hy ⟨⟨g,rfl⟩,o,i,j,p,q,t,rfl,G,hi,hi2,hj,hj2,hq⟩
    dsimp only;generalize p-1=p1;apply i0 (x:=p1) (y:=p);intro mg;refine Bb (Jo ?_);have j0:0<j:=Sd hj;have jb:j-1<b.size:=Bh (Mq j0 Lx) hj2;refine Bb (zE jb ?_);refine Bb (YY C hk (Mq hi Lx) (by rw[Hg];exact hi2) (λi' hi'=>ua _ (zQ (by rw[Hg];exact Bh hi' hi2))) (ub _ (zQ jb)) (λi' j' h1 h2=>wY sa (Iy h1 0) (by rw[Hg];exact Bh h2 hi2)) λk k1 k2 k3=>?_)
    simp only[Hg] at k2 k3;dsimp only;have G2:=G.ea sb k1 hj2 λ_ m q1 q2 _=>Hw (k3 m q1 q2);have kc:i-k=0->k=i:=λh=>Lh k1 (Vh h);generalize i-k=ac at kc ⊢;generalize o++(a.extract k i).reverse=o1 at G2 ⊢;apply WC (x:=k) (w:=o1) (y:=i) (v:=o) (P:=λna out=>GH r a b out na j/\0<na/\na<=a.size/\x+1+na+j<a.size+b.size/\r (a.getD (na-1) nv)<=r (b.getD (j-1) nv))
    case h1=>exact λ_ e=>Bp ⟨⟨_,rfl⟩,.inl ⟨_,rfl,G2.fin (.inl (by simpa using e))⟩⟩
    case hK =>
     rintro na out ⟨G2,hl,hl2,hq,hc⟩;have na1:na-1<a.size:=Bh (Mq hl Lx) hl2;refine Bb (zE jb ?_);have G3:=G2.pb sa j0 hj2 hl2 λ_=>hc;refine qO (λe=>Bp ⟨⟨_,rfl⟩,.inl ⟨_,rfl,G3.first (by simpa using e) hb h0⟩⟩) λe5=>?_
     have e5:¬ j-1=1:=by simpa using e5
     have j1:0<j-1:=Se hj;refine Bb (zE na1 ?_);refine Bb (YZ C hk (Mq j1 Lx) (by rw[Hg];exact Fi jb) (λi hi=>ub _ (zQ (by rw[Hg];exact Io hi jb))) (ua _ (zQ na1)) (λi j h1 h2=>wY sb (Iy h1 0) (by rw[Hg];exact Io h2 jb)) λm m1 m2 m3=>?_)
     simp only[Hg] at m2 m3;dsimp only;have G4:=G3.eb sa m1 hl2 λ_ m q1 q2 _=>m3 m q1 q2;have mc:j-1-m=0->m=j-1:=λh=>Lh m1 (Vh h);generalize j-1-m=bc at mc ⊢;generalize out.push (b.getD (j-1) nv)++(b.extract m (j-1)).reverse=o2 at G4 ⊢;apply WD (x:=m) (w:=o2) (y:=j-1) (v:=out.push (b.getD (j-1) nv)) (P:=λnb out=>GH r a b out na nb/\1<nb/\nb<=j-1/\r (b.getD (nb-1) nv)<=r (a.getD (na-1) nv))
     case h1=>exact λ_ e=>Bp ⟨⟨_,rfl⟩,.inl ⟨_,rfl,G4.first (by simpa using e) hb h0⟩⟩
     case h1'=>exact λ_ _ e=>Bp ⟨⟨_,rfl⟩,.inl ⟨_,rfl,G4.fin (.inr (by simpa using e))⟩⟩
     case hK =>
      rintro nb out ⟨G4,h4,h5,hc4⟩;have h6:nb<=b.size:=Df h5 (Fi jb);have hq2:x+1+(na-1)+nb<a.size+b.size:=Nh (Aa7 (Iy (Nat.sub_le _ _) _) (Df h5 (Nat.sub_le _ _))) hq;refine Bb (zE na1 ?_);have G5:=G4.pa sb hl hl2 h6 λ_=>hc4;refine qO (λe=>Bp ⟨⟨_,rfl⟩,.inl ⟨_,rfl,G5.fin (.inl (by simpa using e))⟩⟩) λe7=>?_
      have e7:0<na-1:=Jg (by simpa using e7)
      exact qO (λ_=>Bp ⟨⟨_,rfl⟩,.inr ⟨_,_,_,_,_,_,rfl,G5,e7,Fi na1,h4,h6,hq2⟩⟩) λ_=>Bp ⟨⟨_,rfl⟩,_,_,_,_,_,_,rfl,G5,e7,Fi na1,h4,h6,hq2⟩
     case h2 =>
      intro _ e6 e7;have e6:¬ m=1:=by simpa using e6
      have e7:¬ m=0:=by simpa using e7
      exact⟨G4,Ie (Jg e7) (Fb e6),m1,Hw (m2 (m-1) (Mq (Jg e7) Lx))⟩
     case h3 =>
      intro e;cases mc (Lj e);exact⟨G3,Ie j1 (Fb e5),Av _,Hw (m2 (j-1-1) (Mq j1 Lx))⟩
    case h2 =>
     intro _ e;have e3:0<k:=Jg (by simpa using e)
     exact⟨G2,e3,Df k1 hi2,Nh (Vy (Iy k1 _) _) hq,k2 (k-1) (Mq e3 Lx)⟩
    case h3 =>
     intro e;have e:=kc (Lj e);exact⟨G,hi,hi2,hq,k2 (i-1) (by rw[e];exact Mq hi Lx)⟩
   .rintro c st' ⟨z,o,i',j',p,q,t,rfl,G,hi,hi2,hj,hj2,hq⟩
    exact⟨z,.inr ⟨_,_,_,_,_,_,rfl,G,hi,hi2,hj,hj2,by lia⟩⟩
   .rintro c st' ⟨⟨g,rfl⟩,⟨m,hc,hm⟩|⟨o,i',j',p,q,t,rfl,G,hi,hi2,hj,hj2,hq⟩⟩
    .obtain⟨c0,c1⟩:=c
     cases hc;exact Bp ⟨⟨g,rfl⟩,m,rfl,hm⟩
    dsimp only;refine Bb (Jo ?_);exact Bp ⟨⟨_,rfl⟩,_,_,_,_,rfl,G,hi,hi2,hj,hj2,by lia⟩
 .rintro c st' ⟨z,o,i',j',p,rfl,G,hi,hi2,hj,hj2,hq⟩
  exfalso
  lia
 .rintro c st' ⟨⟨g,rfl⟩,m,hc,hm⟩
  obtain⟨c0,c1⟩:=c;cases hc;exact Bp (h m g hm)
end
theorem Q6:∀ (l:Aa Bs) (arr:Ax Bs) (o d:Ai),o+d+l.length<=arr.size->∀ k,((l.zipIdx d).foldl (λa p=>a.setIfInBounds (o+p.2) p.1) arr)[k]? = if o+d<=k/\k<o+d+l.length then l[k-(o+d)]? else arr[k]?
 |[],arr,o,d,h,k=>by
  rw[Bf (by simp only[Cd];lia)];rfl
 |x::l,arr,o,d,h,k=>by
  rw[AT] at h;rw[Ta,Mw,Q6 l _ o (d+1) (by rw[Array.size_setIfInBounds];lia) k,AT]
  by_cases h1:k=o+d
  .subst h1
   rw[Bf (by lia),Bd (by lia),Yd,Array.getElem?_setIfInBounds_self_of_lt (by lia)]
   rfl
  .by_cases h2:o+(d+1)<=k/\k<o+(d+1)+l.length
   .rw[Bd h2,Bd (by lia),show k-(o+d)=(k-(o+(d+1)))+1 by lia,Tq]
   .rw[Bf h2,Bf (by lia),Array.getElem?_setIfInBounds_ne (by lia)]
noncomputable def wb (arr:Ax Bs)(o:Ai)(m:Ax Bs):Ax Bs:=m.toList.zipIdx.foldl (λa p=>a.setIfInBounds (o+p.2) p.1) arr
theorem FM {o:Ai}(h:o+m.size<=arr.size)(k:Ai):(wb arr o m).getD k nv=if o<=k/\k<o+m.size then m.getD (k-o) nv else arr.getD k nv:=by
 have e:=Q6 m.toList arr o 0 (by simpa using h) k
 simp only[Ye,Bm,Bn] at e;rw[Ff,Ff,Ff];unfold wb;rw[e]
 split <;> rfl
theorem FN {o:Ai}(h:o+m.size<=arr.size):(wb arr o m).toList=arr.toList.take o++(m.toList++arr.toList.drop (o+m.size)):=by
 apply Yz;intro k;have e:=Q6 m.toList arr o 0 (by simpa using h) k
 simp only[Ye,Bm,Bn] at e;unfold wb;rw[Bn,e];have lt:(arr.toList.take o).length=o:=by rw[Eu,Bm];lia
 by_cases h1:k<o
 .rw[Bf (by lia),Bl (by lia),Nc h1,Bn]
 .rw[Dg (by lia),lt]
  by_cases h2:k<o+m.size
  .rw[Bd (by lia),Bl (by rw[Bm];lia),Bn]
  .rw[Bf (by lia),Dg (by rw[Bm];lia),Xn,Bm,Bn]
   congr 1
   lia
theorem FO {o:Ai}(h:o+n<=arr.size)(p:m.toList.Perm (arr.extract o (o+n)).toList):(wb arr o m).toList.Perm arr.toList:=by
 have hm:m.size=n:=by
  have:=p.length_eq;rw[Bm,Bm,Jh] at this
  lia
 rw[FN (by lia),hm]
 have e:arr.toList=arr.toList.take o++((arr.extract o (o+n)).toList++arr.toList.drop (o+n)):=by rw[fP,Ox]
 conv=>rhs;rw[e]
 exact Jk _ (Lg _ p)
def Seg (r:Bs->An)(a:Ax Bs)(lo n:Ai):Prop:=∀ i j,lo<=i->i<=j->j<lo+n->r (a.getD i nv)<=r (a.getD j nv)
theorem aQ {r:Bs->An}{a:Ax Bs}(h:Seg r a lo n){i k:Ai}(h1:lo<=i)(h2:i+k<=lo+n)(h3:i+k<=a.size):(a.extract i (i+k)).toList.Pairwise (Le r):=by
 rw[Jx];intro x y hx hy l;have hx':x<k:=by rw[Bm,Jh] at hx;lia
 have hy':y<k:=by rw[Bm,Jh] at hy;lia
 have e:=h (i+x) (i+y) (by lia) (by lia) (by lia)
 have q1:i+x<a.size:=by lia
 have q2:i+y<a.size:=by lia
 simpa [Gs,q1,q2,Le] using e
theorem rB {a:Ax Bs}{i k m:Ai}(h:m<k)(h3:i+k<=a.size):(a.extract i (i+k)).getD m nv=a.getD (i+m) nv:=by
 have q1:i+m<a.size:=by lia
 have q2:m<(a.extract i (i+k)).size:=by rw[Jh];lia
 have q3:m<min (i+k) a.size-i:=by lia
 simp[Gs,q1,q3]
theorem YO {a:Ax Bs}{i j k:Ai}(h1:i<=j)(h2:j<=k):(a.extract i j).toList++(a.extract j k).toList=(a.extract i k).toList:=by
 rw[<- Ec,Array.extract_append_extract]
 congr 2 <;> lia
section
variable {prog:Bg}{w:Ca}{A:Bt}{E:Ac->Ag->Prop}{s:Ag}{κ : Mz}{U:Bs->Prop}{r:Bs->An}
theorem FP {M:Pj}{σ:Type}{Q:PUnit->σ->Prop}{st st':σ}(h:Q ⟨⟩ st'):wpS M A E s (set st':Ov σ Ln PUnit) Q st:=by
 unfold wpS;rw[StateT.run_set];exact Am ⟨rfl,h⟩
theorem c5 (C:Cm (As prog w) A s κ U r){i sa na pw nb pz:Ai}{Q:Ar->Gc->Prop}{arr:Ax Bs}{pd:Ax (Ai × Ai × Ai)}{g:Ai}(ua:∀ x∈arr.toList,U x)(e1:pd[i]? = Ab (sa,na,pw))(e2:pd[i+1]? = Ab (sa+na,nb,pz))(p1:0<na)(p2:0<nb)(hz:sa+na+nb<=arr.size)
  (s1:Seg r arr sa na) (s2:Seg r arr (sa+na) nb)
  (h:∀ arr' g,arr'.toList.Perm arr.toList->(∀ k,k<sa\/sa+na+nb<=k->arr'.getD k nv=arr.getD k nv)->Seg r arr' sa (na+nb)->Q true (Dk κ arr' ((pd.setIfInBounds i (sa,na+nb,pw)).eraseIdxIfInBounds (i+1)) g none)) :
  wpS (As prog w) A E s (mergeAt' i) Q (Dk κ arr pd g none):=by
 refine Bb (Nn ?_);dsimp only;rw[e1,e2];dsimp only;refine Bb (FP ?_);refine Bb (zE (i:=sa+na) (by omega) ?_)
 refine Bb (YY C rfl (by omega) (by omega) (λi hi=>ua _ (zQ (by omega))) (ua _ (zQ (by omega))) (λi j a b=>s1 _ _ (by omega) (by omega) (by omega)) λk k1 k2 k3=>?_)
 dsimp only;refine qO (λe=>Bp (h arr g (Nt _) (λ_ _=>rfl) λi j a b c=>?_)) λe=>?_
 .have e:na-k=0:=by simpa using e
  by_cases q1:j<sa+na
  .exact s1 i j a b q1
  .by_cases q2:sa+na<=i
   .exact s2 i j q2 b (by omega)
   .have:=k2 (i-sa) (by omega)
    rw[show sa+(i-sa)=i by omega] at this
    exact Fu this (s2 _ _ (Av _) (by omega) (by omega))
 have e:¬ na-k=0:=by simpa using e
 refine Bb (zE (i:=sa+k+(na-k)-1) (by omega) ?_)
 refine Bb (YZ C rfl (by omega) (by omega) (λi hi=>ua _ (zQ (by omega))) (ua _ (zQ (by omega))) (λi j a b=>s2 _ _ (by omega) (by omega) (by omega)) λm m1 m2 m3=>?_)
 dsimp only;rw[show sa+k+(na-k)-1=sa+na-1 by omega] at m2 m3
 have hk3:=k3 k (Av _) (by omega)
 refine qO (λe=>?_) λe'=>?_
 .exfalso
  have e:m=0:=by simpa using e
  subst e;have q1:=m3 0 (Av _) p2;have q2:=s1 (sa+k) (sa+na-1) (by omega) (by omega) (by omega)
  rw[Ye] at q1;omega
 have e':¬ m=0:=by simpa using e'
 have ex:arr.extract (sa+k) (sa+na)=arr.extract (sa+k) (sa+k+(na-k)):=by rw[show sa+k+(na-k)=sa+na by omega]
 have zx:(arr.extract (sa+k) (sa+na)).size=na-k:=by rw[Jh];omega
 have zy:(arr.extract (sa+na) (sa+na+m)).size=m:=by rw[Jh];omega
 have gx:∀ i,i<na-k->(arr.extract (sa+k) (sa+na)).getD i nv=arr.getD (sa+k+i) nv:=λi hi=>by rw[ex];exact rB hi (by omega)
 have gy:∀ i,i<m->(arr.extract (sa+na) (sa+na+m)).getD i nv=arr.getD (sa+na+i) nv:=λi hi=>rB hi (by omega)
 have px:(arr.extract (sa+k) (sa+na)).toList.Pairwise (Le r):=by rw[ex];exact aQ s1 (by omega) (by omega) (by omega)
 have py:(arr.extract (sa+na) (sa+na+m)).toList.Pairwise (Le r):=aQ s2 (by omega) (by omega) (by omega)
 have mx:∀ x∈(arr.extract (sa+k) (sa+na)).toList,∃ j,sa+k<=j/\j<sa+na/\x=arr.getD j nv:=λx hx=>by
  obtain⟨j,q1,q2,q3,q4⟩:=gQ (by omega) hx
  exact⟨j,q1,q2,q4⟩
 have my:∀ x∈(arr.extract (sa+na) (sa+na+m)).toList,∃ j,sa+na<=j/\j<sa+na+m/\x=arr.getD j nv:=λx hx=>by
  obtain⟨j,q1,q2,q3,q4⟩:=gQ (by omega) hx
  exact⟨j,q1,q2,q4⟩
 have lox:∀ x∈(arr.extract (sa+k) (sa+na)).toList,r (arr.getD (sa+na) nv)<=r x/\r x<=r (arr.getD (sa+na-1) nv):=λx hx=>by
  obtain⟨j,q1,q2,rfl⟩:=mx x hx;have:=s1 (sa+k) j (by omega) q1 q2
  exact⟨by omega,s1 j _ (by omega) (by omega) (by omega)⟩
 have loy:∀ x∈(arr.extract (sa+na) (sa+na+m)).toList,r (arr.getD (sa+na) nv)<=r x/\r x<=r (arr.getD (sa+na-1) nv):=λx hx=>by
  obtain⟨j,q1,q2,rfl⟩:=my x hx;have:=m2 (j-(sa+na)) (by omega)
  rw[show sa+na+(j-(sa+na))=j by omega] at this
  exact⟨s2 _ _ (Av _) q1 (by omega),by omega⟩
 have fin:∀ mg g',Mo r ((arr.extract (sa+k) (sa+na)).toList++(arr.extract (sa+na) (sa+na+m)).toList) mg->Q true (Dk κ (wb arr (sa+k) mg) ((pd.setIfInBounds i (sa,na+nb,pw)).eraseIdxIfInBounds (i+1)) g' none):=by
  intro mg g' M;have ej:(arr.extract (sa+k) (sa+na)).toList++(arr.extract (sa+na) (sa+na+m)).toList=(arr.extract (sa+k) (sa+k+(na-k+m))).toList:=by
   rw[YO (by omega) (by omega),show sa+k+(na-k+m)=sa+na+m by omega]
  have hm:mg.size=na-k+m:=by
   have:=M.pm.length_eq;rw[Aw,Bm,Bm,Bm,zx,zy] at this;exact this
  have gd:=λj=>FM (arr:=arr) (m:=mg) (o:=sa+k) (by omega) j
  refine h _ g' (FO (n:=na-k+m) (by omega) (ej▸M.pm)) (λj hj=>?_) λi j a b c=>?_
  .rw[gd,Bf (by omega)]
  .have bd:∀ j,sa+k<=j->j<sa+na+m->r (arr.getD (sa+na) nv)<=r (mg.getD (j-(sa+k)) nv)/\r (mg.getD (j-(sa+k)) nv)<=r (arr.getD (sa+na-1) nv):=λj h1 h2=>by
    have:=M.pm.mem_iff.mp (zQ (a:=mg) (i:=j-(sa+k)) (by omega))
    rcases Bz.mp this with q|q
    .exact lox _ q
    .exact loy _ q
   rw[gd,gd,hm];by_cases i1:i<sa+k
   .rw[Bf (by omega)]
    have u:=k2 (i-sa) (by omega)
    rw[show sa+(i-sa)=i by omega] at u
    by_cases j1:j<sa+k
    .rw[Bf (by omega)];exact s1 i j a b (by omega)
    .by_cases j2:j<sa+na+m
     .rw[Bd (by omega)];exact Fu u (bd j (by omega) j2).1
     .rw[Bf (by omega)];exact Fu u (s2 _ _ (Av _) (by omega) (by omega))
   .by_cases i2:i<sa+na+m
    .rw[Bd (by omega)]
     by_cases j2:j<sa+na+m
     .rw[Bd (by omega)];exact wY M.up (by omega) (by omega)
     .rw[Bf (by omega)]
      have v:=m3 (j-(sa+na)) (by omega) (by omega)
      rw[show sa+na+(j-(sa+na))=j by omega] at v
      exact Fu (bd i (by omega) i2).2 v
    .rw[Bf (by omega),Bf (by omega)]
     exact s2 i j (by omega) b (by omega)
 have ux:∀ x∈(arr.extract (sa+k) (sa+na)).toList,U x:=λx hx=>by obtain⟨j,q1,q2,rfl⟩:=mx x hx;exact ua _ (zQ (by omega))
 have uy:∀ x∈(arr.extract (sa+na) (sa+na+m)).toList,U x:=λx hx=>by obtain⟨j,q1,q2,rfl⟩:=my x hx;exact ua _ (zQ (by omega))
 have y0:(arr.extract (sa+na) (sa+na+m)).getD 0 nv=arr.getD (sa+na) nv:=gy 0 (by omega)
 have xl:(arr.extract (sa+k) (sa+na)).getD ((arr.extract (sa+k) (sa+na)).size-1) nv=arr.getD (sa+na-1) nv:=by rw[zx,gx _ (by omega)];congr 1;omega
 refine qO (λ_=>?_) λ_=>?_
 .refine Bb (c7 C rfl ux uy px py (λmg g' M=>?_) (by rw[zx];omega) (by rw[zy];omega) ?_ λx hx=>?_)
  .refine Bb (Jo (Bb (Nn (Bp ?_))))
   exact fin mg g' M
  .rw[y0];exact(lox _ (zQ (by rw[zx];omega))).1
  .rw[xl];exact(loy x hx).2
 .refine Bb (c6 C rfl ux uy px py (λmg g' M=>?_) (by rw[zx];omega) (by rw[zy];omega) (λx hx=>?_) ?_)
  .refine Bb (Jo (Bb (Nn (Bp ?_))))
   exact fin mg g' M
  .rw[y0];exact(lox x hx).1
  .rw[xl];exact(loy _ (zQ (by rw[zy];omega))).2
end
noncomputable def mir (a:Ax Bs)(i j:Ai):Ax Bs:=mirror a i j ((j-i)/2)
theorem wR {a:Ax Bs}{i j:Ai}(hj:j<=a.size)(k:Ai):(mir a i j).getD k nv=if i<=k/\k<j then a.getD (i+j-1-k) nv else a.getD k nv:=by
 rw[Ff,Ff,Ff];unfold mir;rw[getElem?_mirror_all hj]
 split <;> rfl
structure Cr (a b:Ax Bs)(lo n:Ai):Prop where
 pm:b.toList.Perm a.toList
 out:∀ k,k<lo\/lo+n<=k->b.getD k nv=a.getD k nv
theorem Cr.z {a b:Ax Bs}(h:Cr a b lo n):b.size=a.size:=by
 have:=h.pm.length_eq;simpa using this
theorem Cr.rfl' {a:Ax Bs}:Cr a a lo n:=⟨Nt _,λ_ _=>rfl⟩
theorem Cr.mir {a b:Ax Bs}{i j:Ai}(h:Cr a b lo n)(h1:lo<=i)(h2:j<=lo+n)(h3:j<=a.size):Cr a (mir b i j) lo n:=
 ⟨(Rf.mp (mirror_perm _ _ _ _)).trans h.pm,λk hk=>by rw[wR (by rw[h.z];exact h3),Bf (by lia)];exact h.out k hk⟩
def Dsg (r:Bs->An)(a:Ax Bs)(lo n:Ai):Prop:=∀ i j,lo<=i->i<=j->j<lo+n->r (a.getD j nv)<=r (a.getD i nv)
theorem UL {r:Bs->An}{a:Ax Bs}(h:Seg r a lo n)(h1:1<=n)(l:r (a.getD (lo+n-1) nv)<=r (a.getD (lo+n) nv)):Seg r a lo (n+1):=λi j h2 h3 h4=>by
 by_cases q:j<lo+n
 .exact h i j h2 h3 q
 .have:j=lo+n:=by lia
  subst this;by_cases q2:i=lo+n
  .subst q2;exact Ow _
  .exact Fu (h i (lo+n-1) h2 (by lia) (by lia)) l
theorem uW {r:Bs->An}{a:Ax Bs}(h:Dsg r a lo n)(h1:1<=n)(l:r (a.getD (lo+n) nv)<=r (a.getD (lo+n-1) nv)):Dsg r a lo (n+1):=λi j h2 h3 h4=>by
 by_cases q:j<lo+n
 .exact h i j h2 h3 q
 .have:j=lo+n:=by lia
  subst this;by_cases q2:i=lo+n
  .subst q2;exact Ow _
  .exact Fu l (h i (lo+n-1) h2 (by lia) (by lia))
theorem aR {r:Bs->An}{a:Ax Bs}:Seg r a lo 1:=λi j h2 h3 h4=>by
 have:i=j:=by lia
 subst this;exact Ow _
theorem G7 {r:Bs->An}{a:Ax Bs}:Dsg r a lo 1:=λi j h2 h3 h4=>by
 have:i=j:=by lia
 subst this;exact Ow _
def WJ (r:Bs->An)(a:Ax Bs)(lo n q:Ai):Prop:=q+1<=n/\∀ k,lo+n-(q+1)<=k->k<lo+n->r (a.getD k nv)=r (a.getD (lo+n-1) nv)
set_option tactic.hygienic true in
theorem gB {r:Bs->An}{a:Ax Bs}{q:Ai}(hn:lo+n<=a.size)(h:WJ r a lo n q)(k:Ai):r ((mir a (lo+n-(q+1)) (lo+n)).getD k nv)=r (a.getD k nv):=by
 rw[wR hn];have:=h.1
 split
 .rename_i c
  rw[h.2 k (by lia) c.2,h.2 _ (by lia) (by lia)]
 .rfl
theorem G6 {r:Bs->An}{a:Ax Bs}(hn:lo+n<=a.size)(h:Dsg r a lo n):Seg r (mir a lo (lo+n)) lo n:=λi j h2 h3 h4=>by
 rw[wR hn,wR hn,Bd (by lia),Bd (by lia)]
 exact h _ _ (by lia) (by lia) (by lia)
section
variable {prog:Bg}{w:Ca}{A:Bt}{E:Ac->Ag->Prop}{s:Ag}{κ : Mz}{U:Bs->Prop}{r:Bs->An}
theorem kT (C:Cm (As prog w) A s κ U r){i j:Ai}{arr:Ax Bs}{pd:Ax (Ai × Ai × Ai)}{g:Ai}{Q:Al Ar->Gc->Prop}(ua:∀ x∈arr.toList,U x)(hi:i<arr.size)(hj:j<arr.size)
  (q:Q (Ab (decide (r (arr.getD i nv)<r (arr.getD j nv)))) (Dk κ arr pd g none)):wpS (As prog w) A E s (ltAt' i j) Q (Dk κ arr pd g none):=by
 refine Bb (Nn ?_);exact Bb (zE hi (Bb (zE hj (C.lt (ua _ (zQ hi)) (ua _ (zQ hj)) rfl q))))
theorem bW {i j:Ai}{pd:Ax (Ai × Ai × Ai)}{g:Ai}{Q:PUnit->Gc->Prop}(q:Q ⟨⟩ (Dk κ (mir arr i j) pd g none)):wpS (As prog w) A E s (reverseSlice' i j) Q (Dk κ arr pd g none):=Jo q
theorem dI (C:Cm (As prog w) A s κ U r){lo N:Ai}{arr:Ax Bs}{pd:Ax (Ai × Ai × Ai)}{g:Ai}{Q:Al Ai->Gc->Prop}(ua:∀ x∈arr.toList,U x)(h1:1<=N)(hz:lo+N<=arr.size)
  (h:∀ n b,1<=n->n<=N->Cr arr b lo N->Seg r b lo n->Q (Ab n) (Dk κ b pd g none)):wpS (As prog w) A E s (countRun' lo N) Q (Dk κ arr pd g none):=by
 have uc:∀ {b:Ax Bs},Cr arr b lo N->∀ x∈b.toList,U x:=λh x hx=>ua x (h.pm.mem_iff.mp hx);have asc:∀ {b:Ax Bs} {n:Ai} {f:Ai->Al (Al Ai) × Ai->Ov Gc Ln (ForInStep (Al (Al Ai) × Ai))},Cr arr b lo N->1<=n->n<=N->Seg r b lo n ->
   (∀ x m,f x (none,m)=(ltAt' (lo+m) (lo+m-1) >>= λo=>match o with
    |some z=>if z then pure (.done (none,m)) else pure (.yield (none,m+1))
    |_=>pure (.done (Ab none,m))))->wpS (As prog w) A E s (forIn [n:N] (none,n) f) (λc st'=>st'=Dk κ b pd g none/\∃ m,c=(none,m)/\n<=m/\m<=N/\Seg r b lo m/\(m=N\/r (b.getD (lo+m) nv)<r (b.getD (lo+m-1) nv))) (Dk κ b pd g none):=by
  intro b n f cr hn hN sg hf;have zb:=cr.z;refine Fl (I:=λx c st'=>st'=Dk κ b pd g none/\c=(none,x)/\n<=x/\Seg r b lo x) ?_ ?_ ⟨rfl,rfl,Av _,sg⟩
  .rintro x c st' hx1 hx ⟨rfl,rfl,hx3,sg⟩
   rw[hf];refine Bb (kT C (uc cr) (by lia) (by lia) ?_)
   by_cases l:r (b.getD (lo+x) nv)<r (b.getD (lo+x-1) nv)
   .simp only[l,Kn,Ds]
    exact Bp ⟨rfl,x,rfl,hx1,by lia,sg,.inr l⟩
   .simp only[l,Kt,Cb,Ef]
    exact Bp ⟨rfl,rfl,by lia,UL sg (by lia) (by lia)⟩
  .rintro c st' ⟨rfl,rfl,hx3,sg⟩
   rw[show max n N=N by lia] at sg ⊢
   exact⟨rfl,N,rfl,hN,Av _,sg,.inl rfl⟩
 refine Bb (Ht (asc Cr.rfl' (Av 1) h1 aR λ_ _=>rfl) ?_);rintro c st' ⟨rfl,n,rfl,n1,n2,sg,nd⟩;dsimp only;refine qO (λe=>Bp (h n arr n1 n2 Cr.rfl' sg)) λe=>?_;have e:¬ n=N:=by simpa using e
 have nd:r (arr.getD (lo+n) nv)<r (arr.getD (lo+n-1) nv):=by lia
 apply qO
 case' h1 =>
  intro np;refine Bb (kT C ua (by lia) (by lia) ?_)
  dsimp only;refine qO (λe=>Bp (h n arr n1 n2 Cr.rfl' sg)) λl=>?_;have l:¬ r (arr.getD lo nv)<r (arr.getD (lo+n-1) nv):=by simpa using l
  refine Bb (bW ?_);have cr:Cr arr (mir arr lo (lo+n)) lo N:=Cr.rfl'.mir (Av _) (by lia) (by lia)
  have ds:Dsg r (mir arr lo (lo+n)) lo (n+1):=by
   refine uW (λi j a b c=>?_) n1 ?_
   .rw[wR (by lia),wR (by lia),Bd (by lia),Bd (by lia)]
    exact sg _ _ (by lia) (by lia) (by lia)
   .rw[wR (by lia),wR (by lia),Bf (by lia),Bd (by lia),show lo+(lo+n)-1-(lo+n-1)=lo by lia]
    lia
 case' h2 =>
  intro np;have cr:Cr arr arr lo N:=Cr.rfl';have ds:Dsg r arr lo (n+1):=by
   have:n=1:=by lia
   subst this;exact uW G7 (Av _) (Hw nd)
 all_goals
  refine Bb (Rh (Go ⟨rfl,?_⟩));refine Bb (Ht (Fl (I:=λx c st'=>∃ b q,st'=Dk κ b pd g none/\c=(none,x,q)/\Cr arr b lo N/\Dsg r b lo x/\WJ r b lo x q)
   (Q:=λc st'=>∃ b m q,st'=Dk κ b pd g none/\c=(none,m,q)/\1<=m/\m<=N/\Cr arr b lo N/\Dsg r b lo m/\WJ r b lo m q) ?_ ?_ ⟨_,0,rfl,rfl,cr,ds,by lia,λk a b=>by rw[show k=lo+(n+1)-1 by lia]⟩) ?_)
  .rintro x c st' hx1 hx ⟨b,q,rfl,rfl,cr,ds,eq⟩
   dsimp only;have zb:=cr.z;refine Bb (kT C (uc cr) (by lia) (by lia) ?_)
   dsimp only;refine qO (λl=>?_) λl=>?_
   .have l:r (b.getD (lo+x) nv)<r (b.getD (lo+x-1) nv):=by simpa using l
    refine qO (λqp=>Bb (bW (Bp ⟨_,0,rfl,rfl,cr.mir (by have:=eq.1;lia) (by lia) (by lia),λi j a c d=>?_,by lia,λk a b=>by rw[show k=lo+(x+1)-1 by lia]⟩))) λqp=>Bp ⟨_,0,rfl,rfl,cr,uW ds (by lia) (Hw l),by lia,λk a b=>by rw[show k=lo+(x+1)-1 by lia]⟩
    rw[gB (by lia) eq,gB (by lia) eq]
    exact uW ds (by lia) (Hw l) i j a c d
   .have l:¬ r (b.getD (lo+x) nv)<r (b.getD (lo+x-1) nv):=by simpa using l
    refine Bb (kT C (uc cr) (by lia) (by lia) ?_)
    dsimp only;refine qO (λl2=>Bp ⟨b,x,q,rfl,rfl,by lia,by lia,cr,ds,eq⟩) λl2=>?_
    have l2:¬ r (b.getD (lo+x-1) nv)<r (b.getD (lo+x) nv):=by simpa using l2
    have ee:r (b.getD (lo+x) nv)=r (b.getD (lo+x-1) nv):=by lia
    refine Bp ⟨b,q+1,rfl,rfl,cr,uW ds (by lia) (by lia),by have:=eq.1;lia,λk a c=>?_⟩
    rw[show lo+(x+1)-1=lo+x by lia]
    by_cases kx:k=lo+x
    .rw[kx]
    .rw[ee];exact eq.2 k (by lia) (by lia)
  .rintro c st' ⟨b,q,rfl,rfl,cr,ds,eq⟩
   rw[show max (n+1) N=N by lia] at ds eq ⊢
   exact⟨b,N,q,rfl,rfl,h1,Av _,cr,ds,eq⟩
  .rintro c st' ⟨b,m,q,rfl,rfl,m1,m2,cr,ds,eq⟩
   dsimp only;have zb:=cr.z;apply qO
   case' h1 =>
    intro qp;refine Bb (bW ?_);have cr2:=cr.mir (i:=lo+m-(q+1)) (j:=lo+m) (by have:=eq.1;lia) (by lia) (by lia)
    have ds2:Dsg r (mir b (lo+m-(q+1)) (lo+m)) lo m:=λi j a c d=>by
     rw[gB (by lia) eq,gB (by lia) eq]
     exact ds i j a c d
   case' h2 =>
    intro qp;have cr2:=cr;have ds2:=ds
   all_goals
    have z2:=cr2.z;refine Bb (bW ?_);refine Bb (Ht (asc (cr2.mir (Av _) (by lia) (by lia)) m1 m2 (G6 (by lia) ds2) λ_ _=>rfl) ?_)
    rintro c st' ⟨rfl,n',rfl,q1,q2,q3,_⟩;exact Bp (h n' _ (by lia) q2 (cr2.mir (Av _) (by lia) (by lia)) q3)
end
theorem sN {a:Ax Bs}{src d:Ai}(hs:src<a.size)(hd:d<=src)(k:Ai):(bubble a src d).getD k nv=if k=src-d then a.getD src nv else if src-d<k/\k<=src then a.getD (k-1) nv else a.getD k nv:=by
 simp only[Ff];rw[getElem?_bubble hs d hd]
 repeat' split
 all_goals rfl
section
variable {prog:Bg}{w:Ca}{A:Bt}{E:Ac->Ag->Prop}{s:Ag}{κ : Mz}{U:Bs->Prop}{r:Bs->An}
theorem eV (C:Cm (As prog w) A s κ U r){lo n ok:Ai}{arr:Ax Bs}{pd:Ax (Ai × Ai × Ai)}{g:Ai}{Q:Ar->Gc->Prop}(ua:∀ x∈arr.toList,U x)(h1:ok<=n)(hz:lo+n<=arr.size)(sg:Seg r arr lo ok)
  (h:∀ b,Cr arr b lo n->Seg r b lo n->Q true (Dk κ b pd g none)):wpS (As prog w) A E s (binarySort' lo n ok) Q (Dk κ arr pd g none):=by
 have uc:∀ {b:Ax Bs},Cr arr b lo n->∀ x∈b.toList,U x:=λh x hx=>ua x (h.pm.mem_iff.mp hx);have sg1:Seg r arr lo (max ok 1):=by
  by_cases q:ok=0
  .rw[q];exact aR
  .rw[show max ok 1=ok by lia];exact sg
 refine Bb (Ht (Fl (I:=λk c st'=>c=(none,())/\∃ b,st'=Dk κ b pd g none/\Cr arr b lo n/\Seg r b lo (min k (max ok (max n 1))))
  (Q:=λc st'=>c=(none,())/\∃ b,st'=Dk κ b pd g none/\Cr arr b lo n/\Seg r b lo n) ?_ ?_ ⟨rfl,arr,rfl,Cr.rfl',?_⟩) ?_)
 .rintro k c st' hk hkn ⟨rfl,b,rfl,cr,sg⟩
  have zb:=cr.z;rw[show min k (max ok (max n 1))=k by lia] at sg
  dsimp only;refine Bb (Ht (Fl (I:=λx c st'=>st'=Dk κ b pd g none/\∃ l u,c=(none,l,u)/\l<=u/\u<=k/\u-l<=k-x/\(∀ i,i<l->r (b.getD (lo+i) nv)<=r (b.getD (lo+k) nv))/\∀ i,u<=i->i<k->r (b.getD (lo+k) nv)<r (b.getD (lo+i) nv))
   (Q:=λc st'=>st'=Dk κ b pd g none/\∃ l u,c=(none,l,u)/\l<=k/\(∀ i,i<l->r (b.getD (lo+i) nv)<=r (b.getD (lo+k) nv))/\∀ i,l<=i->i<k->r (b.getD (lo+k) nv)<r (b.getD (lo+i) nv)) ?_ ?_
   ⟨rfl,0,k,rfl,by lia,by lia,by lia,λi hi=>by lia,λi a b=>by lia⟩) ?_)
  .rintro x c st' _ hx ⟨rfl,l,u,rfl,q1,q2,q3,q4,q5⟩
   dsimp only;refine qO (λe=>Bp ⟨rfl,l,u,rfl,by lia,q4,λi a b=>q5 i (by lia) b⟩) λe=>?_
   refine Bb (kT C (uc cr) (by lia) (by lia) ?_)
   dsimp only;refine qO (λz=>?_) λz=>?_
   .have z:r (b.getD (lo+k) nv)<r (b.getD (lo+(l+u)/2) nv):=by simpa using z
    exact Bp ⟨rfl,_,_,rfl,by lia,by lia,by lia,q4,λi a c=>Int.lt_of_lt_of_le z (sg _ _ (by lia) (by lia) (by lia))⟩
   .have z:¬ r (b.getD (lo+k) nv)<r (b.getD (lo+(l+u)/2) nv):=by simpa using z
    exact Bp ⟨rfl,_,_,rfl,by lia,by lia,by lia,λi a=>Fu (sg _ _ (by lia) (by lia) (by lia)) (Wu.mp z),q5⟩
  .rintro c st' ⟨rfl,l,u,rfl,q1,q2,q3,q4,q5⟩
   exact⟨rfl,l,u,rfl,by lia,q4,λi a b=>q5 i (by lia) b⟩
  .rintro c st' ⟨rfl,l,u,rfl,q1,q4,q5⟩
   dsimp only;refine Bb (Jo (Bp ⟨rfl,_,rfl,⟨(Rf.mp (bubble_perm _ _ _)).trans cr.pm,λj hj=>?_⟩,?_⟩))
   .show (bubble b (lo+k) (lo+k-(lo+l))).getD j nv=_
    rw[sN (by lia) (by lia),Bf (by lia),Bf (by lia)]
    exact cr.out j hj
   .rw[show min (k+1) (max ok (max n 1))=k+1 by lia]
    have e:∀ j,(bubble b (lo+k) (lo+k-(lo+l))).getD j nv=if j=lo+l then b.getD (lo+k) nv else if lo+l<j/\j<=lo+k then b.getD (j-1) nv else b.getD j nv:=λj=>by
     rw[sN (by lia) (by lia),show lo+k-(lo+k-(lo+l))=lo+l by lia]
    intro i j a c d;show r ((bubble b (lo+k) (lo+k-(lo+l))).getD i nv)<=r ((bubble b (lo+k) (lo+k-(lo+l))).getD j nv);rw[e,e];by_cases i1:i<lo+l
    .rw[Bf (by lia),Bf (by lia)]
     have u1:=q4 (i-lo) (by lia)
     rw[show lo+(i-lo)=i by lia] at u1
     by_cases j1:j<lo+l
     .rw[Bf (by lia),Bf (by lia)];exact sg i j a c (by lia)
     .by_cases j2:j=lo+l
      .rw[Bd j2];exact u1
      .rw[Bf j2,Bd (by lia)];exact sg _ _ a (by lia) (by lia)
    .by_cases i2:i=lo+l
     .rw[Bd i2]
      by_cases j2:j=lo+l
      .rw[Bd j2];exact Ow _
      .rw[Bf j2,Bd (by lia)]
       have:=q5 (j-1-lo) (by lia) (by lia)
       rw[show lo+(j-1-lo)=j-1 by lia] at this
       exact Hw this
     .rw[Bf i2,Bd (by lia),Bf (by lia),Bd (by lia)]
      exact sg _ _ (by lia) (by lia) (by lia)
 .rintro c st' ⟨rfl,b,rfl,cr,sg⟩
  refine⟨rfl,b,rfl,cr,?_⟩;intro i j a c d;exact sg i j a c (by lia)
 .rw[show min (max ok 1) (max ok (max n 1))=max ok 1 by lia];exact sg1
 .rintro c st' ⟨rfl,b,rfl,cr,sg⟩
  exact Bp (h b cr sg)
end
def Rn (r:Bs->An)(a:Ax Bs):Aa (Ai × Ai × Ai)->Ai->Ai->Prop
 |[],x,y=>x=y
 |(s,n,_)::t,x,y=>s=x/\0<n/\Seg r a s n/\Rn r a t (x+n) y
section
variable {r:Bs->An}{a b:Ax Bs}
theorem Rn.app:∀ {L1 L2:Aa (Ai × Ai × Ai)} {x y:Ai},Rn r a (L1++L2) x y↔∃ m,Rn r a L1 x m/\Rn r a L2 m y
 |[],L2,x,y=>⟨λh=>⟨x,rfl,h⟩,λ⟨m,h1,h2⟩=>by cases h1;exact h2⟩
 |(s,n,p)::t,L2,x,y=>by
  show s=x/\0<n/\Seg r a s n/\Rn r a (t++L2) (x+n) y↔∃ m,(s=x/\0<n/\Seg r a s n/\Rn r a t (x+n) m)/\Rn r a L2 m y;rw[Rn.app];exact⟨λ⟨h1,h2,h3,m,h4,h5⟩=>⟨m,⟨h1,h2,h3,h4⟩,h5⟩,λ⟨m,⟨h1,h2,h3,h4⟩,h5⟩=>⟨h1,h2,h3,m,h4,h5⟩⟩
theorem Rn.le:∀ {L:Aa (Ai × Ai × Ai)} {x y:Ai},Rn r a L x y->x+L.length<=y
 |[],x,y,h=>by cases h;simp
 |(s,n,p)::t,x,y,h=>by have:=Rn.le h.2.2.2;have:=h.2.1;simp only[AT];lia
theorem Rn.congr:∀ {L:Aa (Ai × Ai × Ai)} {x y:Ai},Rn r a L x y->(∀ k,x<=k->k<y->b.getD k nv=a.getD k nv)->Rn r b L x y
 |[],x,y,h,_=>h
 |(s,n,p)::t,x,y,h,e=>by
  obtain⟨rfl,h2,h3,h4⟩:=h;have l:=Rn.le h4;refine⟨rfl,h2,λi j a c d=>?_,Rn.congr h4 λk h1 h2=>e k (by lia) h2⟩
  rw[e i (by lia) (by lia),e j (by lia) (by lia)]
  exact h3 i j a c d
theorem Rn.mod {f:Ai × Ai × Ai->Ai × Ai × Ai}(hf:∀ u v p,∃ p',f (u,v,p)=(u,v,p')):∀ {L:Aa (Ai × Ai × Ai)} {i x y:Ai},Rn r a L x y->Rn r a (L.modify i f) x y
 |[],i,x,y,h=>by simpa using h
 |(s,n,p)::t,0,x,y,h=>by
  obtain⟨p',e⟩:=hf s n p;rw[List.modify_zero_cons,e];exact h
 |(s,n,p)::t,i+1,x,y,h=>by
  rw[List.modify_succ_cons];exact⟨h.1,h.2.1,h.2.2.1,Rn.mod hf h.2.2.2⟩
end
theorem R7 {α:Type}{l:Aa α}{i:Ai}(h:i+1<l.length):∃ L1 x y L2,l=L1++x::y::L2/\L1.length=i:=by
 refine⟨l.take i,l[i],l[i+1],l.drop (i+2),?_,by rw[Eu];lia⟩
 rw[<- Gr h,<- Gr (by lia),Ox]
section
variable {prog:Bg}{w:Ca}{A:Bt}{E:Ac->Ag->Prop}{s:Ag}{κ : Mz}{U:Bs->Prop}{r:Bs->An}
theorem mT (C:Cm (As prog w) A s κ U r){i e:Ai}{Q:Ar->Gc->Prop}{arr:Ax Bs}{pd:Ax (Ai × Ai × Ai)}{g:Ai}(ua:∀ x∈arr.toList,U x)(hi:i+1<pd.size)(R:Rn r arr pd.toList 0 e)(he:e<=arr.size)
  (h:∀ b pd' g,b.toList.Perm arr.toList->(∀ k,e<=k->b.getD k nv=arr.getD k nv)->Rn r b pd'.toList 0 e->pd'.size+1=pd.size->Q true (Dk κ b pd' g none)):wpS (As prog w) A E s (mergeAt' i) Q (Dk κ arr pd g none):=by
 obtain⟨L1,⟨sa,na,pa⟩,⟨sb,nb,pb⟩,L2,el,hl⟩:=R7 (l:=pd.toList) (i:=i) (by simpa using hi)
 rw[el] at R;obtain⟨m,R1,rfl,p1,s1,rfl,p2,s2,R2⟩:=Rn.app.mp R;have l2:=Rn.le R2;have e1:pd[i]? = Ab (sa,na,pa):=by
  rw[<- Bn,el,<- hl,Dg (Av _),Yd];rfl
 have e2:pd[i+1]? = Ab (sa+na,nb,pb):=by
  rw[<- Bn,el,<- hl,Dg (by lia),Ku];rfl
 refine c5 C ua e1 e2 p1 p2 (by lia) s1 s2 λb g pm out sg=>?_
 have ep:((pd.setIfInBounds i (sa,na+nb,pa)).eraseIdxIfInBounds (i+1)).toList=L1++(sa,na+nb,pa)::L2:=by
  rw[Array.toList_eraseIdxIfInBounds,Array.toList_setIfInBounds,el,<- hl,List.set_append_right _ _ (Av _),Yd,List.set_cons_zero,List.eraseIdx_append_of_length_le (by lia),Ku]
  rfl
 refine h b _ g pm (λk hk=>out k (by lia)) ?_ ?_
 .rw[ep]
  refine Rn.app.mpr ⟨sa,R1.congr λk _ hk=>out k (by lia),rfl,by lia,sg,?_⟩
  rw[<- Nat.add_assoc];exact R2.congr λk hk _=>out k (by lia)
 .have:=congrArg Fy ep
  have q:=congrArg Fy el;simp only[Bm,Aw,AT] at this q
  lia
theorem dJ (C:Cm (As prog w) A s κ U r){Q:Vi->Gc->Prop}{arr:Ax Bs}{g:Ai}(ua:∀ x∈arr.toList,U x)(h2:0<arr.size)
  (h:∀ b pd g,b.toList.Perm arr.toList->b.toList.Pairwise (Le r)->Q () (Dk κ b pd g none)):wpS (As prog w) A E s sortRuns' Q (Dk κ arr #[] g none):=by
 have uc:∀ {b:Ax Bs},b.toList.Perm arr.toList->∀ x∈b.toList,U x:=λh x hx=>ua x (h.mem_iff.mp hx);have zc:∀ {b:Ax Bs},b.toList.Perm arr.toList->b.size=arr.size:=λh=>by simpa using h.length_eq
 refine Bb (Nn ?_);dsimp only;refine Bb (Ht (Fl (I:=λx c st'=>∃ b pd g lo,st'=Dk κ b pd g none/\c=(none,lo)/\b.toList.Perm arr.toList/\lo<=arr.size/\min x arr.size<=lo/\Rn r b pd.toList 0 lo)
  (Q:=λc st'=>∃ b pd g,st'=Dk κ b pd g none/\c=(none,arr.size)/\b.toList.Perm arr.toList/\Rn r b pd.toList 0 arr.size) ?_ ?_ ⟨arr,#[],g,0,rfl,rfl,Nt _,by lia,by lia,rfl⟩) ?_)
 .rintro x c st' _ hx ⟨b,pd,g,lo,rfl,rfl,pm,lo1,lo2,R⟩
  have zb:=zc pm;dsimp only;refine qO (λe=>Bp ⟨b,pd,g,rfl,by rw[show lo=arr.size by lia],pm,by rw[show arr.size=lo by lia];exact R⟩) λe=>?_
  refine Bb (dI C (uc pm) (by lia) (by lia) λn b2 n1 n2 cr sg=>?_)
  have R2:Rn r b2 pd.toList 0 lo:=R.congr λk _ hk=>cr.out k (.inl hk);have pm2:=cr.pm.trans pm;have z2:=zc pm2;dsimp only;apply qO
  case' h1 =>
   intro lt;refine Bb (Rh (Go ⟨rfl,?_⟩));refine Bb (eV C (uc pm2) (by lia) (by lia) sg λb3 cr3 sg3=>?_)
   have R3:Rn r b3 pd.toList 0 lo:=R2.congr λk _ hk=>cr3.out k (.inl hk);have pm3:=cr3.pm.trans pm2;refine qO (λe=>by simp at e) λ_=>?_
   have n3:lo+min (arr.size-lo) ((sortPriv% PySem.Builtin.minRun) arr.size arr.size 0)<=arr.size:=by lia
   have n4:0<min (arr.size-lo) ((sortPriv% PySem.Builtin.minRun) arr.size arr.size 0):=by lia
  case' h2 =>
   intro lt;have R3:=R2;have pm3:=pm2;have sg3:=sg;have n3:lo+n<=arr.size:=by lia
   have n4:0<n:=n1
  all_goals
   refine Bb (Nn ?_);dsimp only;rcases hb:pd.back? with _|⟨s1,l1,p1⟩
   .dsimp only
    refine Bb (Jo (Bp ⟨_,_,_,_,rfl,rfl,pm3,n3,by lia,?_⟩))
    show Rn r _ (pd.push _).toList 0 _;rw[En];exact Rn.app.mpr ⟨lo,R3,rfl,n4,sg3,rfl⟩
   .dsimp only
    refine Bb (Ht (Fl (I:=λ_ c st'=>c=(none,())/\∃ b pd g,st'=Dk κ b pd g none/\b.toList.Perm arr.toList/\Rn r b pd.toList 0 lo/\Seg r b lo _)
     (Q:=λc st'=>c=(none,())/\∃ b pd g,st'=Dk κ b pd g none/\b.toList.Perm arr.toList/\Rn r b pd.toList 0 lo/\Seg r b lo _) ?_ (λ_ _ z=>z) ⟨rfl,_,pd,g,rfl,pm3,R3,sg3⟩) ?_)
    .rintro y c st' _ hy ⟨rfl,b,pd,g,rfl,pm,R,sg⟩
     have zb:=zc pm;refine Bb (Nn ?_);dsimp only;by_cases hp:pd.size>1
     .rw[Bd hp]
      rcases hq:pd[pd.size-2]? with _|⟨u,v,old⟩
      .exact Bp ⟨rfl,b,pd,g,rfl,pm,R,sg⟩
      .dsimp only
       refine qO (λ_=>Bp ⟨rfl,b,pd,g,rfl,pm,R,sg⟩) λ_=>?_;refine Bb (mT C (uc pm) (by lia) R (by lia) λb' pd' g' p' out R' _=>?_)
       refine qO (λe=>by simp at e) λ_=>Bp ⟨rfl,b',pd',g',rfl,p'.trans pm,R',λi j a c d=>?_⟩
       rw[out i a,out j (by lia)]
       exact sg i j a c d
     .rw[Bf hp]
      exact Bp ⟨rfl,b,pd,g,rfl,pm,R,sg⟩
    .rintro c st' ⟨rfl,b,pd,g,rfl,pm,R,sg⟩
     dsimp only;refine Bb (Jo (Bb (Jo (Bp ⟨_,_,_,_,rfl,rfl,pm,n3,by lia,?_⟩))))
     show Rn r b ((pd.modify (pd.size-1) _).push _).toList 0 _;rw[En,Array.toList_modify];exact Rn.app.mpr ⟨lo,Rn.mod (λ_ _ _=>⟨_,rfl⟩) R,rfl,n4,sg,rfl⟩
 .rintro c st' ⟨b,pd,g,lo,rfl,rfl,pm,lo1,lo2,R⟩
  have:lo=arr.size:=by lia
  subst this;exact⟨b,pd,g,rfl,rfl,pm,R⟩
 .rintro c st' ⟨b,pd,g,rfl,rfl,pm,R⟩
  dsimp only;have hl:=R.le;rw[Bm] at hl;refine Bb (Ht (Fl (I:=λx c st'=>c=(none,())/\∃ b pd g,st'=Dk κ b pd g none/\b.toList.Perm arr.toList/\Rn r b pd.toList 0 arr.size/\(pd.size<=1\/pd.size+x<=arr.size))
   (Q:=λc st'=>c=(none,())/\∃ b pd g,st'=Dk κ b pd g none/\b.toList.Perm arr.toList/\Rn r b pd.toList 0 arr.size/\pd.size<=1) ?_ ?_ ⟨rfl,b,pd,g,rfl,pm,R,by lia⟩) ?_)
  .rintro x c st' _ hx ⟨rfl,b,pd,g,rfl,pm,R,hs⟩
   have zb:=zc pm;refine Bb (Nn ?_);dsimp only;refine qO (λe=>Bp ⟨rfl,b,pd,g,rfl,pm,R,e⟩) λe=>?_;refine Bb (mT C (uc pm) ?_ R (by lia) λb' pd' g' p' out R' z'=>?_)
   .have e:¬ pd.size<=1:=e
    have q:∀ (c:Prop) [Ju c],(if c then pd.size-2-1 else pd.size-2)+1<pd.size:=λc _=>by split <;> lia
    exact q _
   exact qO (λe=>by simp at e) λ_=>Bp ⟨rfl,b',pd',g',rfl,p'.trans pm,R',by lia⟩
  .rintro c st' ⟨rfl,b,pd,g,rfl,pm,R,hs⟩
   exact⟨rfl,b,pd,g,rfl,pm,R,by lia⟩
  .rintro c st' ⟨rfl,b,pd,g,rfl,pm,R,hs⟩
   have zb:=zc pm;refine Bp (h b pd g pm ?_);have hs:pd.toList.length<=1:=by simpa using hs
   revert R hs
   cases pd.toList with
   |nil=>intro R;have:0=arr.size:=R;lia
   |cons q t =>
    obtain⟨s0,n0,p0⟩:=q;intro R hs;have:t=[]:=by cases t with|nil=>rfl|cons _ _=>simp at hs
    subst this;obtain⟨rfl,_,sg,e⟩:=R;have e:n0=arr.size:=by have:0+n0=arr.size:=e;lia
    subst e;rw[Jx];intro i j hi hj l;have hi':i<b.size:=by simpa using hi
    have hj':j<b.size:=by simpa using hj
    have:=sg i j (by lia) (by lia) (by lia)
    simpa [Gs,hi',hj',Le] using this
end
structure Cmps (prog:Bg)(w:Ca)(h0:Bw)(vs:Aa Ac)(f:Ai->Ai->Ar):Prop where
 ex:∃ κ,∀ (A:Bt),A.units+8<Du->∀ (s:Ag),Sup h0 s.heap->(∀ (Q:Mz->Ag->Prop) (E:Ac->Ag->Prop),Q κ s->Ap (As prog w) A (keyKind' vs.toArray) Q E s)/\∀ i j (C:Ar->Ag->Prop),i<vs.length->j<vs.length->C (f i j) s->kas_ask prog w A κ vs i j C s
open Classical in
def kV {K:Type}(is:K->Ac->Prop)(d:K)(v:Ac):K:=if h:∃ k,is k v then choose h else d
open Classical in
theorem gN {K:Type}{is:K->Ac->Prop}{d:K}{v:Ac}(h:∃ k,is k v):is (kV is d v) v:=by
 unfold kV;rw[dif_pos h];exact choose_spec h
section
variable {prog:Bg}{w:Ca}{A:Bt}{E:Ac->Ag->Prop}{s:Ag}
theorem JP {K:Type}{is:K->Ac->Prop}{lt':K->K->Ar}{d:K}(O:Ord lt')(inj:∀ {k k':K} {v:Ac},is k v->is k' v->k=k'){a:Af}{vs:Aa Ac}{ks:Aa K}{n:Ai}{h0:Bw}{P:PySem.Fin->Ag->Prop}(hlen:vs.length=ks.length)(hks:∀ i v,vs[i]? = Ab v->is (ks.getD i d) v)(ho:s.heap.get? a=Ab (Eo "list" vs.toArray n))(hu:A.units+8<Du)(hz:vs.length<=100000)(c:2<=vs.length->Cmps prog w h0 vs (sL lt' ks d))(hS:Sup h0 s.heap)(ha:h0.get? a=none)
  (h:∀ ps:Aa (K × Ac),ps.Perm (ks.zip vs)->Nf lt' (ps.map (·.1))->P (.done (.ret .none)) { s with heap:=sortedHeap s.heap a vs (ps.map (·.2)).toArray }) : Ap (As prog w) A (Ih.«list.sort» ⟨[.ref a],[]⟩) P E s:=by
 rw[list_sort_plain];have hb:a<s.heap.objs.size:=Ba ho;have hsz:vs.toArray.size=vs.length:=by simp
 refine Ad (listItems_at ho rfl (Ad (listUpdate_at ho rfl ?_ (by rw[hsz,Fp];lia) (Fh _))))
 obtain⟨e1,ho1⟩:∃ e1,(s.heap.update a (Ew λ_=>#[])).get? a=Ab (Eo "list" #[] e1):=⟨_,Na ho (λ_=>#[])⟩;refine Ad (seqEpoch_at ho1 rfl (Ad (Vk (Ad (Ww (Ej ?_) (Fh _))) (by show vs.length<=_;rw[Fp];lia))))
 have ho6:(((s.heap.update a (Ew λ_=>#[])).push (Eo "tuple" vs.toArray 0)).push (Eo "list" #[] 0)).get? a=Ab (Eo "list" #[] e1):=
  Ah _ (Ah _ ho1)
 have S6:Sup h0 (((s.heap.update a (Ew λ_=>#[])).push (Eo "tuple" vs.toArray 0)).push (Eo "list" #[] 0)):=λb o e =>
  Ah _ (Ah _ ((Cj _ _ (λz:a=b=>by rw[<- z,ha] at e;cases e)).trans (hS b o e)))
 show Ap (As prog w) A _ P E { s with heap:=((s.heap.update a (Ew λ_=>#[])).push (Eo "tuple" vs.toArray 0)).push (Eo "list" #[] 0) }
 dsimp only;have fin:∀ (st':Gc) (ps:Aa (K × Ac)),(arrOf st').map (·.2)=(ps.map (·.2)).toArray->failedOf st'=none->ps.Perm (ks.zip vs)->Nf lt' (ps.map (·.1))->Ap (As prog w) A (do
   let touched:=(<- seqEpoch a) != e1
   Builtin.List.listUpdate (.ref a) λ_=>(arrOf st').map (·.2)
   if let Ab e:=failedOf st' then rule "list.sort.comparison-raised";throw e
   if touched then rule "list.sort.modified";raiseError "ValueError" "list modified during sort"
   ret .none) P E { s with heap:=((s.heap.update a (Ew λ_=>#[])).push (Eo "tuple" vs.toArray 0)).push (Eo "list" #[] 0) }:=by
  intro st' ps h1 h2 h3 h4;have hl:(ps.map (·.2)).length=vs.length:=by rw[Ak,h3.length_eq,Um,hlen,Tl]
  refine Ad (seqEpoch_at ho6 rfl ?_);rw[h1];refine Ad (listUpdate_at ho6 rfl ?_ (Fh _) (by show (ps.map (·.2)).toArray.size<=_;rw[Bj,hl,Fp];lia))
  rw[h2];simp only[Za,Cb,Ef];exact Am (h ps h3 h4)
 by_cases h2:vs.toArray.size<2
 .rw[Bd h2,Bd h2]
  refine Ad (Am ?_);rw[StateT.run_pure];refine Ad (Am ?_);refine fin (Dk general' (vs.toArray.zip vs.toArray) #[] 7 none) (ks.zip vs) ?_ rfl (Nt _) ?_
  .show (vs.toArray.zip vs.toArray).map (·.2)=_
   apply Zv.mp;simp[List.map_snd_zip,hlen]
  .rw[Td (by lia)]
   match ks,hlen with
   |[],_=>exact Nv
   |[_],_=>exact Hi _ _
   |_::_::_,e=>simp at e h2;lia
 .rw[Bf h2,Bf h2]
  have h2':2<=vs.length:=by lia
  obtain⟨κ,C⟩:=c h2';obtain⟨k1,k2⟩:=C A hu { s with heap:=((s.heap.update a (Ew λ_=>#[])).push (Eo "tuple" vs.toArray 0)).push (Eo "list" #[] 0) } S6
  have kv:∀ i,i<vs.length->kV is d (vs.getD i Dq)=ks.getD i d:=λi hi=>by
   have q:=hks i (vs.getD i Dq) (by rw[Hv,Ao hi];rfl)
   exact inj (gN ⟨_,q⟩) q
  have km:∀ i,i<vs.length->ks.getD i d∈ks:=λi hi=>by
   have:i<ks.length:=by lia
   simp[Im,this]
  have cm:Cm (As prog w) A { s with heap:=((s.heap.update a (Ew λ_=>#[])).push (Eo "tuple" vs.toArray 0)).push (Eo "list" #[] 0) } κ (λx=>∃ i,i<vs.length/\x=(vs.getD i Dq,vs.getD i Dq)) (λx=>gX lt' ks (kV is d x.1)):=by
   refine⟨?_⟩;rintro x y ⟨i,hi,rfl⟩ ⟨j,hj,rfl⟩ E Q st hk q;rw[lt'_eq];refine Bb (Nn ?_);rw[hk];rw[kv i hi,kv j hj,<- eE O (km i hi)] at q;refine Bb (Rh (Ld (Hq (k2 i j (λb s'=>s'=_/\b=sL lt' ks d i j) hi hj ⟨rfl,rfl⟩) ?_ λ_ _ e=>e.elim)));rintro b s' ⟨rfl,rfl⟩;exact⟨rfl,Bp q⟩
  have pl:(vs.toArray.zip vs.toArray).toList=(Cz vs.length).map λi=>(vs.getD i Dq,vs.getD i Dq):=by
   apply Me
   .simp
   .intro i h1 h2
    have:i<vs.length:=by simpa using h2
    simp[this]
  refine Ad (k1 _ _ ?_);refine Ad (Hq (dJ (E:=E) (Q:=λ_ st'=>∃ b pd g,st'=Dk κ b pd g none/\b.toList.Perm (vs.toArray.zip vs.toArray).toList/\b.toList.Pairwise (Le λx=>gX lt' ks (kV is d x.1))) cm (arr:=vs.toArray.zip vs.toArray) (g:=7) ?_ ?_ λb pd g p q=>⟨b,pd,g,rfl,p,q⟩) ?_ λ_ _ e=>e)
  .intro x hx
   rw[pl] at hx;obtain⟨i,hi,rfl⟩:=Br.mp hx;exact⟨i,Do.mp hi,rfl⟩
  .simp;lia
  .rintro⟨⟨⟩,st'⟩ s' ⟨rfl,b,pd,g,rfl,pm,up⟩
   refine fin _ (b.toList.map λx=>(kV is d x.1,x.2)) ?_ rfl ?_ ?_
   .show b.map (·.2)=_
    apply Zv.mp;simp
   .refine(pm.map _).trans ?_
    rw[pl,Eh];have:ks.zip vs=(Cz vs.length).map λi=>(ks.getD i d,vs.getD i Dq):=by
     apply Me
     .simp[hlen]
     .intro i h1 h2
      have h3:i<vs.length:=by simpa using h2
      have h4:i<ks.length:=by lia
      simp[h3,h4]
    rw[this];refine List.Perm.of_eq (Qc λi hi=>?_);show (kV is d (vs.getD i Dq),_)=_;rw[kv i (Do.mp hi)]
   .unfold Nf
    rw[Eh,Ga];refine up.imp_of_mem λ{x y} hx hy h=>?_;have hx:=pm.mem_iff.mp hx;have hy:=pm.mem_iff.mp hy;rw[pl] at hx hy;obtain⟨i,hi,rfl⟩:=Br.mp hx;obtain⟨j,hj,rfl⟩:=Br.mp hy;have h:gX lt' ks (kV is d (vs.getD i Dq))<=gX lt' ks (kV is d (vs.getD j Dq)):=h;show lt' (kV is d (vs.getD j Dq)) (kV is d (vs.getD i Dq))=false;have hj:=Do.mp hj;rw[eE O (ks:=ks) (by rw[kv j hj];exact km j hj)]
    exact Dj (by lia)
end
section
variable {prog:Bg}{w:Ca}{h0:Bw}
theorem PD {A:Bt}{s:Ag}{b:Ar}{Q:Ar->Ag->Prop}:∀ {xs ys:Aa An} {us vs:Aa Ac} {i:Ai} {N M:Ai},ItemsAre (Bk prog w) xs us->ItemsAre (Bk prog w) ys vs->N+ys.length=M+xs.length->Q (_H.lexLt xs ys) s->KatLex prog w A b (decide (N<M)) Q (us.zip vs) i s:=by
 intro xs ys us vs i N M hx
 induction hx generalizing ys vs i with
 |nil =>
  intro hy hl h;cases hy with
  |nil =>
   have:decide (N<M)=false:=Dj (by simp at hl;lia)
   rw[this];exact h
  |@cons k v ys vs q r =>
   have:decide (N<M)=true:=Cp (by simp at hl;lia)
   rw[this];exact h
 |@cons x u xs us qx rx ih =>
  intro hy hl h;cases hy with
  |nil =>
   have:decide (N<M)=false:=Dj (by simp at hl;lia)
   rw[this];exact h
  |@cons y v ys vs qy ry =>
   obtain⟨t,rfl⟩:=wB (prog:=prog) (w:=w) qx;obtain⟨t',rfl⟩:=wB (prog:=prog) (w:=w) qy;rw[Gi];refine kat_cons (Zd ?_);rw[_H.lexLt_cons] at h;refine kat_go (λe=>kat_yes ?_) λe=>kat_no ?_
   .rw[Bd (by simpa using e)] at h
    exact ih ry (by simp at hl;lia) h
   .rw[Bf (by simpa using e)] at h
    cases b&&i == 0 with
    |true=>exact oneLt_int h
    |false=>exact kat_one _ _ (Pv h)
theorem aZ {h:Bw}:∀ {vs:Aa Ac} {ks:Aa (Aa An)},vs.length=ks.length->(∀ i v,vs[i]? = Ab v->isT prog w h (ks.getD i []) v)->(∀ k∈ks,k≠[])->∃ fs,KatTups h vs fs/\fs.length=vs.length/\∀ f∈fs,∃ n t,f=Ri n t
 |[],[],_,_,_=>⟨[],trivial,rfl,λf hf=>by simp at hf⟩
 |v::vs,k::ks,hl,hv,hne=>by
  obtain⟨fs,a1,a2,a3⟩:=aZ (vs:=vs) (ks:=ks) (by simpa using hl) (λi u hu=>by simpa using hv (i+1) u (by simpa using hu)) λk hk=>hne k (by simp[hk])
  obtain⟨a,rfl,o,items,n,ho,hc,hd,hi⟩:=hv 0 v rfl;have hk:k≠[]:=hne k (by simp)
  have hi':ItemsAre (Bk prog w) k items.toList:=hi;cases hz:items.toList with
  |nil=>rw[hz] at hi';cases hi';exact absurd rfl hk
  |cons f rest =>
   rw[hz] at hi';cases hi' with
   |cons q _ =>
    obtain⟨t,rfl⟩:=wB (prog:=prog) (w:=w) q;refine⟨_::fs,KatTups.cons ho hc hd (by rw[<- Bn,hz];rfl) a1,by simp[a2],λf hf=>?_⟩
    rcases Az.mp hf with rfl|hf
    .exact⟨_,_,rfl⟩
    .exact a3 f hf
theorem MK {ks:Aa (Aa An)}(hl:vs.length=ks.length)(hv:∀ i v,vs[i]? = Ab v->isT prog w h0 (ks.getD i []) v)(hne:∀ k∈ks,k≠[])(h2:2<=vs.length):Cmps prog w h0 vs (sL _H.lexLt ks []):=by
 refine⟨tuples' (Iq "int" != Iq "tuple"),λA hu s hS=>⟨λQ E h=>?_,λi j C hi hj h=>?_⟩⟩
 .obtain⟨fs,a1,a2,a3⟩:=aZ (h:=s.heap) hl (λi v hv'=>by obtain⟨a,e,q⟩:=hv i v hv';exact⟨a,e,vS hS q⟩) hne
  refine kat_kind a1 (by lia) (λv hv'=>?_) (by decide) h
  obtain⟨n,t,rfl⟩:=a3 v hv';exact Looks.of_pure rfl
 .have g:∀ k (hk:k<vs.length),∃ a,vs.getD k Dq=.ref a/\Pz (Bk prog w) s.heap (ks.getD k []) a:=λk hk=>by
   obtain⟨a,e,q⟩:=hv k vs[k] (Ao hk);exact⟨a,by rw[<- e];simp[Im,hk],vS hS q⟩
  obtain⟨a,ea,oa,ia,na,ha,_,da,qa⟩:=g i hi;obtain⟨b,eb,ob,ib,nb,hb,_,db,qb⟩:=g j hj;unfold kas_ask;rw[ea,eb];refine kat_lt ha da hb db (PD qa qb ?_ h);have la:=qa.length;have lb:=qb.length;simp only[Bm] at la lb
  lia
theorem MJ {ks:Aa An}(hl:vs.length=ks.length)(hv:∀ i v,vs[i]? = Ab v->isI prog w (ks.getD i 0) v)(h2:2<=vs.length):Cmps prog w h0 vs (sL ltI ks 0):=by
 have hi:∀ v∈vs,∃ n t,v=Ri n t:=λv hm=>by
  obtain⟨i,hi,e⟩:=Cs.mp hm;obtain⟨t,q⟩:=wB (hv i v (by rw[Ao hi,e]))
  exact⟨_,t,q⟩
 refine⟨oneType',λA hu s hS=>⟨λQ E h=>?_,λi j C hi hj h=>?_⟩⟩
 .obtain⟨v₁,v₂,rest,rfl⟩:∃ v₁ v₂ rest,vs=v₁::v₂::rest:=by
   match vs,h2 with
   |v₁::v₂::rest,_=>exact⟨v₁,v₂,rest,rfl⟩
  rw[keyKind_ints (intsAre_map _ hi)];exact Am h
 .have g:∀ k (hk:k<vs.length),∃ t,vs.getD k Dq=.int (ks.getD k 0) t:=λk hk=>by
   obtain⟨t,q⟩:=wB (hv k vs[k] (Ao hk));exact⟨t,by rw[<- q];simp[Im,hk]⟩
  obtain⟨t,et⟩:=g i hi;obtain⟨u,eu⟩:=g j hj;unfold kas_ask;rw[et,eu];exact kat_lt_int h
end
section
variable {K:Type}{lt':K->K->Ar}
theorem WE {α:Type}{ks:Aa K}{vs:Aa α}{d:K}(hl:vs.length=ks.length){p:K × α}(h:p∈ks.zip vs):∃ i,vs[i]? = Ab p.2/\ks.getD i d=p.1:=by
 obtain⟨i,hi,e⟩:=Cs.mp h;have h1:i<ks.length:=by rw[Um] at hi;lia
 have h2:i<vs.length:=by lia
 rw[List.getElem_zip] at e;subst e;exact⟨i,Ao h2,by simp[h1]⟩
end
structure Kind (prog:Bg)(w:Ca){K:Type}(is:K->Ac->Prop)(hash:K->An)(lt':K->K->Ar)(d:K)(Fit:K->Prop)(h0:Bw):Prop where
 ord:Ord lt'
 inj:∀ {k k':K} {v:Ac},is k v->is k' v->k=k'
 cmps:∀ {vs:Aa Ac} {ks:Aa K},vs.length=ks.length->(∀ i v,vs[i]? = Ab v->is (ks.getD i d) v)->(∀ k∈ks,Fit k)->2<=vs.length->Cmps prog w h0 vs (sL lt' ks d)
theorem JN (prog:Bg)(w:Ca)(h0:Bw):Kind prog w (isT prog w h0) (Bv (Bk prog w)) _H.lexLt [] (·≠[]) h0:=⟨vD,isT.inj,λh1 h2 h3 h4=>MK h1 h2 h3 h4⟩
theorem JM (prog:Bg)(w:Ca)(h0:Bw):Kind prog w (isI prog w) (Bk prog w).hash ltI 0 (λ_=>Pc) h0:=⟨AQ,λa b=>(Bk prog w).inj _ _ _ a b,λh1 h2 _ h4=>MJ h1 h2 h4⟩
section
variable {prog:Bg}{w:Ca}{A:Bt}{E:Ac->Ag->Prop}{s:Ag}{K:Type}{is:K->Ac->Prop}{hash:K->An}{lt':K->K->Ar}{d:K}{Fit:K->Prop}{h0:Bw}{S:Af}{V:Aa Ac}{seen:Aa K}
open Classical in
def kOf (is:K->Ac->Prop)(d:K)(e:An × Ac):K:=if h:∃ k,is k e.2 then choose h else d
open Classical in
theorem NF {e:An × Ac}(h:∃ k,is k e.2):is (kOf is d e) e.2:=by
 unfold kOf;rw[dif_pos h];exact choose_spec h
theorem oX {Q:Ac->Ag->Prop}(kd:Kind prog w is hash lt' d Fit h0)(hh:A.handled=none)(hu:A.units+16<Du)(hS:Sup h0 s.heap)(Z:SetK is hash S (xZ w) V seen s.heap)(hf:∀ k∈seen,Fit k){U:Aa K}(hU:U.length<=1000)(hU1:∀ k∈seen,k∈U)
  (h:∀ h' tk D c (ps:Aa (K × Ac)),(∀ b o,s.heap.get? b=Ab o->h'.get? b=Ab o)->s.heap.objs.size<=D->h'.get? D=Ab (Eo "list" (ps.map (·.2)).toArray c)->ps.map (·.1)=srt lt' seen->(∀ p∈ps,is p.1 p.2/\p.2∈V)->ps.length<=1000->Q (.ref D) { s with heap:=h',toks:=tk }) :
  Ap (As prog w) A (call (.builtin "sorted") [.ref S]) Q E s:=by
 obtain⟨es,ep,t,ho,Z0,T,hl,hV⟩:=Z;have st:Still w S es ep t:=⟨T,hl⟩;have hn:es.size<=1000:=by
  have:=fU es.toList U Z0.nd λe he=>by
   obtain⟨k',_,q⟩:=Z0.good e he;exact⟨k',hU1 k' ((Z0.mem k').mpr ⟨e,he,q⟩),q⟩
  rw[Bm] at this
  lia
 have op:=t7 w S ep es;have osz:=uE w S ep es;have good:∀ e∈(qQ w S ep es).toList,is (kOf is d e) e.2/\e.2∈V:=λe he=>by
  have he':=op.mem_iff.mp he;obtain⟨k,_,q⟩:=Z0.good e he';exact⟨NF ⟨k,q⟩,hV e he'⟩
 have nd0:(qQ w S ep es).toList.Pairwise λa b=>∀ k,is k a.2->¬ is k b.2:=(op.pairwise_iff λ{x y} h k hy hx=>h k hx hy).mpr Z0.nd;generalize hoe:(qQ w S ep es).toList=oe at *;have hoel:oe.length<=1000:=by rw[op.length_eq,Bm];exact hn
 have hks:∀ i v,(oe.map (·.2))[i]? = Ab v->is ((oe.map (kOf is d)).getD i d) v/\v∈V:=λi v hv=>by
  rw[Dy] at hv;cases hi:oe[i]? with
  |none=>rw[hi] at hv;cases hv
  |some e =>
   rw[hi] at hv;cases hv;have g:=good e (Cy hi);have:(oe.map (kOf is d)).getD i d=kOf is d e:=by rw[Hv,Dy,hi];rfl
   rw[this];exact g
 have nd:(oe.map (kOf is d)).Nodup:=by
  unfold Aa1;rw[Ga];refine So (λ{a b} ha hb h e=>?_) nd0;exact h _ (good a ha).1 (e▸(good b hb).1)
 have mem:∀ x,x∈oe.map (kOf is d)↔x∈seen:=λx=>by
  rw[Z0.mem,Br];constructor
  .rintro⟨e,he,rfl⟩
   exact⟨e,op.mem_iff.mp he,(good e he).1⟩
  .rintro⟨e,he,q⟩
   exact⟨e,op.mem_iff.mpr he,kd.inj (good e (op.mem_iff.mpr he)).1 q⟩
 have hlen:(oe.map (·.2)).length=(oe.map (kOf is d)).length:=by simp
 refine Sf kind_sorted plain_sorted entry_sorted (args_sorted1 _) ?_;unfold Ih.«sorted»;refine Ad (m:=checkCount "sorted" 1 1 _) (Am ?_);refine Ad (eX hh st ho (by lia) λh1 tk1 kp1 hlt=>?_)
 rw[hoe];refine Ad (Ww ?_ (by rw[Fp,Ak];lia))
 have hD:(h1.push (Eo "list" (oe.map (·.2)).toArray 0)).get? h1.objs.size=Ab (Eo "list" (oe.map (·.2)).toArray 0):=Ay _ rfl
 have n0:h0.get? h1.objs.size=none:=by
  cases q:h0.get? h1.objs.size with
  |none=>rfl
  |some o=>exact absurd (Ba (hS _ _ q)) (Lo.mpr (Fi hlt))
 show Ap _ _ _ _ _ { s with heap:=h1.push (Eo "list" (oe.map (·.2)).toArray 0),toks:=tk1 }
 refine Ad (Ej (Em slot_list_sort ⟨_,hD,rfl⟩ v6 (JP (h0:=h0) (is:=is) kd.ord kd.inj (d:=d) (vs:=oe.map (·.2)) hlen (λi v hv=>(hks i v hv).1) hD (by show A.units+2+8<Du;lia) (by rw[Ak];lia) (λh2=>kd.cmps hlen (λi v hv=>(hks i v hv).1) (λk hk=>hf k ((mem k).mp hk)) h2) (λb o e=>Ah _ (kp1 b o (hS b o e))) n0 λps pm nf=>⟨_,rfl,?_⟩) (args_list_sort _)))
 refine Am ⟨_,rfl,?_⟩;have hz:(h1.push (Eo "list" (oe.map (·.2)).toArray 0)).objs.size=h1.objs.size+1:=size_push' ..
 have old:∀ b o,b≠h1.objs.size->(h1.push (Eo "list" (oe.map (·.2)).toArray 0)).get? b=Ab o->((((h1.push (Eo "list" (oe.map (·.2)).toArray 0)).update h1.objs.size (Ew λ_=>#[])).push (Eo "tuple" (oe.map (·.2)).toArray 0)).push (Eo "list" #[] 0)).get? b=Ab o:=λb o hb e =>
  Ah _ (Ah _ ((Cj _ _ (Fb hb)).trans e))
 obtain⟨e1,he1⟩:∃ e1,((h1.push (Eo "list" (oe.map (·.2)).toArray 0)).update h1.objs.size (Ew λ_=>#[])).get? h1.objs.size=Ab (Eo "list" #[] e1):=⟨_,Na hD (λ_=>#[])⟩
 have he6:=Na (Ah (Eo "list" #[] 0) (Ah (Eo "tuple" (oe.map (·.2)).toArray 0) he1)) (λ_=>(ps.map (·.2)).toArray)
 have pk:(ps.map (·.1)).Perm (oe.map (kOf is d)):=by
  have:=pm.map (·.1)
  rwa [Td (by lia)] at this
 refine h _ tk1 h1.objs.size _ ps (λb o e=>?_) (Fi hlt) he6 (NT kd.ord nf (pk.nodup_iff.mpr nd) λx=>by rw[pk.mem_iff,mem]) (λp hp=>?_) (by have:=pk.length_eq;rw[Ak,Ak] at this;lia)
 .have hb:b≠h1.objs.size:=λz=>by
   subst z;exact absurd (Ba e) (Lo.mpr (Fi hlt))
  exact(Cj _ _ (Fb hb)).trans (old b o hb (Ah _ (kp1 b o e)))
 .obtain⟨i,e1,e2⟩:=WE (d:=d) hlen (pm.mem_iff.mp hp)
  exact e2▸hks i _ e1
end
end _S
namespace _D
open PySem PySem.Spec PyProof.Rows _L
noncomputable def w8:Aa D->Al (Aa (Aa An))
 |[]=>Ab []
 |.tup ys::r=>(x9 ys).bind λk=>(w8 r).map (k::·)
 |_::_=>none
noncomputable def tpD (k:Aa An):D:=.tup (k.map D.int)
theorem fZ:∀ {ds:Aa D} {ks:Aa (Aa An)},w8 ds=Ab ks->ds=ks.map tpD
 |[],ks,h=>by cases h;rfl
 |d::r,ks,h=>by
  cases d with
  |tup ys =>
   obtain⟨k,h1,h2⟩:=Fj.mp (show (x9 ys).bind (λk=>(w8 r).map (k::·))=Ab ks from h)
   obtain⟨m,h3,rfl⟩:=Gm.mp h2;rw[fZ h3,j7 h1];rfl
  |_=>cases h
theorem vU (ks:Aa (Aa An)):w8 (ks.map tpD)=Ab ks:=by
 induction ks with
 |nil=>rfl
 |cons k ks ih =>
  show (x9 (k.map D.int)).bind (λk=>(w8 (ks.map tpD)).map (k::·))=_
  rw[lO,ih];rfl
noncomputable def jG (xs:Aa D):Al (Aa D):=match x9 xs with
 |some ns=>if (_S.srt _S.ltI ns).length<=1000 then Ab ((_S.srt _S.ltI ns).map D.int) else none
 |none=>match w8 xs with
  |some ks=>if ((_S.srt _H.lexLt ks).length<=1000&&ks.all λk=>!k.isEmpty) then Ab ((_S.srt _H.lexLt ks).map tpD) else none
  |none=>none
noncomputable def UM:D->Al (Aa D)
 |.lst xs=>Ab xs
 |.tup xs=>Ab xs
 |_=>none
theorem US {K:Type}{lt':K->K->Ar}(O:_S.Ord lt')(ks:Aa K)(d:K):_S.srt lt' (_S.y8 (λi=>ks.getD i d) ks.length)=_S.srt lt' ks:=
 _S.l3 O (_S.b9 O _) (_S.b9 O _) λx=>by
  rw[_S.vG O,_S.vG O,_S.jS];constructor
  .rintro⟨i,hi,rfl⟩
   simp[Im,hi]
  .intro hx
   obtain⟨i,hi,e⟩:=Cs.mp hx;exact⟨i,hi,by simp[Im,hi,e]⟩
section
variable {X:Cx}{e:By}{fa:DE}{p1 p2 pos1 pos2:Fc}
theorem QH:Ge "sorted" = Ab (.builtin "sorted"):=by decide +kernel
theorem tZ {prog:Bg}{w:Ca}:∀ {k:Aa An} {us:Aa Ac},qJ (k.map V.int) us->ItemsAre (Bk prog w) k us
 |[],us,h=>by cases h;exact .nil
 |i::k,us,h=>by
  cases h with
  |cons q t =>
   obtain⟨tk,rfl⟩:=q;exact .cons (Wr _ _ _ _) (tZ t)
theorem eG {pins:Aa (Af × Cu)}{σ : _L.St}{H P:Hp}{α : Aa Af}{S:Sto}{s:Ag}{d:D}{xs:Aa D}{v:V}{vv:Ac}(I:Inv X pins σ H s)(r:Rel X.K H P α S)(p:Rep X.K P α d v)(q:qG v vv)(h:UM d=Ab xs) :
  ∃ a vs its,vv=.ref a/\qC X.K P α xs vs/\qJ vs its/\(s.heap.IsList a its.toArray\/s.heap.IsTuple a its.toArray)/\xs.length=its.length:=by
 cases d with
 |lst ys =>
  cases h;obtain⟨a,vs,its,n,rfl,_,t,rv,e,l,_⟩:=kM I r p;exact⟨a,vs,its,q,t,rv,.inl ⟨_,e,rfl,n,rfl⟩,l⟩
 |tup ys =>
  cases h;obtain⟨a,vs,its,rfl,_,t,rv,⟨o,e,hc,n,hd⟩,l,_⟩:=wW I r p;exact⟨a,vs,its,q,t,rv,.inr ⟨o,e,hc,n,hd⟩,l⟩
 |_=>cases h
end
end _D
section
namespace _D
open PySem PySem.Spec PyProof.Rows _L
mutual
noncomputable def pyD:D->Al PyData
 |.non=>Ab .none
 |.bl b=>Ab (.bool b)
 |.int i=>Ab (.int i)
 |.str x=>Ab (.str x)
 |.tup xs=>(fX xs).map .tuple
 |.lst xs=>(fX xs).map .list
 |.dct0=>Ab (.dict [])
 |_=>none
noncomputable def fX:Aa D->Al (Aa PyData)
 |[]=>Ab []
 |d::ds=>(pyD d).bind λx=>(fX ds).map (x::·)
end
end _D
end
namespace _S
open PySem PySem.W PyProof.Rows
section
variable {prog:Bg}{w:Ca}{A:Bt}{E:Ac->Ag->Prop}{s:Ag}{K:Type}{is:K->Ac->Prop}{hash:K->An}{lt':K->K->Ar}{d:K}{Fit:K->Prop}{h0:Bw}
theorem oW {Q:Ac->Ag->Prop}(kd:Kind prog w is hash lt' d Fit h0)(hu:A.units+16<Du)(hS:Sup h0 s.heap){l:Af}{vs:Aa Ac}(hl:s.heap.IsList l vs.toArray\/s.heap.IsTuple l vs.toArray)(ks:Aa K)(hlen:vs.length=ks.length)(hks:∀ i v,vs[i]? = Ab v->is (ks.getD i d) v)(hf:∀ k∈ks,Fit k)(hoel:vs.length<=100000)
  (h:∀ (h1 h':Bw) (tk:Ai) (D:Af) (c:Ai) (ps:Aa (K × Ac)),(∀ b o,s.heap.get? b=Ab o->h1.get? b=Ab o)->(∀ b o,h1.get? b=Ab o->h'.get? b=Ab o)->h1.objs.size<=D->h'.get? D=Ab (Eo "list" (ps.map (·.2)).toArray c)->ps.map (·.1)=wD lt' ks->(∀ p∈ps,is p.1 p.2/\p.2∈vs)->ps.length=ks.length->Q (.ref D) { s with heap:=h',toks:=tk }) :
  Ap (As prog w) A (call (.builtin "sorted") [.ref l]) Q E s:=by
 refine Sf kind_sorted plain_sorted entry_sorted (args_sorted1 _) ?_;unfold Ih.«sorted»;refine Ad (m:=checkCount "sorted" 1 1 _) (Am ?_);have hcol:∀ {R:Aa Ac->Ag->Prop},(∀ h1:Bw,(∀ b o,s.heap.get? b=Ab o->h1.get? b=Ab o)->R vs { s with heap:=h1 }) -> Ap (As prog w) A.in1 (collect (.ref l)) R E s:=λ{R} hR=>by
  have e:vs.toArray.toList=vs:=by simp
  rcases hl with⟨o,ho,hc,n,hd⟩|⟨o,ho,hc,n,hd⟩
  .exact Zb l (.inl rfl) ho hc hd (λh' hk=>by rw[e];exact hR h' hk) (by rw[Bj,Fp];lia)
  .exact Zb l (.inr rfl) ho hc hd (λh' hk=>by rw[e];exact hR h' hk) (by rw[Bj,Fp];lia)
 refine Ad (hcol λh1 kp1=>?_);refine Ad (Ww ?_ (by rw[Fp];lia))
 have hD:(h1.push (Eo "list" vs.toArray 0)).get? h1.objs.size=Ab (Eo "list" vs.toArray 0):=Ay _ rfl;have n0:h0.get? h1.objs.size=none:=by
  cases q:h0.get? h1.objs.size with
  |none=>rfl
  |some o=>exact absurd (Ba (kp1 _ _ (hS _ _ q))) (Ei _)
 show Ap _ _ _ _ _ { s with heap:=h1.push (Eo "list" vs.toArray 0),toks:=s.toks }
 refine Ad (Ej (Em slot_list_sort ⟨_,hD,rfl⟩ v6 (JP (h0:=h0) (is:=is) kd.ord kd.inj (d:=d) (vs:=vs) hlen hks hD (by show A.units+2+8<Du;lia) hoel (λh2=>kd.cmps hlen hks hf h2) (λb o e=>Ah _ (kp1 b o (hS b o e))) n0 λps pm nf=>⟨_,rfl,?_⟩) (args_list_sort _)))
 refine Am ⟨_,rfl,?_⟩;have hz:(h1.push (Eo "list" vs.toArray 0)).objs.size=h1.objs.size+1:=size_push' ..;have old:∀ b o,b≠h1.objs.size->(h1.push (Eo "list" vs.toArray 0)).get? b=Ab o->((((h1.push (Eo "list" vs.toArray 0)).update h1.objs.size (Ew λ_=>#[])).push (Eo "tuple" vs.toArray 0)).push (Eo "list" #[] 0)).get? b=Ab o:=λb o hb e =>
  Ah _ (Ah _ ((Cj _ _ (Fb hb)).trans e))
 obtain⟨e1,he1⟩:∃ e1,((h1.push (Eo "list" vs.toArray 0)).update h1.objs.size (Ew λ_=>#[])).get? h1.objs.size=Ab (Eo "list" #[] e1):=⟨_,Na hD (λ_=>#[])⟩;have he6:=Na (Ah (Eo "list" #[] 0) (Ah (Eo "tuple" vs.toArray 0) he1)) (λ_=>(ps.map (·.2)).toArray)
 have pk:(ps.map (·.1)).Perm ks:=by
  have:=pm.map (·.1)
  rwa [Td (by lia)] at this
 refine h h1 _ s.toks h1.objs.size _ ps kp1 (λb o e=>?_) (Av _) he6 (aA kd.ord nf (aY kd.ord ks) (pk.trans (xG ks).symm)) (λp hp=>?_) (by have:=pk.length_eq;rwa [Ak] at this)
 .have hb:b≠h1.objs.size:=λz=>by
   subst z;exact absurd (Ba e) (Ei _)
  exact(Cj _ _ (Fb hb)).trans (old b o hb (Ah _ e))
 .obtain⟨i,e1,e2⟩:=WE (d:=d) hlen (pm.mem_iff.mp hp)
  exact⟨e2▸hks i _ e1,Cy e1⟩
end
end _S
namespace _D
open PySem PySem.Spec PyProof.Rows _L
noncomputable def vM (xs:Aa D):Al (Aa D):=match x9 xs with
 |some ns=>if ns.length<=100000 then Ab ((_S.wD _S.ltI ns).map D.int) else none
 |none=>match w8 xs with
  |some ks=>if (decide (ks.length<=100000)&&ks.all λk=>!k.isEmpty) then Ab ((_S.wD _H.lexLt ks).map tpD) else none
  |none=>none
noncomputable def UQ (R:Aa D->Sto->Res D):DF:=λds S=>match ds with
 |[d]=>match (UM d).bind vM with
  |some ys=>R ys S
  |none=>.bad
 |_=>.bad
noncomputable def uG:DF:=UQ λys S=>.ok (.lst ys) S
section
variable {X:Cx}{pins:Aa (Af × Cu)}{σ : _L.St}{H P:Hp}{α : Aa Af}{S:Sto}{s:Ag}
inductive NewR (X:Cx)(pins:Aa (Af × Cu))(σ : _L.St)(H P:Hp)(α : Aa Af)(ys:Aa D)(u:Ac)(s':Ag):Prop
 |mk (D:Af) (vs:Aa V) (e:u=.ref D) (hn:H D=none) (I:Inv X pins σ (upd H D (.lst vs)) s') (rp:qC X.K P α ys vs):NewR X pins σ H P α ys u s'
theorem d3 {K:Type}{is:K->Ac->Prop}{hash:K->An}{lt':K->K->Ar}{d:K}{Fit:K->Prop}(kd:_S.Kind X.prog X.w is hash lt' d Fit s.heap)(hu:X.A.units+64<Du)(I:Inv X pins σ H s)(r:Rel X.K H P α S){a:Af}{its:Aa Ac}
  (ha:s.heap.IsList a its.toArray\/s.heap.IsTuple a its.toArray) (ks:Aa K) (hl:ks.length=its.length) (hk:∀ i v,its[i]? = Ab v->is (ks.getD i d) v) (hn:ks.length<=100000) (hf:∀ k∈ks,Fit k) (enc:K->D)
  (back:∀ k v,is k v->v∈its->∃ vv,qG vv v/\Rep X.K P α (enc k) vv) {E:Ac->Ag->Prop} :
  Ap (As X.prog X.w) X.A (call (.builtin "sorted") [.ref a]) (NewR X pins σ H P α ((_S.wD lt' ks).map enc)) E s:=by
 refine _S.oW kd li (λ_ _ e=>e) ha ks hl.symm hk hf li λh1 h2 tk2 D c ps kp1 kp2 hD hob hps hp hpl=>?_;have I1:Inv X pins σ H { s with heap:=h1,toks:=s.toks }:=I.kept kp1
 have vv:∀ (ps:Aa (K × Ac)),(∀ p∈ps,is p.1 p.2/\p.2∈its)->∃ vs,qJ vs (ps.map (·.2))/\qC X.K P α ((ps.map (·.1)).map enc) vs:=by
  intro ps
  induction ps with
  |nil=>exact λ_=>⟨[],.nil,.nil⟩
  |cons p ps ih =>
   intro h;obtain⟨vs,a1,a2⟩:=ih λq hq=>h q (by simp[hq])
   obtain⟨v,b1,b2⟩:=back p.1 p.2 (h p (by simp)).1 (h p (by simp)).2
   exact⟨v::vs,.cons b1 a1,.cons b2 a2⟩
 obtain⟨vs,a1,a2⟩:=vv ps hp;rw[hps] at a2;have nd:([(D,HO.lst vs)].map (·.1)).Nodup:=by simp
 have I2:Inv X pins σ (kA H [(D,HO.lst vs)]) { s with heap:=h2,toks:=tk2 }:=Inv.laidL (s:={ s with heap:=h1,toks:=s.toks }) (L:=[(D,HO.lst vs)]) (t':=tk2) I1 kp2 (λp hpm=>by
  have:p=(D,HO.lst vs):=by simpa using hpm
  subst this;exact hD) λp hpm=>by
  have:p=(D,HO.lst vs):=by simpa using hpm
  subst this;refine⟨?_,ps.map (·.2),c,a1,hob⟩
  have:=a1.length;rw[Ak] at this;rw[this,Fp]
  lia
 exact⟨D,vs,rfl,I1.hok.fresh hD,I2,a2⟩
set_option tactic.hygienic true in
theorem oV {E:Ac->Ag->Prop}(hu:X.A.units+64<Du)(I:Inv X pins σ H s)(r:Rel X.K H P α S){a:Af}{xs ys:Aa D}{vs:Aa V}{its:Aa Ac}(t1:qC X.K P α xs vs)(rv1:qJ vs its)(e1:s.heap.IsList a its.toArray\/s.heap.IsTuple a its.toArray)(l1:xs.length=its.length)(hs:vM xs=Ab ys) :
  Ap (As X.prog X.w) X.A (call (.builtin "sorted") [.ref a]) (NewR X pins σ H P α ys) E s:=by
 unfold vM at hs;cases hi:x9 xs with
 |some ns =>
  rw[hi] at hs;dsimp only at hs
  split at hs
  .rename_i hlt
   cases hs;have:=j7 hi;subst this;have:=yS t1;subst this;refine d3 (d:=0) (_S.JM X.prog X.w s.heap) hu I r e1 ns (by simpa using l1) (λi u hu'=>?_) hlt (λ_ _=>trivial) D.int λk u hk _=>?_
   .have hi:Fw its ns:=by simpa using gJ rv1
    obtain⟨t,rfl⟩:=Qn hi i u hu';exact Wr _ _ _ _
   .obtain⟨t,rfl⟩:=_S.wB hk
    exact⟨.int k,⟨t,rfl⟩,by simp only[Rep]⟩
  .cases hs
 |none =>
  rw[hi] at hs;dsimp only at hs;cases ht:w8 xs with
  |none=>rw[ht] at hs;cases hs
  |some ks =>
   rw[ht] at hs;dsimp only at hs
   split at hs
   .rename_i hlt
    cases hs;rw[Bq,Cq] at hlt;have:=fZ ht;subst this;have at':∀ (i:Ai) (u:Ac),its[i]? = Ab u->∃ b,u=.ref b/\Pz (Bk X.prog X.w) s.heap (ks.getD i []) b/\∃ vv,qG vv u/\Rep X.K P α (tpD (ks.getD i [])) vv:=λi u hu'=>by
     have hii:i<its.length:=(Bi.mp hu').1;have hik:i<ks.length:=by rw[Ak] at l1;lia
     obtain⟨v,p,q,_⟩:=w5 t1 rv1 (j:=i) (by rw[Bj];exact hii)
     have hd:(ks.map tpD).getD i D.non=tpD (ks.getD i []):=by simp[Im,hik]
     rw[hd] at p;have hu2:its.toArray[i]'(by rw[Bj];exact hii)=u:=by
      rw[Ao hii] at hu';simpa using hu'
     rw[hu2] at q;obtain⟨b,ws,us,rfl,sq,t,rv,⟨o,ho,hcl,m,hd⟩,_,_⟩:=wW I r (show Rep X.K P α (.tup ((ks.getD i []).map D.int)) v from p)
     cases (show u=Dh b from q)
     have:=yS t;subst this;exact⟨b,rfl,⟨o,us.toArray,m,ho,hcl,hd,by simpa using tZ rv⟩,.ref b,rfl,p⟩
    refine d3 (d:=[]) (_S.JN X.prog X.w s.heap) hu I r e1 ks (by simpa using l1) (λi u hu'=>?_) hlt.1 (λk hk=>?_) tpD λk u hk hm'=>?_
    .obtain⟨b,rfl,q,_⟩:=at' i u hu'
     exact⟨b,rfl,q⟩
    .have:=Cf.mp hlt.2 k hk
     intro z;subst z;cases this
    .obtain⟨i,hi',rfl⟩:=Cs.mp hm'
     obtain⟨b,eb,q,w,rw',pw⟩:=at' i _ (Ao hi');have:k=ks.getD i []:=_S.isT.inj hk ⟨b,eb,q⟩;rw[this];exact⟨w,rw',pw⟩
   .cases hs
theorem HU (hu:X.A.units+64<Du){vs:Aa V}{us:Aa Ac}{ds:Aa D}{Q:VK}{R:Aa D->Sto->Res D}(I:Inv X pins σ H s)(r:Rel X.K H P α S)(rv:qJ vs us)(rp:qC X.K P α ds vs)(af:qV X P α (UQ R ds S) Q)
  (k:∀ ys D vs',H D=none->qC X.K P α ys vs'->qV X P α (R ys S) Q->Q (.ref D) (upd H D (.lst vs'))):Ap (As X.prog X.w) X.A (call (.builtin "sorted") us) (EP X pins σ Q) X.xe s:=by
 match ds,af,rp with
 |[],af,_=>exact Aq af
 |_::_::_,af,_=>exact Aq af
 |[d],af,rp =>
  simp only[UQ] at af;cases hq:(UM d).bind vM with
  |none=>rw[hq] at af;exact Aq af
  |some ys =>
   rw[hq] at af;obtain⟨xs,hd,hs⟩:=Fj.mp hq;obtain⟨v,u,rfl,rfl,p,q⟩:=uF rp rv;obtain⟨a,vs,its,rfl,t1,rv1,e1,l1⟩:=eG I r p q hd;refine thn (oV hu I r t1 rv1 e1 l1 hs) λu' s3 ⟨D,vs',e,hn,I',rp'⟩=>?_;subst e;exact⟨.ref D,_,I',rfl,k ys D vs' hn rp' af⟩
theorem QN (hu:X.A.units+64<Du):yV X (.builtin "sorted") uG:=by
 intro pins σ H s P α S vs us ds Q I r rv rp af;exact HU hu I r rv rp af λys D vs' hn rp' af'=>yM r hn rp' af'
end
section
variable {X:Cx}{cm:Ar}{k:Ai}
theorem J2 (hr:RoomC cm k X.A):ZCall X (.builtin "sorted") uG:=⟨QN hr.units⟩
end
end _D
namespace _L
open PySem PySem.Spec PyProof.Rows
variable {loose:Aa Au}{mg mb:Au->Al Ac}
def CY (H:Hp):Prop:=∀ b,H b=none\/(∃ o xs,H b=Ab (.frz o (.lst xs)))\/H b=Ab (.tbl #[])
def Tb0 (K:Aj)(H:Hp):Prop:=∀ x∈yZ,∀ c T,Ep K x=Ab (c,T)->H T=Ab (.tbl #[])
structure Tabs (K:Aj)(h:Bw):Prop where
 at':∀ x∈yZ,∀ c T,Ep K x=Ab (c,T)->Aa3 h c T/\h.get? T=Ab (Qo #[]) /\ K.lookup T=none
 inj:∀ x∈yZ,∀ y∈yZ,∀ c d T,Ep K x=Ab (c,T)->Ep K y=Ab (d,T)->x=y
theorem VB {P:Bg}{w:Ca}{K:Aj}{CX:CXT}{k:Ai}{fa a:Af}{fd:Fx}{x:Au}{sp:Sp}{s₁:Ag}{vs:Aa Ac}{ns:Aa An}
  (KX:K.In s₁.heap) (hns:s₁.heap.Ns Di mg) (hb:s₁.heap.Ns Pu mb) (hbb:∀ x:Au,x ≠ "__name__" -> mb x=Ge x) (hlim:s₁.heap.NoLimit) (hg:s₁.gens=#[]) (hbm:FX mg s₁.heap) (tbs:Tabs K s₁.heap)
  (ha:s₁.heap.get? a=Ab { cls:=.type "list",data:=.seq vs.toArray }) (hi:Fw vs ns) (hl:ns.length<=sizeLine) (hr:Room k Ru)
  (F:∀ base:Bw,K.In base->base.Ns Di mg->FnOk P w K mg base CX k fa fd [x] sp) (hbind:∀ (s:Ag) (u:Ac),Om s fd ⟨[u],[]⟩ [(x,u)])
  (hsp:∀ H:Hp,Tb0 K H->SqX K H a (ns.map V.int)->sp [.ref a] H (λv _=>v=.bl true) λ_ _ _=>Fv)
  (hCX:∀ H e s',CX [] H s₁ (λ_ _ _=>Fv) e s'->Fv) :
  Iw (As P w) Ru (.call (.ref fa) ⟨[.ref a],[]⟩) (λr s'=>r=.ok (.ret (.bool true))/\OldK s₁.heap s'.heap/\s'.os=s₁.os/\Og s'.gens) s₁:=by
 have rv:=WB hi;have lenV:=hi.length
 let isT:Af->Prop:=λb=>∃ x∈yZ,∃ c,Ep K x=Ab (c,b)
 have tab:∀ b,isT b->s₁.heap.get? b=Ab (Qo #[]) /\ K.lookup b=none:=λb ⟨x,hx,c,h⟩=>(tbs.at' x hx c b h).2;have core:∀ H:Hp,CY H->Tb0 K H->SqX K H a (ns.map V.int)->HOk P w H s₁.heap->(∀ b,H b≠none->b=a\/isT b)->(H a≠none->K.lookup a=none) ->
   Iw (As P w) Ru (.call (.ref fa) ⟨[.ref a],[]⟩) (λr s'=>r=.ok (.ret (.bool true))/\OldK s₁.heap s'.heap/\s'.os=s₁.os/\Og s'.gens) s₁:=by
  intro H hO hT hS hok hA hK;have base_of:∀ {b:Af} {o:Cu},s₁.heap.get? b=Ab o->H b=none->(gI s₁.heap H).get? b=Ab o:=λe n=>V1 e n;have noA:∀ {b:Af} {o:Cu},s₁.heap.get? b=Ab o->o.cls≠.none->(o.cls≠.type "list" \/ ∃ es ep,o.data=.dict es ep)->H b=none:=λ{b o} e c1 c2=>by
   cases q:H b with
   |none=>rfl
   |some u =>
    rcases hA b (by rw[q];simp) with e'|e'
    .subst e'
     rw[ha] at e;cases e;rcases c2 with z|⟨es,ep,d⟩
     .exact absurd rfl z
     .cases d
    .rw[(tab b e').1] at e;cases e
     exact absurd rfl c1
  have noD:∀ {b:Af} {o:Cu} {es:Ax DictEntry} {ep:Ai},s₁.heap.get? b=Ab o->o.data=.dict es ep->H b=none:=λ{b o es ep} e d=>by
   cases q:H b with
   |none=>rfl
   |some u =>
    rcases hA b (by rw[q];simp) with e'|e'
    .subst e'
     rw[ha] at e;cases e;cases d
    .rw[(tab b e').1] at e;cases e;cases d
  have nsK:∀ {b:Af} {m:Au->Al Ac},s₁.heap.Ns b m->(gI s₁.heap H).Ns b m:=λ{b m} ⟨o,es,ep,e,d,r⟩=>⟨o,es,ep,base_of e (noD e d),d,r⟩;have hKb:K.In (gI s₁.heap H):=λb o e=>base_of (KX b o e) (by
   cases q:H b with
   |none=>rfl
   |some u =>
    rcases hA b (by rw[q];simp) with e'|e'
    .subst e'
     rw[hK (by rw[q];simp)] at e;cases e
    .rw[(tab b e').2] at e;cases e)
  have hM:Mod K mg (gI s₁.heap H):=by
   refine⟨hKb,nsK hns,⟨mb,nsK hb,hbb⟩,let ⟨mc,h1,h2⟩:=hlim;⟨mc,nsK h1,h2⟩,?_,λx hx c T h=>?_,tbs.inj⟩
   .obtain⟨bm,o,b1,b2,b3,b4,b5⟩:=hbm
    exact⟨bm,o,b1,b2,base_of b3 (noA b3 (by rw[b4];nofun) (.inl (by rw[b4];decide))),b4,b5⟩
   .obtain⟨o,vs,file,tf,flags,tg,inF,text,tt,e1,e2,r⟩:=(tbs.at' x hx c T h).1
    exact⟨o,vs,file,tf,flags,tg,inF,text,tt,base_of e1 (noA e1 (by rw[e2];nofun) (.inl (by rw[e2];decide))),e2,r⟩
  have e0:Env0 P w K mg (gI s₁.heap H) Ru [] s₁ H:=⟨rfl,hM,λb o e=>PU e,Yc (ZK _ _),trivial,λb hb=>absurd (show b∈([]:Aa Af) from hb) (by simp),hok,.of_eq hg⟩
  refine Jm ((F _ hKb (nsK hns)).run Ru [] s₁ H ⟨[.ref a],[]⟩ [.ref a] [.ref a] _ _ hr e0 (hbind s₁ (.ref a)) (.cons rfl .nil) (hsp H hT hS)) λr s' h=>?_;cases r with
  |error e=>exact(hCX H e s' h).elim
  |ok fl =>
   cases fl with
   |next=>exact Aq h
   |brk=>exact Aq h
   |cont=>exact Aq h
   |ret u =>
    obtain⟨v,H',os,bare,un,hok',r',q⟩:=h;have q':v=.bl true:=q;subst q';obtain rfl:u=Ig true:=r';refine⟨rfl,⟨λb o e=>?_,λb o e=>un.there b o e (by simp)⟩,os,bare⟩
    cases q:H b with
    |none=>exact .inl (un.keep b o e q (by intro z;exact absurd (show b∈([]:Aa Af) from z) (by simp)) (by simp))
    |some u =>
     rcases hO b with z|⟨ob,xs,z⟩|z
     .rw[q] at z;cases z
     .have z2:=un.frzs b ob _ z
      obtain⟨e1,_⟩:=hok b _ z;obtain⟨e2,_⟩:=hok' b _ z2;rw[e] at e1;cases e1;exact .inl e2
     .obtain⟨more,z2⟩:=un.tbls b _ z
      have e1:s₁.heap.get? b=Ab (Qo #[]):=hok b _ z;have e2:s'.heap.get? b=Ab (Qo (#[] ++ more)):=hok' b _ z2;rw[e] at e1;cases e1;rcases hA b (by rw[q];simp) with e'|⟨x,hx,c,h⟩
      .subst e';rw[ha] at e;cases e
      .exact .inr (.inl ⟨((tbs.at' x hx c b h).1.tab e).isCodeTable,rfl,#[],more,rfl,e2⟩)
 have nT:¬ isT a:=λh=>by
  have z:=(tab a h).1;rw[ha] at z;cases z
 have tT:∀ x∈yZ,∀ c T,Ep K x=Ab (c,T)->isT T:=λx hx c T h=>⟨x,hx,c,h⟩;have dec:∀ b,Ju (isT b):=λb=>Classical.propDecidable _;cases hk:K.lookup a with
 |some o =>
  have e:=KX a o hk;rw[ha] at e;cases e;refine core (λb=>if isT b then Ab (.tbl #[]) else none) (λb=>?_) (λx hx c T h=>Bd (tT x hx c T h)) (.inr ⟨vs,_,hk,by rw[Ak];exact hl,rv⟩) (λb u z=>?_) (λb z=>?_) λz=>absurd (Bf nT) z
  .by_cases h:isT b
   .exact .inr (.inr (Bd h))
   .exact .inl (Bf h)
  .by_cases h:isT b
   .have z':=(Bd h).symm.trans z
    cases z';exact(tab b h).1
   .have z':=(Bf h).symm.trans z
    cases z'
  .by_cases h:isT b
   .exact .inr h
   .exact absurd (Bf h) z
 |none =>
  refine core (λb=>if b=a then Ab (.frz { cls:=.type "list",data:=.seq vs.toArray } (.lst (ns.map V.int))) else if isT b then Ab (.tbl #[]) else none) (λb=>?_) (λx hx c T h=>?_) (.inl (.inr ⟨{ cls:=.type "list",data:=.seq vs.toArray },Bd rfl⟩)) (λb u z=>?_) (λb z=>?_) λ_=>hk
  .by_cases hb:b=a
   .exact .inr (.inl ⟨_,_,Bd hb⟩)
   .by_cases h:isT b
    .exact .inr (.inr ((Bf hb).trans (Bd h)))
    .exact .inl ((Bf hb).trans (Bf h))
  .have h':=tT x hx c T h
   exact(Bf (λ(z:T=a)=>nT (z▸h'))).trans (Bd h')
  .by_cases hb:b=a
   .have z':=(Bd hb).symm.trans z
    cases z';subst hb;exact⟨ha,by rw[Ak];exact hl,vs,_,rv,ha⟩
   .by_cases h:isT b
    .have z':=((Bf hb).trans (Bd h)).symm.trans z
     cases z';exact(tab b h).1
    .have z':=((Bf hb).trans (Bf h)).symm.trans z
     cases z'
  .by_cases hb:b=a
   .exact .inl hb
   .by_cases h:isT b
    .exact .inr h
    .exact absurd ((Bf hb).trans (Bf h)) z
noncomputable def sT (q:Bg)(K:Aj):Ar:=yZ.all λx=>match Ep K x with
 |none=>true
 |some (_,T)=>((recsOf q).find? λe=>e.name == x).isSome&&((K.lookup T).isNone&&yZ.all λy=>match Ep K y with
  |none=>true
  |some (_,U)=>x == y||!decide (T=U))
theorem FE {q:Bg}{mean:ExcName->Al Ac}{h:Bw}{K:Aj}(T:Top q loose mean mg mb h)(X:K.In h)(c:sT q K=true):Tabs K h:=by
 unfold sT at c;have g:∀ x∈yZ,∀ d U,Ep K x=Ab (d,U)->((recsOf q).find? λe=>e.name == x).isSome=true/\(K.lookup U).isNone=true/\(yZ.all λy=>match Ep K y with
  |none=>true
  |some (_,V)=>x == y||!decide (U=V))=true:=λx hx d U e=>by
  have z:=Cf.mp c x hx;rw[e] at z;simpa only [Bq] using z
 refine⟨λx hx d U e=>?_,λx hx y hy d d' U e1 e2=>?_⟩
 .obtain⟨z1,z2,_⟩:=g x hx d U e
  obtain⟨r,hr⟩:=Nb.mp z1;obtain⟨k1,k2⟩:=PySem.W.tab_of T X hr e;exact⟨k1,k2,by simpa using z2⟩
 .have z:=Cf.mp (g x hx d U e1).2.2 y hy
  rw[e2] at z;simpa using z
theorem FL {l:wE}{n k:Ai}{q:Bg}{loose:Aa Au}{XP:(Au->Al Ac)->Bw->Prop}{YP:Ca->Bw->Prop}{d:DefRec}{K:Params->Aj}{CX:Ca->CXT}{sp:Ca->Sp}{x:Au}
  (hn:l.most=Ab n) (hn2:n<=sizeLine) (hdf:d.params.defaults=[]) (hr:Room k Ru) (ht:∀ p,sT q (K p)=true)
  (hY:∀ (w:Ca) (h:Bw),YP w h->(K w.params).In h)
  (F:∀ (w:Ca) (mg:Au->Al Ac) (fa:Af) (h:Bw),(K w.params).In h->h.Ns Di mg->mg d.name=Ab (.ref fa) ->
   ∃ fd:Fx,(∀ (s:Ag) (u:Ac),Om s fd ⟨[u],[]⟩ [(x,u)]) /\
    ∀ base:Bw,(K w.params).In base->base.Ns Di mg->FnOk l.prog w (K w.params) mg base (CX w) k fa fd [x] (sp w))
  (hsp:∀ (w:Ca) (H:Hp) (a:Af) (ns:Aa An),ns.length<=n->Tb0 (K w.params) H->SqX (K w.params) H a (ns.map V.int)->sp w [.ref a] H (λv _=>v=.bl true) λ_ _ _=>Fv)
  (hCX:∀ (w:Ca) (H:Hp) (s:Ag) (e:Ac) (s':Ag),CX w [] H s (λ_ _ _=>Fv) e s'->Fv) :
  AaI q loose XP YP l.row.toRowW d [] (λf vs=>x0 f vs):=by
 refine _A.attach_call hn hdf λw s₀ s₁ mg mb fa o pm cd doc a vs ns G Y ho hd hcd hmg hobj hints hlen hg=>?_;have KX:=hY w _ Y;obtain⟨fd,hb,hF⟩:=F w mg fa _ KX G.T.g hmg;exact VB KX G.T.g G.T.b G.T.builtins G.T.nolimit hg (let ⟨bm,ob,b1,b2,b3,b4,b5,b6⟩:=G.T.bmain;⟨bm,ob,b1,b2,b3,b4,b5,b6⟩) (FE G.T KX (ht _)) hobj hints (Df hlen hn2) hr hF hb (λH hT hS=>hsp w H a ns hlen hT hS) λH e s'=>hCX w H s₁ e s'
end _L
namespace _D
open PySem PySem.Spec PyProof.Rows _L
variable {K:Aj}{mg:Au->Al Ac}
theorem SY {h:Bw}(X:K.In h)(G:h.Ns Di mg){x:Au}{st:Gd}{ps:Aa Au}{f:Af}{oc:Ac}{od an:Al Af}{osl:Ax (Al Ac)}{kV doc pm cdv ct:Ac}
  (a:Et K Di x=Ab (Ab (.ref f)))
  (l:K.lookup f=Ab ⟨oc,od,.func (Gu x x (y7 st) (zU st) (qK st) .none kV doc pm an cdv ct),osl⟩) (c:Ma K cdv x=true) (k:Gv K (.ref f)=true)
  (hb:∀ (kV doc pm:Ac) (an:Al Af) (cdv ct:Ac) (us:Aa Ac),us.length=ps.length->f8 (Gu x x (y7 st) (zU st) (qK st) .none kV doc pm an cdv ct) ⟨us,[]⟩=pure (ps.zip us)):Src K mg x st ps:=
 have F:=N2 (st:=st) l c k
 ⟨f,_,Wx X G a,F,F.binds hb⟩
noncomputable def sS (K:Aj)(C:Af):Ar:=
 decide (Np K (.ref C) "__getattribute__" = Ab (Ab (.builtin "BaseException.__getattribute__")))&&decide (Np K (.ref C) "__getattr__" = Ab none)
 && decide (Np K (.ref C) "__class__" = Ab (Ab (.builtin "object.__class__")))&&decide (We K C (.type "object")=Ab true)&&decide (We K C (.type "BaseException")=Ab true)
 && (PySem.W.clsIn K C).isSome&&decide (Lz K (.ref C) (.type "ValueError")=Ab true)
noncomputable def WX (K:Aj):Ar:=
 decide (Yj K (.builtin "object.__class__") "__get__" = Ab (Ab (.builtin "getset_descriptor.__get__")))&&decide (dL K (.builtin "object.__class__")=Ab true)
noncomputable def MH (K:Aj)(cl:Aa Af):Ar:=cl.all λC=>cl.all λB=>decide (Lz K (.ref C) (.ref B)=Ab (C == B))
theorem MI {cl:Aa Af}(h1:cl.all (sS K)=true)(h2:WX K=true)(h3:MH K cl=true):ClsK K cl:=by
 have g:=h2;unfold WX at g;simp only[Bq,Cq] at g;have k1:∀ C∈cl,sS K C=true:=Cf.mp h1;refine⟨λC hC=>?_,λC hC B hB=>?_,λC hC=>?_⟩
 .have e:=k1 C hC
  unfold sS at e;simp only[Bq,Cq] at e;obtain⟨⟨⟨⟨⟨⟨e1,e2⟩,e3⟩,e4⟩,e5⟩,e6⟩,e7⟩:=e;exact⟨e1,e2,e3,g.1,g.2,e4,e5,e6⟩
 .have e:=Cf.mp (Cf.mp h3 C hC) B hB
  exact Ct e
 .have e:=k1 C hC
  unfold sS at e;simp only[Bq,Cq] at e;exact e.2
noncomputable def AA (K:Aj)(cs:Aa Ac)(A:Af):Ar:=cs.all λv=>decide (Aa9 K v (.ref A)=Ab true)
noncomputable def A8 (K:Aj)(cs:Aa Af)(A:Af):Ar:=cs.all λC=>fO K C A
noncomputable def A9 (K:Aj)(cs:Aa Af):Ar:=cs.all λC=>Gv K (.ref C)
def sD (K:Aj):Sp:=λvs H Q E=>Tb0 K H/\∃ a ns,vs=[.ref a]/\SqX K H a (List.map V.int ns)/\ns.length<=63/\∀ H',Q (.bl true) H'
theorem eF {P:Hp}{α:Aa Af}:∀ ns:Aa An,qC K P α (ns.map D.int) (ns.map V.int)
 |[]=>.nil
 |n::ns=>.cons (by simp only[Rep]) (eF ns)
noncomputable def noT (H:Hp):Hp:=λb=>match H b with
 |some (.tbl _)=>none
 |u=>u
theorem PB {P:Bg}{w:Ca}{fa:Af}{st:Gd}{k:Ai}{x:Au}(hs:Src K mg "law" st [x])(hfa:mg "law" = Ab (.ref fa))
  (hbd:∀ (kV doc pm:Ac) (an:Al Af) (cdv ct:Ac) (s:Ag) (v:Ac),Om s (Gu "law" "law" (y7 st) (zU st) (qK st) .none kV doc pm an cdv ct) ⟨[v],[]⟩ [(x,v)])
  (hall:∀ base:Bw,∃ F,sH P w K mg base true k "law" [x] F/\∀ ns:Aa An,ns.length<=63->∃ S,F [.lst (ns.map D.int)] [] = .ok (.bl true) S) :
  ∃ fd:Fx,(∀ (s:Ag) (v:Ac),Om s fd ⟨[v],[]⟩ [(x,v)])/\∀ base:Bw,K.In base->base.Ns Di mg->FnOk P w K mg base (CXd P w) k fa fd [x] (sD K):=by
 obtain⟨f,fd,hm,F,hb⟩:=hs;cases hfa.symm.trans hm;refine⟨fd,?_,λbase _ _=>?_⟩
 .obtain⟨oc,od,kV,doc,pm,an,cdv,ct,osl,rfl,_,_⟩:=F.ex
  exact hbd kV doc pm an cdv ct
 .obtain⟨G,⟨f',fd',hm',_,hb',hl,X⟩,hG⟩:=hall base
  cases hm.symm.trans hm';cases hl.one (mS F);refine(X.imp λvs H Q E h=>?_).ok;obtain⟨tb,a,ns,rfl,hS,hl,k⟩:=h;obtain⟨S,e⟩:=hG ns hl;have keep:∀ (b:Af) (u:HO),H b=Ab u->(∀ ps,u≠.tbl ps)->noT H b=Ab u:=λb u q h=>by
   unfold noT;rw[q];cases u with
   |tbl ps=>exact absurd rfl (h ps)
   |_=>rfl
  have hS':SqX K (noT H) a (List.map V.int ns):=by
   rcases hS with (h|⟨o,h⟩)|h
   .exact .inl (.inl (keep _ _ h λ_ z=>by cases z))
   .exact .inl (.inr ⟨o,keep _ _ h λ_ z=>by cases z⟩)
   .exact .inr h
  have sub:qF (noT H) H:=λb u q=>by
   unfold noT at q;cases z:H b with
   |none=>rw[z] at q;cases q
   |some v =>
    rw[z] at q;cases v with
    |tbl ps=>cases q
    |_=>exact q
  refine⟨rfl,noT H,[],[.lst (ns.map D.int)],[],⟨λx hx c T h=>⟨#[],tb x hx c T h,by unfold noT;rw[tb x hx c T h],by simp,trivial,λpos cv z=>by cases z⟩,sub,rfl,.nil,by simp,by simp,by simp⟩,.cons (nP hS' (eF ns)) .nil,?_⟩
  rw[e];intro v H' P' α' _ _ _ rv;simp only[Rep] at rv;subst rv;exact k H'
theorem CA {l:wE}{q:Bg}{loose:Aa Au}{XP:(Au->Al Ac)->Bw->Prop}{YP:Ca->Bw->Prop}{d:DefRec}{K:Params->Aj}{k:Ai}{x:Au}(hn:l.most=Ab 63)(hdf:d.params.defaults=[])(hr:Room k Ru)(ht:∀ p,sT q (K p)=true)
  (hY:∀ (w:Ca) (h:Bw),YP w h->(K w.params).In h)
  (F:∀ (w:Ca) (mg:Au->Al Ac) (fa:Af) (h:Bw),(K w.params).In h->h.Ns Di mg->mg d.name=Ab (.ref fa) ->
   ∃ fd:Fx,(∀ (s:Ag) (u:Ac),Om s fd ⟨[u],[]⟩ [(x,u)])/\∀ base:Bw,(K w.params).In base->base.Ns Di mg->FnOk l.prog w (K w.params) mg base (CXd l.prog w) k fa fd [x] (sD (K w.params))) :
  AaI q loose XP YP l.row.toRowW d [] (λf vs=>x0 f vs):=
 _L.FL (n:=63) (k:=k) (x:=x) (CX:=λw=>CXd l.prog w) (sp:=λw=>sD (K w.params)) hn (by decide) hdf hr ht hY F (λ_ _ a ns hl hT hS=>⟨hT,a,ns,rfl,hS,hl,λ_=>rfl⟩) λw H s e s' h=>by
  obtain⟨_,_,_,_,_,_,_,_,_,_,_,_,z⟩:=h;exact z
end _D
namespace _D
open PySem
variable {us:Aa Ac}
theorem us0 (h:us.length=0):us=[]:=Pp h
theorem usS {n:Ai}(h:us.length=n+1):∃ a vs,us=a::vs/\vs.length=n:=by
 cases us with
 |nil=>exact absurd h (by simp)
 |cons a vs=>exact⟨a,vs,rfl,by simpa using h⟩
theorem us1 (h:us.length=1):∃ a,us=[a]:=by
 obtain⟨a,vs,rfl,h'⟩:=usS h;exact⟨a,by rw[us0 h']⟩
theorem us2 (h:us.length=2):∃ a b,us=[a,b]:=by
 obtain⟨a,vs,rfl,h'⟩:=usS h;obtain⟨b,rfl⟩:=us1 h';exact⟨a,b,rfl⟩
theorem us3 (h:us.length=3):∃ a b c,us=[a,b,c]:=by
 obtain⟨a,vs,rfl,h'⟩:=usS h;obtain⟨b,c,rfl⟩:=us2 h';exact⟨a,b,c,rfl⟩
end _D
namespace _D
open PySem PySem.Spec PyProof.Rows _L
variable {vs:Aa (Key × V)}{sc:Ey}
theorem K2 (F:DF):∃ G:DF,G=F:=⟨F,rfl⟩
def sh (F:DF):DF:=Md (K2 F)
theorem zI (F:DF):sh F=F:=Lp (K2 F)
noncomputable def isV:Al Ik->Ar
 |some .local => true
 |some .cell=>true
 |some .free=>true
 |_=>false
noncomputable def isL:Al Ik->Ar
 |some .local => true
 |some .cell=>true
 |_=>false
noncomputable def isG:Al Ik->Ar
 |some .globalImplicit=>true
 |_=>false
noncomputable def okN (x:Au):Ar:=!(x == ("__debug__" : Au))&&(!(x == ("__classdict__" : Au))&&!decide (x = "__name__"))
noncomputable def okG (X:Cx)(x:Au):Ar:=isG (X.env.kindOf x)&&okN x
noncomputable def okB (v:Ac)(x:Au):Ar:=decide (Ge x=Ab v)
noncomputable def nB (sc:Ey):Aa Au:=sc.names.filterMap λy=>if isL (Ab y.2) then Ab y.1 else none
noncomputable def yJ (sc:Ey):Aa Au:=(sc.names.filterMap λy=>if isL (Ab y.2)&&!(y.1 == (".0" : Au)) then Ab y.1 else none)++sc.names.filterMap λy=>if y.2 == .free then Ab y.1 else none
def Ck (b:Ar):Prop:=b=true
theorem ck {b:Ar}(h:b=true:=by kernel_rfl):Ck b:=h
structure DfS (F:DF)(P:Bg)(w:Ca)(K:Aj)(mg:Au->Al Ac)(base:Bw)(cm:Ar)(k:Ai)(x:Au)(n:Ai):Prop where
 get:Def P w K mg base cm k x n F
noncomputable def okT (X:Cx)(m:Ai)(x:Au):Ar:=decide (X.N[m]? = Ab x)&&(isL (X.env.scope.names.lookup x)&&(decide X.N.Nodup&&(X.fn x||decide (X.env.scope.names.lookup x=Ab .local))))
noncomputable def okP (X:Cx)(m:Ai)(x:Au):Ar:=decide (X.N[m]? = Ab x)&&decide (X.env.scope.names.lookup x=Ab .local)
noncomputable def dM (scX:Ey)(NX:Aa Au)(scope:Ey)(cap:Aa (Al Ai)):Ar:=
 decide (scope.kind=.function)&&(decide (∀ y∈scope.names,y.2=.local -> scope.names.lookup y.1=Ab .local)&&(decide (∀ y∈scope.names,y.2=.cell->scope.names.lookup y.1=Ab .cell)&&(decide (∀ y∈scope.names,y.2=.free->scX.names.lookup y.1=Ab .cell\/scX.names.lookup y.1=Ab .free)
 && (decide (∀ y∈scope.names,y.2=.free->scope.names.lookup y.1=Ab .free)&&(decide (cap.length=(yJ scope).length)&&(((cap.zip (yJ scope)).all λp=>match p.1 with|none=>true|some i=>NX[i]? == Ab p.2&&scope.names.lookup p.2 == Ab .free)&&decide (yJ scope).Nodup))))))
noncomputable def fnB (N P:Aa Au)(sc:Ey):Ar:=
 decide (sc.kind=.function)&&(decide (sc.isCoroutine=false)&&(decide (sc.isGenerator=false)&&(decide N.Nodup&&(decide (N.take P.length=P)&&(decide (∀ x∈P,sc.names.lookup x=Ab .local \/ sc.names.lookup x=Ab .cell)&&decide (∀ y∈sc.names,y.2≠.free))))))
theorem sU {scX:Ey}{NX:Aa Au}{scope:Ey}{cap:Aa (Al Ai)}(h:dM scX NX scope cap=true):CompSc scX NX scope (yJ scope) cap:=by
 simp only[dM,Bq,Cq] at h;obtain⟨a,b,c,d,e,f,g,k⟩:=h;exact⟨a,b,c,d,e,f,g,k⟩
theorem ZH {N P:Aa Au}(h:fnB N P sc=true):FnScope N P sc:=by
 simp only[fnB,Bq,Cq] at h;obtain⟨a,b,c,d,e,f,g⟩:=h;exact⟨a,b,c,d,e,f,g⟩
section
variable {X:Cx}{a b c e o elt tg iter:By}{ifs rest:Aa By}{f g:DS}{fa:DE}{f2:DI2}{dg:DG}{t:DT}{kk:DK}{gens grest:Aa DL}{scope:Ey}{cap:Aa (Al Ai)}{mm:Ar}{l q:Ai}{y z:Au}{G2':G2}{es:Aa By}{fA:DA}{x:Au}{p pos:Fc}{cm:Ar}{k n m:Ai}{F:DF}
theorem GQ (h:isV (sc.names.lookup x)=true):Vis sc x:=by
 unfold Vis
 revert h
 cases sc.names.lookup x with
 |none=>intro h;cases h
 |some y=>cases y <;> intro h <;> first|cases h;done|exact .inl rfl|exact .inr (.inl rfl)|exact .inr (.inr rfl)
theorem GO (h:isL (sc.names.lookup x)=true):_L.Loc sc x:=by
 unfold _L.Loc
 revert h
 cases sc.names.lookup x with
 |none=>intro h;cases h
 |some y=>cases y <;> intro h <;> first|cases h;done|exact .inl rfl|exact .inr rfl
theorem mW (h:okN x=true):(x == ("__debug__" : Au))=false/\(x == ("__classdict__" : Au))=false/\x ≠ "__name__":=by
 unfold okN at h;rw[Bq,Bq] at h;exact⟨by simpa using h.1,by simpa using h.2.1,by simpa using h.2.2⟩
theorem vR (h:okG X x=true):Gl X x/\(x == ("__debug__" : Au))=false/\x ≠ "__name__":=by
 have h:=(Bq _ _).mp h;refine⟨?_,(mW h.2).1,(mW h.2).2.2⟩;have z:=h.1;unfold Gl
 revert z
 cases X.env.kindOf x with
 |none=>intro z;cases z
 |some y=>cases y <;> intro z <;> first|cases z;done|rfl
theorem mY (h:okT X m x=true):X.N[m]? = Ab x/\_L.Loc X.env.scope x/\X.N.Nodup/\(X.fn x=true\/X.env.scope.names.lookup x=Ab .local):=by
 simp only[okT,Bq,Cq,Ub] at h;exact⟨h.1,GO h.2.1,h.2.2⟩
theorem mX (h:okP X m x=true):X.N[m]? = Ab x/\X.env.scope.names.lookup x=Ab .local:=by
 simp only[okP,Bq,Cq] at h;exact h
theorem E4 (h:Ck (okG X x)):Gl X x:=(vR h).1
theorem aV (h:Ck (decide (X.N[m]? = Ab x)&&(isV (X.env.scope.names.lookup x)&&okN x))):QE X (.Name x pos) (q9 m):=by
 unfold Ck at h;simp only[Bq,Cq] at h;exact DV m h.1 (GQ h.2.1) (mW h.2.2).1 (mW h.2.2).2.1
theorem aBt {nm:Ek}(h:Ck (okG X x))(hm:X.mg x=none)(hb:Ck (okB (.type nm) x)):QE X (.Name x pos) (dC (.ty nm)):=
 have h:=vR h
 BE h.1 hm (Ct hb) h.2.2 h.2.1
theorem aGi {v:An}(h:Ck (okG X x))(hm:∃ t,X.mg x=Ab (.int v t)):QE X (.Name x pos) (dC (.int v)):=
 have h:=vR h
 BF h.1 hm h.2.1
abbrev St1 (X:Cx)(e:By)(es:Aa By)(pos:Fc):Prop:=Bo (e::es) X.env=(false,eval e X.env)::Bo es X.env/\(Gw pos (Bo es X.env)).any (·.1)=false
theorem aN (G:DfS F X.prog X.w X.K X.mg X.base cm k x n)(hr:RoomC cm k X.A)(hF:Fn1 X)(h:Ck (okG X x))(ha:QA X (e::es) fA)(s:St1 X e es pos):QE X (.Call (.Name x p) (e::es) [] pos) (qE n F fA):=
 have h:=vR h
 qcN G.1 hr hF h.1 ha h.2.1 s.1 s.2
theorem aO (G:DfS F X.prog X.w X.K X.mg X.base cm k x n)(hr:RoomC cm k X.A)(h:Ck (okG X x))(ha:QA X (e::es) fA)(s:St1 X e es pos):QE X (.Call (.Name x p) (e::es) [] pos) (qE n (okO F) fA):=
 have h:=vR h
 qcO G.1 hr h.1 ha h.2.1 s.1 s.2
theorem aB {id:Ek}(hc:ZCall X (.builtin id) F)(h:Ck (okG X x))(hm:X.mg x=none)(hb:Ck (okB (.builtin id) x))(ha:QA X (e::es) fA)(s:St1 X e es pos):QE X (.Call (.Name x p) (e::es) [] pos) (qR F fA):=
 have h:=vR h
 U0 hc h.1 hm (Ct hb) ha h.2.2 h.2.1 s.1 s.2
theorem aT {T:Ek}(hc:ZCall X (.type T) F)(h:Ck (okG X x))(hm:X.mg x=none)(hb:Ck (okB (.type T) x))(ha:QA X (e::es) fA)(s:St1 X e es pos):QE X (.Call (.Name x p) (e::es) [] pos) (qR F fA):=
 have h:=vR h
 XX hc h.1 hm (Ct hb) ha h.2.2 h.2.1 s.1 s.2
theorem aC (S:Ck (dM X.env.scope X.N scope cap))(hc:X.calm=true)(hi:QI2 X tg iter f2)(hg:∀ cl C ex s₀ H₀,QG (qW X (yJ scope) scope cl C ex s₀ H₀) tg dg)(ht:∀ cl C ex s₀ H₀,QTs (qW X (yJ scope) scope cl C ex s₀ H₀) ifs t)
  (has:∀ g',(⟨tg,iter,ifs,0⟩::grest:Aa DL)[0+1]? = Ab g'->g'.is_async=0)
  (he:∀ cl C ex s₀ H₀,QK accL (qW X (yJ scope) scope cl C ex s₀ H₀) (λacc=>zV false elt (⟨tg,iter,ifs,0⟩::grest) scope pos 0 acc (qW X (yJ scope) scope cl C ex s₀ H₀).env) kk) (hs:∀ x,Ev iter X.env x=pure x) :
  QE X (.ListComp elt (⟨tg,iter,ifs,0⟩::grest) scope pos) (zA mm cap f2 dg t kk):=U2 hc (sU S) hi hg ht has he hs
theorem aCs {py spos:Fc}(hsw:Nw (.ListComp elt (⟨tg,iter,ifs,0⟩::grest) scope pos) (Ab (.Name y py)) spos.line X.env=pure true)(S:Ck (dM X.env.scope X.N scope cap))(hN:Ck (okT X m y))(hc:X.calm=true)(hi:QI2 X tg iter f2)(hg:∀ cl C ex s₀ H₀,QG (qW X (yJ scope) scope cl C ex s₀ H₀) tg dg)(ht:∀ cl C ex s₀ H₀,QTs (qW X (yJ scope) scope cl C ex s₀ H₀) ifs t)
  (has:∀ g',(⟨tg,iter,ifs,0⟩::grest:Aa DL)[0+1]? = Ab g'->g'.is_async=0)
  (he:∀ cl C ex s₀ H₀,QK accL (qW X (yJ scope) scope cl C ex s₀ H₀) (λacc=>zV false elt (⟨tg,iter,ifs,0⟩::grest) scope pos 0 acc (qW X (yJ scope) scope cl C ex s₀ H₀).env) kk) (hs:∀ x,Ev iter X.env x=pure x) :
  QS X (.Assign [.Name y py] (.ListComp elt (⟨tg,iter,ifs,0⟩::grest) scope pos) spos) (z0 (zA mm cap f2 dg t kk) (gNm m)):=
 have h:=mY hN
 U7 hc h.2.2.1 (sU S) hi hg ht has he h.1 h.2.1 h.2.2.2 hsw hs
theorem aNm (h:Ck (okT X m x)):QG X (.Name x pos) (gNm m):=
 have h:=mY h
 BJ h.2.2.1 h.1 h.2.1 h.2.2.2
theorem aSt {pos':Fc}(hs:Nw e (Ab (.Name x pos')) pos.line X.env=pure false)(he:QE X e fa)(h:Ck (okT X m x)):QS X (.Assign [.Name x pos'] e pos) (z0 fa (gNm m)):=
 have h:=mY h
 SK h.2.2.1 he h.1 h.2.1 hs h.2.2.2
theorem aAu {op:Oc}{pos':Fc}(h:Ck (okT X m x))(he:QE X e fa)(ho:ZIp X op G2'):QS X (.AugAssign (.Name x pos') op e pos) (b8 m G2' fa):=
 have h:=mY h
 SE h.2.2.1 he ho h.1 h.2.1 h.2.2.2
theorem aP2 {px py pt:Fc} {kt k2 pt2} (h:Ck (decide X.N.Nodup&&(okP X m x&&(okP X l y&&!decide (m=l))))) (hc:X.calm=true) (ha:QA X [a,b] fA)
  (hw:Mf [.Tuple [.Name x px,.Name y py] kt pt] (.Tuple [a,b] k2 pt2) X.env=pure (Ab [x,y])) (hs:Mi [.Tuple [.Name x px,.Name y py] kt pt] (.Tuple [a,b] k2 pt2) pos.line X.env=pure false) :
  QS X (.Assign [.Tuple [.Name x px,.Name y py] kt pt] (.Tuple [a,b] k2 pt2) pos) (gY m l fA):=by
 unfold Ck at h;simp only[Bq,Cq,Ny,Ip] at h;exact SI hc h.1 ha (mX h.2.1).1 (mX h.2.2.1).1 h.2.2.2 (mX h.2.1).2 (mX h.2.2.1).2 hw hs
theorem aRs {C:Af}{np cpos:Fc}(h:Ck (okG X x))(hc:X.calm=true)(hF:Fn1 X)(hm:∃ Ae,X.mg x=Ab (.ref C)/\fO X.K C Ae=true)(ha:QA X (e::rest) fA)(s:St1 X e rest cpos) :
  QS X (.Raise (Ab (.Call (.Name x np) (e::rest) [] cpos)) none pos) (kS (.ref C) fA):=
 have h:=vR h
 let ⟨_,hm,hx⟩:=hm
 U8 hc hF h.1 hm hx ha h.2.1 s.1 s.2
end
structure TxS (K:Aj)(mg:Au->Al Ac)(tp:Ai->Gd)(tab:Aa (Au × Ai × Aa Au))(bl:Aa Au)(clt plt:Aa (Au × Af))(cs:Aa Ac)(exl:Aa Af)(cst:Aa (Au × An)):Prop where
 src:∀ (j:Ai) {x:Au} {i:Ai} {ps:Aa Au},tab[j]? = Ab (x,i,ps)->Src K mg x (tp i) ps
 nb:∀ {x:Au},Ck (bl.contains x)->mg x=none
 cl:∀ {x:Au} {C:Af},clt.lookup x=Ab C->mg x=Ab (.ref C)/\Gv K (.ref C)=true
 rz:∀ {x:Au} {C:Af},plt.lookup x=Ab C->∃ Ae,mg x=Ab (.ref C)/\fO K C Ae=true
 ct:∃ C0,mg "FarError" = Ab (.ref C0)/\∀ c∈cs,Aa9 K c (.ref C0)=Ab true
 cls:ClsK K exl
 gi:∀ {x:Au} {v:An},cst.lookup x=Ab v->∃ t,mg x=Ab (.int v t)
section
variable {K:Aj}{mg:Au->Al Ac}{cm:Ar}{tp:Ai->Gd}{tab:Aa (Au × Ai × Aa Au)}{bl:Aa Au}{clt plt:Aa (Au × Af)}{cs:Aa Ac}{exl:Aa Af}{cst:Aa (Au × An)}{x:Au}{i m:Ai}{ps:Aa Au}{F:DF}{g:DS}
theorem dq (P:Bg)(w:Ca)(base:Bw)(k j:Ai)(T:TxS K mg tp tab bl clt plt cs exl cst)(hj:tab[j]? = Ab (x,i,ps))(h:Ck (fnB (nB (qK (tp i))) ps (qK (tp i))&&decide ((nB (qK (tp i))).length=m)))(hF:F=qL m g)
  (hb:∀ (f:Af) (cdv:Ac) (A:Bt) (outer:Aa Kc) (s:Ag) (H:Hp) (E:XK),fH K x cdv->RoomC cm k (A.deeper (Hc x (qK (tp i)) s.heap.objs.size f cdv)) ->
   QB (cxC cm P w K mg base (nB (qK (tp i))) x (qK (tp i)) f cdv A outer s H E) (zU (tp i)) g):DfS F P w K mg base cm (k+1) x ps.length:=by
 unfold Ck at h;simp only[Bq,Cq] at h;obtain⟨h,rfl⟩:=h;exact⟨hF▸AC (T.src j hj) (ZH h) rfl hb⟩
theorem dqP {P:Bg}{w:Ca}{base:Bw}(k j:Ai)(T:TxS K mg tp tab bl clt plt cs exl cst)(hj:tab[j]? = Ab (x,i,ps))(h:Ck (fnB (nB (qK (tp i))) ps (qK (tp i))&&decide ((nB (qK (tp i))).length=m)))
  (hb:∀ (f:Af) (cdv:Ac) (A:Bt) (outer:Aa Kc) (s:Ag) (H:Hp) (E:XK),fH K x cdv->RoomC cm k (A.deeper (Hc x (qK (tp i)) s.heap.objs.size f cdv)) ->
   QB (cxC cm P w K mg base (nB (qK (tp i))) x (qK (tp i)) f cdv A outer s H E) (zU (tp i)) g):sH P w K mg base cm (k+1) x ps (qL m g):=by
 unfold Ck at h;simp only[Bq,Cq] at h;obtain⟨h,rfl⟩:=h;exact RT (T.src j hj) (ZH h) rfl hb
end
theorem hv {a b:Prop}(f:a->b)(h:a):b:=f h
inductive SrcF (K:Aj)(x:Au)(st:Gd)(ps:Aa Au):Prop
 |mk {f:Af} {oc:Ac} {od an:Al Af} {osl:Ax (Al Ac)} {kV doc pm cdv ct:Ac} (a:Et K Di x=Ab (Ab (.ref f)))
  (l:K.lookup f=Ab ⟨oc,od,.func (Gu x x (y7 st) (zU st) (qK st) .none kV doc pm an cdv ct),osl⟩) (c:Ma K cdv x=true) (k:Gv K (.ref f)=true):SrcF K x st ps
def iB (K:Aj)(tp:Ai->Gd):Aa (Au × Ai × Aa Au)->Prop
 |[]=>Pc
 |(x,i,ps)::t=>SrcF K x (tp i) ps/\iB K tp t
def BdF (tp:Ai->Gd):Aa (Au × Ai × Aa Au)->Prop
 |[]=>Pc
 |(x,i,ps)::t=>(∀ (kV doc pm:Ac) (an:Al Af) (cdv ct:Ac) (us:Aa Ac),us.length=ps.length->f8 (Gu x x (y7 (tp i)) (zU (tp i)) (qK (tp i)) .none kV doc pm an cdv ct) ⟨us,[]⟩=pure (ps.zip us))/\BdF tp t
def i7 (K:Aj):Aa (Au × Af)->Prop
 |[]=>Pc
 |(x,C)::t=>Et K Di x=Ab (Ab (.ref C))/\i7 K t
def i8 (K:Aj):Aa (Au × An)->Prop
 |[]=>Pc
 |(x,v)::t=>(∃ k,Et K Di x=Ab (Ab (.int v k)))/\i8 K t
noncomputable def AK:Al (Al Ac)->Ar
 |some none=>true
 |_=>false
section
variable {K:Aj}{h:Bw}{mg:Au->Al Ac}{tp:Ai->Gd}
theorem aW (X:K.In h)(G:h.Ns Di mg):∀ (tab:Aa (Au × Ai × Aa Au)),iB K tp tab->BdF tp tab->∀ (j:Ai) {x:Au} {i:Ai} {ps:Aa Au},tab[j]? = Ab (x,i,ps)->Src K mg x (tp i) ps
 |[],_,_,_,_,_,_,e=>by cases e
 |(x,i,ps)::t,H,B,0,_,_,_,e=>by
  cases e;obtain⟨a,l,c,k⟩:=H.1;exact SY X G a l c k B.1
 |(x,i,ps)::t,H,B,j+1,_,_,_,e=>aW X G t H.2 B.2 j e
theorem wQ {β:Type}{p:Au->β->Prop}{x:Au}{C:β}:∀ {l:Aa (Au × β)},(∀ y∈l,p y.1 y.2)->l.lookup x=Ab C->p x C
 |[],_,e=>by cases e
 |(y,b)::t,H,e=>by
  rw[Kk] at e;cases q:x == y with
  |true =>
   rw[q] at e;cases e;rw[eq_of_beq q];exact H (y,_) (.head _)
  |false =>
   rw[q] at e;exact wQ (λz hz=>H z (.tail _ hz)) e
theorem bF (X:K.In h)(G:h.Ns Di mg):∀ {l:Aa (Au × Af)},i7 K l->∀ y∈l,mg y.1=Ab (.ref y.2)
 |(x,C)::t,H,y,hy=>by
  rcases Az.mp hy with rfl|hy
  .exact Wx X G H.1
  .exact bF X G H.2 y hy
theorem cI (X:K.In h)(G:h.Ns Di mg):∀ {l:Aa (Au × An)},i8 K l->∀ y∈l,∃ k,mg y.1=Ab (.int y.2 k)
 |(x,C)::t,H,y,hy=>by
  rcases Az.mp hy with rfl|hy
  .obtain⟨k,e⟩:=H.1
   exact⟨k,Wx X G e⟩
  .exact cI X G H.2 y hy
theorem C5 {tab:Aa (Au × Ai × Aa Au)}{bl:Aa Au}{clt plt:Aa (Au × Af)}{cs:Aa Ac}{exl:Aa Af}{cst:Aa (Au × An)}{far:Af}(B:BdF tp tab)(hp:∀ y∈plt,y∈clt)(hf:clt.lookup ("FarError" : Au)=Ab far)(X:K.In h)(G:h.Ns Di mg)
  (s:iB K tp tab) (z:(bl.all λx=>AK (Et K Di x))=true) (q:i7 K clt) (g:i8 K cst) (e1:exl.all (sS K)=true) (e2:WX K=true) (e3:MH K exl=true) (e4:AA K cs far=true) (e5:A8 K (plt.map (·.2)) far=true) (e6:A9 K (clt.map (·.2))=true):TxS K mg tp tab bl clt plt cs exl cst where
 src:=aW X G tab s B
 nb:=λ{x} hx=>by
  have e:=Cf.mp z x (by simpa using List.contains_iff_mem.mp hx)
  refine PySem.W.mg_none_of X G ?_
  revert e
  cases Et K Di x with
  |none=>intro e;cases e
  |some y=>cases y with
   |none=>intro _;rfl
   |some y=>intro e;cases e
 cl:=λh=>⟨wQ (p:=λx C=>mg x=Ab (.ref C)) (bF X G q) h,wQ (p:=λ_ C=>Gv K (.ref C)=true) (λy hy=>Cf.mp e6 y.2 (Qe hy)) h⟩
 rz:=λh=>⟨far,wQ (p:=λx C=>mg x=Ab (.ref C)) (λy hy=>bF X G q y (hp y hy)) h,wQ (p:=λ_ C=>fO K C far=true) (λy hy=>Cf.mp e5 y.2 (Qe hy)) h⟩
 ct:=⟨far,wQ (p:=λx C=>mg x=Ab (.ref C)) (bF X G q) hf,λv hv=>Ct (Cf.mp e4 v hv)⟩
 cls:=MI e1 e2 e3
 gi:=λh=>wQ (p:=λx v=>∃ k,mg x=Ab (.int v k)) (cI X G g) h
end
structure LamT where
 qual:Au
 params:Uu
 body:By
 scope:Ey
noncomputable def JH (sc:Ey):Aa Au:=sc.names.filterMap λy=>if y.2 == .free then Ab y.1 else none
inductive CloAt (h:Bw)(H:Hp)(fs:Aa Af)(L:LamT)(a:Af)(cv:Aa V):Prop
 |mk (cl:Aa (Au × Af)) (pm ctv:Ac) (c:Af) (oc:Cu) (ws:Ax Ac) (t:Ti) (o:h.get? a=Ab (PySem.W.kla_obj "<lambda>" L.qual L.params L.body L.scope cl pm c ctv)) (hc:H c=Ab (.frz oc (.frz oc (.own 0)))) (hd:oc.data=.fields ws) (ht:ws[1]? = Ab (.str L.qual t))
  (inj:∀ x y d,cl.lookup x=Ab d->cl.lookup y=Ab d->x=y) (cel:∀ x d,cl.lookup x=Ab d->H d=none/\∃ v,h.IsCell d v) (has:∀ x,L.scope.names.lookup x=Ab .free->∃ d,cl.lookup x=Ab d)
  (len:cv.length=(JH L.scope).length) (val:∀ (j:Ai) x v,(JH L.scope)[j]? = Ab x->cv[j]? = Ab v->∃ d u,cl.lookup x=Ab d/\qG v u/\h.IsCell d (Ab u)) (hn:H a=none) (hf:a ∉ fs):CloAt h H fs L a cv
theorem CloAt.at {X:Cx}{pins:Aa (Af × Cu)}{σ:_L.St}{H:Hp}{s:Ag}{L:LamT}{a:Af}{cv:Aa V}(C:CloAt X.s₀.heap X.H₀ X.fs L a cv)(F:Fn1 X)(I:Inv X pins σ H s):CloAt s.heap H (frs X.stack) L a cv:=by
 obtain⟨cl,pm,ctv,c,oc,ws,t,o,hc,hd,ht,inj,cel,has,len,val,hn,hf⟩:=C;have nx:∀ b,b ∉ X.ex:=λb=>by rw[F.1];simp
 have nf:∀ b o,X.s₀.heap.get? b=Ab o->b ∉ X.fs->b ∉ frs X.stack:=λb o e n z=>(F.mem.mp z).elim (Cw (Bh (Ba e) I.ok.above)) n;have kc:∀ d v,X.H₀ d=none->X.s₀.heap.IsCell d v->s.heap.IsCell d v:=λd v h1 ⟨o,e,q⟩=>let ⟨_,z⟩:=I.base.any e h1 (nx d);⟨_,z,q⟩
 refine⟨cl,pm,ctv,c,oc,ws,t,I.base.keep a _ o hn hf (nx a),I.base.frzs _ _ _ hc,hd,ht,inj,λx d e=>?_,has,len,λj x v e1 e2=>?_,I.base.free a _ o hn (nx a),nf a _ o hf⟩
 .obtain⟨h1,v,h3⟩:=cel x d e
  obtain⟨ob,e3,q⟩:=id h3;exact⟨I.base.free d ob e3 h1 (nx d),v,kc d v h1 h3⟩
 .obtain⟨d,u,q1,q2,q3⟩:=val j x v e1 e2
  exact⟨d,u,q1,q2,kc d _ (cel x d q1).1 q3⟩
theorem MOk.at {K:Aj}{H H' P:Hp}{α:Aa Af}{a:Af}(e:H' a=H a):∀ {o:MO},MOk K H P α a o->MOk K H' P α a o
 |.dead,_=>trivial
 |.lst _,⟨vs,q,r⟩=>⟨vs,e.trans q,r⟩
 |.dct _,⟨vs,q,r⟩=>⟨vs,e.trans q,r⟩
 |.ins _ _,⟨dx,vs,q,r⟩=>⟨dx,vs,e.trans q,r⟩
section
variable {X:Cx}{pins:Aa (Af × Cu)}{σ : _L.St}{H P:Hp}{α : Aa Af}{s:Ag}{S:Sto}{y:Au}{c T:Af}
theorem Inv.pinned {a:Af}{o:Cu}{h':Bw}{tk:Ai}{H':Hp}(I:Inv X pins σ H' { s with heap:=h'.push o,toks:=tk })(ha:a=h'.objs.size)(hs:s.heap.objs.size<=h'.objs.size)(I0:Inv X pins σ H s)(hn:H' a=none)(hd:∀ v,o.data≠.cell v)(hfr:o.isFreed=false:=by rfl):Inv X ((a,o)::pins) σ H' { s with heap:=h'.push o,toks:=tk }:=by
 refine I.pins_of λp hp=>?_;rcases Az.mp hp with rfl|hp
 .subst ha
  exact⟨Ay _ hfr,hn,Gf (Bh I0.lt hs),I0.nofs hs,hd⟩
 .exact I.pin p (Bu _ hp)
end
structure ClA (X:Cx)(L:LamT)(a:Af)(cv:Aa V):Prop where
 get:CloAt X.s₀.heap X.H₀ X.fs L a cv
section
variable {X:Cx}{cm nx:Ar}{k kl m n N i:Ai}{x y:Au}{p pos lpos:Fc}{e:By}{es:Aa By}{fA:DA}{fe:DE}{L:LamT}{G:Aa D->DF}{a:Af}{cv:Aa V}{g:(Aa D->DF)->Af->Aa V->DS}{Fs:FnL}{cap:Aa Ai}{params:Uu}{body:By}{scope:Ey}
theorem ClA.tr {E:Ac->Ag->Prop}{pn:Aa (Af × Cu)}(h:ClA X L a cv):ClA (Cx.tryIn X E pn) L a cv:=⟨h.1⟩
end
noncomputable def oS:D->Sto->Al (Aa D)
 |.lst xs,_=>Ab xs
 |.tup xs,_=>Ab xs
 |.loc n,S=>match S[n]? with
  |some (.lst xs)=>Ab xs
  |_=>none
 |_,_=>none
noncomputable def vP (mu:Ar)(f:DE):DE:=λenv S=>(f env S).bind λd S1=>match (oS d S1).bind jG with
 |some ys=>if mu then .ok (.loc S1.length) (S1++[.lst ys]) else .ok (.lst ys) S1
 |none=>.bad
section
variable {X:Cx}{pins:Aa (Af × Cu)}{σ : _L.St}{H P:Hp}{α : Aa Af}{S:Sto}{s:Ag}
theorem fF {K:Type}{is:K->Ac->Prop}{hash:K->An}{lt':K->K->Ar}{d:K}{Fit:K->Prop}(kd:_S.Kind X.prog X.w is hash lt' d Fit s.heap)(ad:_S.AddS X.prog X.w is hash s.heap)(hc:X.calm=true)(hu:X.A.units+64<Du)(I:Inv X pins σ H s)(r:Rel X.K H P α S){a:Af}{its:Aa Ac}
  (ha:s.heap.IsList a its.toArray\/s.heap.IsTuple a its.toArray) (ks:Aa K) (hl:ks.length=its.length) (hk:∀ i v,its[i]? = Ab v->is (ks.getD i d) v) (hn:(_S.srt lt' ks).length<=1000) (hf:∀ k∈ks,Fit k) (enc:K->D)
  (back:∀ k v,is k v->v∈its->∃ vv,qG vv v/\Rep X.K P α (enc k) vv) {E:Ac->Ag->Prop} :
  Ap (As X.prog X.w) X.A (call (.type "set") [.ref a]) (λu s1=>Ap (As X.prog X.w) X.A (call (.builtin "sorted") [u]) (NewR X pins σ H P α ((_S.srt lt' ks).map enc)) E s1) E s:=by
 have hsz:its.toArray.size=ks.length:=by rw[Bj,hl]
 have mem:∀ k,k∈_S.srt lt' ks↔k∈ks:=λk=>_S.vG kd.ord k ks;have inn:∀ i,i<ks.length->ks.getD i d∈ks:=λi hi=>by simp[Im,hi]
 refine _S.iJ (U:=_S.srt lt' ks) ad (I.ok.hd hc) li ha (λi=>ks.getD i d) (λi v hv=>hk i v (by simpa using hv)) li (λi hi=>(mem _).mpr (inn i (by rw[<- hsz];exact hi))) λh1 tk1 Z kp=>?_
 have seen:∀ k∈_S.y8 (λi=>ks.getD i d) its.toArray.size,k∈ks:=λk hk'=>by
  obtain⟨i,hi,rfl⟩:=_S.jS.mp hk';exact inn i (by rw[<- hsz];exact hi)
 have I1:Inv X pins σ H { s with heap:=h1,toks:=tk1 }:=I.kept kp
 refine _S.oX (s:={ s with heap:=h1,toks:=tk1 }) kd (I.ok.hd hc) li kp Z (λk hk'=>hf k (seen k hk')) (U:=_S.srt lt' ks) li (λk hk'=>(mem k).mpr (seen k hk')) λh2 tk2 D c ps kp2 hD hob hps hp hpl=>?_
 rw[hsz,US kd.ord] at hps;have vv:∀ (ps:Aa (K × Ac)),(∀ p∈ps,is p.1 p.2/\p.2∈its)->∃ vs,qJ vs (ps.map (·.2))/\qC X.K P α ((ps.map (·.1)).map enc) vs:=by
  intro ps
  induction ps with
  |nil=>exact λ_=>⟨[],.nil,.nil⟩
  |cons p ps ih =>
   intro h;obtain⟨vs,a1,a2⟩:=ih λq hq=>h q (by simp[hq])
   obtain⟨v,b1,b2⟩:=back p.1 p.2 (h p (by simp)).1 (h p (by simp)).2
   exact⟨v::vs,.cons b1 a1,.cons b2 a2⟩
 obtain⟨vs,a1,a2⟩:=vv ps λp hpm=>by simpa using hp p hpm
 rw[hps] at a2;have nd:([(D,HO.lst vs)].map (·.1)).Nodup:=by simp
 have I2:Inv X pins σ (kA H [(D,HO.lst vs)]) { s with heap:=h2,toks:=tk2 }:=Inv.laidL (s:={ s with heap:=h1,toks:=tk1 }) (L:=[(D,HO.lst vs)]) (t':=tk2) I1 kp2 (λp hpm=>by
  have:p=(D,HO.lst vs):=by simpa using hpm
  subst this;exact hD) λp hpm=>by
  have:p=(D,HO.lst vs):=by simpa using hpm
  subst this;refine⟨?_,ps.map (·.2),c,a1,hob⟩
  have:=a1.length;rw[Ak] at this;rw[this,Fp]
  lia
 exact⟨D,vs,rfl,I1.hok.fresh hD,I2,a2⟩
set_option tactic.hygienic true in
theorem F5 {d:D}{xs:Aa D}{v:V}{vv:Ac}(I:Inv X pins σ H s)(r:Rel X.K H P α S)(p:Rep X.K P α d v)(q:qG v vv)(h:oS d S=Ab xs) :
  ∃ a vs its,vv=.ref a/\qC X.K P α xs vs/\qJ vs its/\(s.heap.IsList a its.toArray\/s.heap.IsTuple a its.toArray)/\xs.length=its.length:=by
 cases d with
 |lst ys=>exact eG I r p q h
 |tup ys=>exact eG I r p q h
 |loc n =>
  have hS:S[n]? = Ab (.lst xs):=by
   have h:(match S[n]? with|some (.lst xs)=>Ab xs|_=>none)=Ab xs:=h
   split at h
   .rename_i e;cases h;exact e
   .cases h
  simp only[Rep] at p;obtain⟨a,rfl,ha⟩:=p;cases (show vv=Dh a from q)
  obtain⟨vs,z,t⟩:=r.at' n a _ ha hS;obtain⟨its,rv,p,hz⟩:=I.list (SqL.of z);exact⟨a,vs,its,rfl,t,rv,.inl p.isList,by rw[t.length,rv.length]⟩
 |_=>cases h
end
section
variable {X:Cx}{e:By}{fa:DE}{p1 p2 pos1 pos2:Fc}{mu:Ar}
set_option tactic.hygienic true in
theorem eY (hc:X.calm=true)(hu:X.A.units+64<Du)(hg:Gl X "sorted")(hm:X.mg "sorted" = none)(hg2:Gl X "set")(hm2:X.mg "set" = none)(ha:PE X e (tD X fa))(he:Bo [e] X.env=(false,eval e X.env)::Bo [] X.env:=by rfl) :
  PE X (.Call (.Name "sorted" p1) [.Call (.Name "set" p2) [e] [] pos2] [] pos1) (tD X (vP mu fa)):=by
 intro pins s σ H Q I h;obtain⟨P,α,env,S,r,re,af⟩:=h;refine Jf (v7 I hg hm QH ?_);refine Pb ?_ rfl rfl;refine Qs ?_;refine Call_ (v7 I hg2 hm2 WR (Hk ?_ he rfl));rw[he];refine Qs (thn (zO ha I r re af) λvv s1 ⟨v,H1,P1,α1,d,S1,G1,af1⟩=>Ro ?_);cases hq:(oS d S1).bind jG with
 |none=>simp only[hq] at af1;exact Aq af1
 |some ys =>
   simp only[hq] at af1;obtain⟨xs,hd,hs⟩:=Fj.mp hq;obtain⟨a,vs,its,rfl,t1,rv1,e1,l1⟩:=F5 G1.inv G1.rel G1.rep G1.val hd;have main:Ap (As X.prog X.w) X.A (call (.type "set") [.ref a]) (λu s1=>Ap (As X.prog X.w) X.A (call (.builtin "sorted") [u]) (NewR X pins σ H1 P1 α1 ys) X.xe s1) X.xe s1:=by
    unfold jG at hs;cases hi:x9 xs with
    |some ns =>
     rw[hi] at hs;dsimp only at hs
     split at hs
     .rename_i hlt
      cases hs;have:=j7 hi;subst this;have:=yS t1;subst this;refine fF (d:=0) (_S.JM X.prog X.w s1.heap) (_S.M0 s1.heap) hc hu G1.inv G1.rel e1 ns (by simpa using l1) (λi u hu'=>?_) hlt (λ_ _=>trivial) D.int λk u hk _=>?_
      .have hi:Fw its ns:=by simpa using gJ rv1
       obtain⟨t,rfl⟩:=Qn hi i u hu';exact Wr _ _ _ _
      .obtain⟨t,rfl⟩:=_S.wB hk
       exact⟨.int k,⟨t,rfl⟩,by simp only[Rep]⟩
     .cases hs
    |none =>
     rw[hi] at hs;dsimp only at hs;cases ht:w8 xs with
     |none=>rw[ht] at hs;cases hs
     |some ks =>
      rw[ht] at hs;dsimp only at hs
      split at hs
      .rename_i hlt
       cases hs;have hlt':=Gj.mp hlt;have:=fZ ht;subst this;have at':∀ (i:Ai) (u:Ac),its[i]? = Ab u->∃ b,u=.ref b/\Pz (Bk X.prog X.w) s1.heap (ks.getD i []) b/\∃ vv,qG vv u/\Rep X.K P1 α1 (tpD (ks.getD i [])) vv:=λi u hu'=>by
        have hii:i<its.length:=(Bi.mp hu').1;have hik:i<ks.length:=by rw[Ak] at l1;lia
        obtain⟨v,p,q,_⟩:=w5 t1 rv1 (j:=i) (by rw[Bj];exact hii)
        have hd:(ks.map tpD).getD i D.non=tpD (ks.getD i []):=by simp[Im,hik]
        rw[hd] at p;have hu2:its.toArray[i]'(by rw[Bj];exact hii)=u:=by
         rw[Ao hii] at hu';simpa using hu'
        rw[hu2] at q;obtain⟨b,ws,us,rfl,sq,t,rv,⟨o,ho,hcl,m,hd⟩,_,_⟩:=wW G1.inv G1.rel (show Rep X.K P1 α1 (.tup ((ks.getD i []).map D.int)) v from p)
        cases (show u=Dh b from q)
        have:=yS t;subst this;exact⟨b,rfl,⟨o,us.toArray,m,ho,hcl,hd,by simpa using tZ rv⟩,.ref b,rfl,p⟩
       refine fF (d:=[]) (_S.JN X.prog X.w s1.heap) (_S.M1 s1.heap) hc hu G1.inv G1.rel e1 ks (by simpa using l1) (λi u hu'=>?_) (Ct hlt'.1) (λk hk=>?_) tpD λk u hk hm'=>?_
       .obtain⟨b,rfl,q,_⟩:=at' i u hu'
        exact⟨b,rfl,q⟩
       .have:=Cf.mp hlt'.2 k hk
        intro z;subst z;cases this
       .obtain⟨i,hi',rfl⟩:=Cs.mp hm'
        obtain⟨b,eb,q,w,rw',pw⟩:=at' i _ (Ao hi');have:k=ks.getD i []:=_S.isT.inj hk ⟨b,eb,q⟩;rw[this];exact⟨w,rw',pw⟩
      .cases hs
   refine thn main λu s2 h2=>Ro (thn h2 λu' s3 ⟨D,vs',e,hn,I',rp'⟩=>?_);subst e;cases mu with
   |true=>exact⟨.ref D,_,I',rfl,nH G1.rel hn rp' λv' H' P' α' r' e1 e2 rp=>af1 v' H' P' α' r' (G1.same.trans e1) (G1.pre.trans e2) rp⟩
   |false=>exact⟨.ref D,_,I',rfl,yM G1.rel hn rp' λv' H' P' α' r' e1 e2 rp=>af1 v' H' P' α' r' (G1.same.trans e1) (G1.pre.trans e2) rp⟩
end
section
variable {X:Cx}{cm:Ar}{k:Ai}{e:By}{fa:DE}{p1 p2 pos1 pos2:Fc}{mu:Ar}
theorem hX (hc:X.calm=true)(hr:RoomC cm k X.A)(hg:Gl X "sorted")(hm:X.mg "sorted" = none)(hg2:Gl X "set")(hm2:X.mg "set" = none)(ha:QE X e fa)(he:Bo [e] X.env=(false,eval e X.env)::Bo [] X.env:=by rfl) :
  QE X (.Call (.Name "sorted" p1) [.Call (.Name "set" p2) [e] [] pos2] [] pos1) (vP mu fa):=⟨eY hc hr.units hg hm hg2 hm2 ha.1 he⟩
end
noncomputable def Iti (a:Af)(o:Cu)(vs:Aa (Key × V)):It:=
 ⟨λi H=>(∃ u,H a=Ab (.frz o u))/\i<vs.length,λi H v H'=>∃ T q,v=.ref T/\H T=none/\H'=upd H T (.tup [kV q.1,q.2])/\vs[i]? = Ab q,λi H=>(∃ u,H a=Ab (.frz o u))/\vs.length<=i⟩
theorem Q1 {P:Bg}{w:Ca}{K:Aj}{elts:Aa By}{x1:Ai}{tpos:Fc}{a it:Af}{o:Cu}{us:Aa (Key × Ac)}{ep:Ai}(kv:KV vs us)(at':∀ h:Bw,h.get? a=Ab o->h.DictAt (zK P w) a us ep) :
  Turn P w K (.Tuple elts x1 tpos) (Iti a o vs) [it] it (λi h=>∃ ok ov,IsItemIter h it a i us.length ep ok ov) where
 mem:=by simp
 obj:=λi h st b hb=>by
  have e:b=it:=by simpa using hb
  subst e;obtain⟨ok,ov,e⟩:=st;exact⟨_,e,λv z=>by cases z⟩
 keep:=λi h h' st k=>by
  obtain⟨ok,ov,e⟩:=st;exact⟨ok,ov,k it (by simp) _ e⟩
 item:=by
  intro X hP hw hK hc i pins s σ H E I hf st hg;subst hP hw hK;obtain⟨⟨u0,hu⟩,hlt⟩:=hg;obtain⟨ok,ov,st⟩:=st;have ho:s.heap.get? a=Ab o:=(I.hok a _ hu).1;obtain⟨u,e1,e2⟩:=ZU kv (Ao hlt);refine wpAny_pyNext_items_item st (at' _ ho) e1 λkey h' hk a1 a2 a3 a4=>?_;refine⟨_,rfl,wpAny_letOwnedTupleGo_items (s:={ s with heap:=h' }) a1 λh2 b1 b2=>?_⟩
  have up:∀ c o,c≠it->h'.get? c=Ab o->h2.get? c=Ab o:=λc o n q=>(b2.2 c n).trans q;have el:it<s.heap.objs.size:=Ba st;have T2:=up _ _ (Gf el) a2;refine⟨.ref s.heap.objs.size,upd H s.heap.objs.size (.tup [kV (vs[i]).1,(vs[i]).2]),?_,rfl,⟨_,vs[i],rfl,I.hok.fresh (Av _),rfl,Ao hlt⟩,⟨_,_,b1⟩,λc hc=>?_⟩
  .have:=Inv.turnLay (s:=s) (fp:=[it]) (its:=[key,u]) (h':=h2) (xs:=[kV (vs[i]).1,(vs[i]).2]) I hf (λc o hc q=>by
    have hc:c≠it:=by simpa using hc
    exact up c o hc (a4 c o hc q)) (λc hc=>by
    have:c=it:=by simpa using hc
    subst this;exact⟨_,b1⟩) (Av _) (.cons (E9 hk) (.cons e2 .nil)) ⟨_,T2,rfl,_,rfl⟩ (by show 2<=sizeLine;decide)
   exact this
  .have hn:=(hf c hc).1
   rw[qP ?_]
   .exact hn
   .rintro rfl
    have:s.heap.objs.size=it:=by simpa using hc
    rw[this] at el;exact absurd el (Ei _)
 done:=by
  intro X hP hw hK hc i pins s σ H E I hf st hg;subst hP hw hK;obtain⟨⟨u0,hu⟩,hle⟩:=hg;obtain⟨ok,ov,st⟩:=st;have ho:s.heap.get? a=Ab o:=(I.hok a _ hu).1;obtain⟨f0,f1,f2,f3,f4,f5⟩:=hf it (by simp)
  have hl:=kv.length;exact wpAny_pyNext_items_end (I.ok.hd hc) st (at' _ ho) (by simp;lia) λh' eb=>⟨rfl,I.turned (t':=s.toks) (λb o hb e=>eb b o hb e) f0 f1 f3 f4 f5⟩
 self:=λ_ _ _ _ _ st h=>by
  obtain⟨ok,ov,st⟩:=st;exact PySem.W.kcp_self st h
noncomputable def n6 (kvs:Aa (Key × D)):Aa D:=kvs.map λp=>D.tup [kD p.1,p.2]
noncomputable def mE (f:DE):DI:=λenv S=>(f env S).bind λd S1=>match d with
 |.loc n=>match S1[n]? with
  |some (.dct kvs)=>.ok (n6 kvs) (S1.set n .dead)
  |_=>.bad
 |_=>.bad
theorem cU {K:Aj}{P:Hp}{α:Aa Af}:∀ {kvs:Aa (Key × D)} {vs:Aa (Key × V)},KVs K P α kvs vs->∀ {i:Ai} {q:Key × D},kvs[i]? = Ab q->∃ v,vs[i]? = Ab (q.1,v)/\Rep K P α q.2 v
 |_,_,.nil,i,q,h=>by simp at h
 |_,_,.cons (a:=x) (b:=y) z t,i,q,h=>by
  cases i with
  |zero =>
   simp at h;subst h;exact⟨y.2,by simp;exact WP z.1.symm rfl,z.2⟩
  |succ i =>
   obtain⟨v,e1,e2⟩:=cU t (i:=i) (q:=q) (by simpa using h)
   exact⟨v,by simpa using e1,e2⟩
theorem ZO {K:Aj}{P:Hp}{α:Aa Af}{a:Af}{o:Cu}{u:HO}{kvs:Aa (Key × D)}(q:P a=Ab (.frz o u))(t:KVs K P α kvs vs)(hl:kvs.length=vs.length):ItD K (Iti a o vs) P α (n6 kvs) where
 go:=λi H P1 α1 S hi r e _=>⟨⟨u,r.sub _ _ (e _ _ q)⟩,by unfold n6 at hi;rw[Ak] at hi;lia⟩
 yld:=λi H x H' P1 α1 S hi r e e2 y=>by
  obtain⟨T,p,rfl,hT,rfl,hp⟩:=y;unfold n6 at hi;rw[Ak] at hi;obtain⟨v,h1,h2⟩:=cU t (Ao hi);rw[hp] at h1;cases h1;obtain⟨r1,s1⟩:=r.pure (o:=.tup [kV (kvs[i]).1,v]) hT;refine⟨_,.tup [kD (kvs[i]).1,(kvs[i]).2],?_,r1,s1,?_⟩
  .unfold n6;rw[Dy,Ao hi];rfl
  .exact bU (.of zD) (.cons (ND _) (.cons (Rep.mono (e.trans s1) e2 _ _ h2) .nil))
 stop:=λi H P1 α1 S hi r e _=>⟨⟨u,r.sub _ _ (e _ _ q)⟩,by unfold n6 at hi;rw[Ak] at hi;lia⟩
section
variable {X:Cx}{o:By}{fo:DE}{apos cpos:Fc}{elts:Aa By}{x1:Ai}{tpos:Fc}
set_option tactic.hygienic true in
theorem YA (ho:PE X o (tD X fo))(hbase:Mm o "items" X.env (eval o X.env)=eval o X.env:=by rfl)(hline:(apos.endLine == cpos.line)=true:=by rfl):PI X (.Tuple elts x1 tpos) (.Call (.Attribute o "items" apos) [] [] cpos) (tDI X (mE fo)):=by
 intro pins s σ H R I h;obtain⟨P,α,env,S,r,re,af⟩:=h;refine To hbase hline (thn (zO ho I r re af) λvv s1 ⟨v,H1,P1,α1,d,S1,G1,af1⟩=>?_);cases d with
 |loc n =>
  simp only at af1
  split at af1
  .rename_i kvs hS
   have rp:=G1.rep;have I1:=G1.inv;have r1:=G1.rel;have ht:tyD (.loc n) S1=Ab "dict":=eQ hS;obtain⟨h1,h2⟩:=eO I1 G1.val (eP r1 rp ht (by simp))
   simp only[Rep] at rp;obtain⟨a,rfl,ha⟩:=rp;cases (show vv=Dh a from G1.val)
   obtain⟨vs,z,t⟩:=r1.at' n a _ ha hS;obtain⟨hz,hd,us,rel,dd⟩:=dP I1.hok z;refine⟨"dict","dict.items",Ks,Tv,PySem.F.type_dict_items,h1,h2,Od rfl (Wn ?_)⟩;refine XV Tv dd.typeIs PySem.F.entry_dict_items (PySem.F.args_dict_items_1 _) (meets_dict_items (zK X.prog X.w) a hd) ⟨⟨us,dd⟩,?_⟩;obtain⟨ep,oa,es,hoa,rest⟩:=dd.dictAt;have at':∀ h:Bw,h.get? a=Ab oa->h.DictAt (zK X.prog X.w) a us ep:=λh e=>⟨oa,es,e,rest⟩;obtain⟨r2,e2⟩:=r1.still (o:=.frz oa (.dK vs)) ha hS (by intro q;cases q)
   have I2:Inv X pins σ (upd H1 a (.frz oa (.dK vs))) { s1 with heap:=s1.heap,toks:=s1.toks }:=I1.write (x:=a) (e:=a) (by rw[z];exact Iu) (.inl rfl) (λb q hb e=>e) ⟨oa,hoa⟩ ⟨hoa,hz,hd,us,rel,dd⟩
   have I3:=I2.kept (t':=s1.toks) (h':=s1.heap.push { cls:=.type "dict_items",data:=.fields #[.ref a] }) λb u e=>Ah _ e;refine wpAny_pyIter_items (s:={ s1 with heap:=s1.heap.push { cls:=.type "dict_items",data:=.fields #[.ref a] } }) (knd:=zK X.prog X.w) (d:=a) (kvs:=us) (ep:=ep) ⟨_,Ay _ rfl,rfl,rfl⟩ (at' _ (Ah _ hoa)) ?_
   have I4:=I3.kept (t':=s1.toks) (h':=(s1.heap.push { cls:=.type "dict_items",data:=.fields #[.ref a] }).push { cls:=.type "dict_itemiterator",data:=.fields #[.none,.bool false,.ref a,.int 0 0,.int us.length 0,.int ep 0,.none,.none] }) λb u e=>Ah _ e;refine⟨_,[_],_,_,_,rfl,I4,Q1 rel at',⟨_,_,Ay _ rfl⟩,λb hb=>?_,af1 _ _ _ α1 r2 (G1.same.trans e2) G1.pre (ZO (u:=.dK vs) zD (KVs.mono e2 (Be _) t) (by have:=n8 t;have:=this.length;simpa using this))⟩
   have e:b=(s1.heap.push { cls:=.type "dict_items",data:=.fields #[.ref a] }).objs.size:=by simpa using hb
   subst e;exact I3.fpOk (Av _) (I3.hok.fresh (Av _))
  .exact Aq af1
 |_=>exact Aq af1
theorem U5 (ho:QE X o fo)(hbase:Mm o "items" X.env (eval o X.env)=eval o X.env:=by rfl)(hline:(apos.endLine == cpos.line)=true:=by rfl):QI X (.Tuple elts x1 tpos) (.Call (.Attribute o "items" apos) [] [] cpos) (mE fo):=⟨YA ho.1 hbase hline⟩
noncomputable def uI:G2:=λa b S=>match a,b with
 |.bl x,.bl y=>.ok (.bl (x != y)) S
 |_,_=>.bad
theorem XM:OpD X (Cc .IsNot) uI:=by
 intro pins σ H s P α S v u vv uu a b Q I r rv ru pa pb af;cases a with
 |bl x =>
  cases b with
  |bl y =>
   simp only[Rep] at pa pb;subst pa pb;cases (show vv=Ig x from rv)
   cases (show uu=Ig y from ru)
   have h:EP X pins σ Q (.bool (x != y)) s:=⟨.bl _,H,I,rfl,xr af r (by simp only[Rep])⟩
   cases x <;> cases y <;> exact Am h
  |_=>exact Aq af
 |_=>exact Aq af
theorem UZ:ZOp X (Cc .IsNot) uI:=⟨XM⟩
end
end _D
section
namespace _D
open PySem PySem.Spec PyProof.Rows _L
mutual
noncomputable def u9:D->Aa An
 |.int n=>[1,n]
 |.tup xs=>2::zM xs
 |_=>[]
noncomputable def zM:Aa D->Aa An
 |[]=>[0]
 |x::xs=>u9 x++zM xs
end
mutual
noncomputable def vC:D->D->Ar
 |.int _,.int _=>true
 |.tup xs,.tup ys=>jO xs ys
 |_,_=>false
noncomputable def jO:Aa D->Aa D->Ar
 |x::xs,y::ys=>vC x y&&jO xs ys
 |_,_=>true
end
noncomputable def ltN (a b:D):Ar:=_H.lexLt (u9 a) (u9 b)
noncomputable def trb:Ai->D->Ar
 |_,.int _=>true
 |n+1,.tup xs=>xs.all (trb n)
 |_,_=>false
inductive Tr:Ai->D->Prop
 |int (n:Ai) (i:An):Tr n (.int i)
 |tup (n:Ai) (xs:Aa D) (h:∀ x∈xs,Tr n x):Tr (n+1) (.tup xs)
theorem bG {n:Ai}{d:D}(h:Tr n d):∃ k r,u9 d=k::r/\0<k:=by
 cases h with
 |int _ i=>exact⟨1,[i],rfl,by decide⟩
 |tup n xs=>exact⟨2,zM xs,rfl,by decide⟩
theorem wZ (x:D)(xs:Aa D):zM (x::xs)=u9 x++zM xs:=rfl
theorem lS:∀ {xs ys:Aa D} {n m:Ai},(∀ x∈xs,Tr n x)->(∀ y∈ys,Tr m y)->(∀ x∈xs,∀ y∈ys,vC x y=true->∀ r r':Aa An,_H.lexLt (u9 x++r) (u9 y++r')=if eqD x y=true then _H.lexLt r r' else ltN x y)->jO xs ys=true ->
  ∀ r r':Aa An,_H.lexLt (zM xs++r) (zM ys++r')=if xF xs ys=true then _H.lexLt r r' else _H.lexLt (zM xs) (zM ys)
 |[],[],_,_,_,_,_,_,r,r'=>rfl
 |[],y::ys,_,_,_,h2,_,_,r,r'=>by
  obtain⟨k,t,e,p⟩:=bG (h2 y (by simp))
  rw[Bf (by intro z;cases z),wZ,e]
  show _H.lexLt (0::r) (k::_)=_H.lexLt [0] (k::_);rw[_H.lexLt_cons,_H.lexLt_cons,Bf om,Bf om]
 |x::xs,[],_,_,h1,_,_,_,r,r'=>by
  obtain⟨k,t,e,p⟩:=bG (h1 x (by simp))
  rw[Bf (by intro z;cases z),wZ,e]
  show _H.lexLt (k::_) (0::r')=_H.lexLt (k::_) [0];rw[_H.lexLt_cons,_H.lexLt_cons,Bf om,Bf om]
 |x::xs,y::ys,_,_,h1,h2,h3,hc,r,r'=>by
  have hc':(vC x y&&jO xs ys)=true:=hc;rw[Bq] at hc';have ih:=lS (λz hz=>h1 z (by simp[hz])) (λz hz=>h2 z (by simp[hz])) (λz hz y' hy=>h3 z (by simp[hz]) y' (by simp[hy])) hc'.2
  rw[wZ,wZ,Ch,Ch,h3 x (by simp) y (by simp) hc'.1,h3 x (by simp) y (by simp) hc'.1,ih,lJ]
  cases eqD x y <;> cases xF xs ys <;> simp
theorem VE {n:Ai}{a:D}(ha:Tr n a):∀ {m:Ai} {b:D},Tr m b->vC a b=true->∀ r r':Aa An,_H.lexLt (u9 a++r) (u9 b++r')=if eqD a b=true then _H.lexLt r r' else ltN a b:=by
 induction ha with
 |int n i =>
  intro m b hb hc r r';cases hb with
  |int _ j =>
   show _H.lexLt (1::i::r) (1::j::r')=if (i == j)=true then _ else _H.lexLt [1,i] [1,j]
   simp only[_H.lexLt_cons,Ds,Wm]
   split <;> rfl
  |tup _ ys=>exact Dv hc
 |tup n xs hx ih =>
  intro m b hb hc r r';cases hb with
  |int _ j=>exact Dv hc
  |tup m ys hy =>
   have h:=lS hx hy (λx hx' y hy' hc'=>ih x hx' (hy y hy') hc') hc r r';show _H.lexLt (2::(zM xs++r)) (2::(zM ys++r'))=if xF xs ys=true then _ else _H.lexLt (2::zM xs) (2::zM ys)
   rw[_H.lexLt_cons,_H.lexLt_cons,Bd rfl,Bd rfl,h]
theorem nE {xs ys:Aa D}:ltN (.tup xs) (.tup ys)=_H.lexLt (zM xs) (zM ys):=by
 show _H.lexLt (2::_) (2::_)=_;rw[_H.lexLt_cons,Bd rfl]
theorem vQ {n m:Ai}{x y:D}{xs ys:Aa D}(hx:Tr n x)(hy:Tr m y)(hc:vC x y=true):_H.lexLt (zM (x::xs)) (zM (y::ys))=if eqD x y=true then _H.lexLt (zM xs) (zM ys) else ltN x y:=VE hx hy hc _ _
set_option tactic.hygienic true in
theorem nD (i j:An):ltN (.int i) (.int j)=decide (i<j):=by
 show _H.lexLt [1,i] [1,j]=_;rw[_H.lexLt_cons,Bd rfl,_H.lexLt_cons]
 split
 .rename_i h;subst h;simp[_H.lexLt_nil_nil]
 .rfl
theorem TY {n:Ai}{a:D}(ha:Tr n a):eqD a a=true:=by
 induction ha with
 |int n i=>show (i == i)=true;simp
 |tup n xs _ ih =>
  show xF xs xs=true;rw[wM];simp only[Tl,BEq.rfl,AaF,Cf,Do];intro j hj;exact ih _ (by simp[Im,hj])
theorem g9:∀ {xs ys:Aa D},jO xs ys=true->∀ {j:Ai} {x y:D},xs[j]? = Ab x->ys[j]? = Ab y->vC x y=true
 |[],_,_,j,x,y,e,_=>by simp at e
 |_::_,[],_,j,x,y,_,e=>by simp at e
 |a::xs,b::ys,h,j,x,y,e1,e2=>by
  have h':(vC a b&&jO xs ys)=true:=h;rw[Bq] at h';cases j with
  |zero=>cases e1;cases e2;exact h'.1
  |succ j=>exact g9 h'.2 (j:=j) (by simpa using e1) (by simpa using e2)
end _D
end
namespace _D
open PySem PySem.Spec PyProof.Rows _L PySem.SeqAt
variable {n:Ai}{h:Bw}
def iA (A:Bt)(s:Ag)(u v:Ac)(c:Ar):Prop:=∀ (prog:Bg) (w:Ca) (E:Ac->Ag->Prop) (Q:Ac->Ag->Prop),Q (.bool c) s->Ap (As prog w) A (Qx .Lt u v) Q E s
inductive LexV (A:Bt)(s:Ag):Aa Ac->Aa Ac->Ar->Prop
 |nn:LexV A s [] [] false
 |nc (v:Ac) (vs:Aa Ac):LexV A s [] (v::vs) true
 |cn (u:Ac) (us:Aa Ac):LexV A s (u::us) [] false
 |eq (u v:Ac) (us vs:Aa Ac) (b:Ar) (he:EqAt A s u v true) (h:LexV A s us vs b):LexV A s (u::us) (v::vs) b
 |ne (u v:Ac) (us vs:Aa Ac) (b:Ar) (he:EqAt A s u v false) (h:iA A s u v b):LexV A s (u::us) (v::vs) b
section
open PySem.SeqAt
open PySem.AutoSeq1 (wpAny_loadPart')
open PySem.MeetsSeq PySem.MeetsSeq2 PySem.MeetsSeq3
theorem oZ (l b:Af)(items items2:Ax Ac)(n n2:Ai)(dd dd2:Al Af)(sl sl2:Ax (Al Ac))(r:Ar) :
  Meets (Ih.«tuple.__lt__» ⟨[.ref l,.ref b],[]⟩)
   (λA R s=>s.heap.get? l=Ab { cls:=.type "tuple",dict:=dd,data:=.seq items n,slots:=sl } /\ s.heap.get? b=Ab { cls:=.type "tuple",dict:=dd2,data:=.seq items2 n2,slots:=sl2 } /\
    LexV A.in1 s items.toList items2.toList r/\R (.ok (.ret (.bool r))) s):=
 .of_wp λprog w A R s h=>by
  obtain⟨hp,g,d,tk,os⟩:=s;obtain⟨hl,hb,hx,h⟩:=h;have f2:=Ke
  wp_walk using wpAny_loadPart' hl,wpAny_loadPart' hb,IN _ (λrest b s'=>b.1=none/\s'=⟨hp,g,d,tk,os⟩/\∃ (us vs:Aa Ac),rest=us.zip vs/\LexV A.in1 ⟨hp,g,d,tk,os⟩ us vs r/\us.length+items2.size=vs.length+items.size) _
  case turn =>
   rintro⟨y,x⟩ rest b s' ⟨hb',rfl,us,vs,hz,hx',hlen⟩;cases hx' with
   |nn=>cases hz
   |nc v vs=>cases hz
   |cn u us=>cases hz
   |eq u v us vs _ he h' =>
    rw[Gi] at hz;injection hz with hyx hrest
    injection hyx with hy hx
    subst hy hx;refine Ad (he prog w _ _ ?_)
    wp_walk
    exact⟨rfl,rfl,_,_,hrest,h',by simp only[AT] at hlen;omega⟩
   |ne u v us vs _ he h' =>
    rw[Gi] at hz;injection hz with hyx hrest
    injection hyx with hy hx
    subst hy hx;refine Ad (he prog w _ _ ?_);have hri:=h' prog w
    wp_walk using hri
    exact⟨_,rfl,by simpa using h⟩
  case fin =>
   rintro⟨b1,b2⟩ s' ⟨hb',rfl,us,vs,hz,hx',hlen⟩;simp only at hb';subst hb';have hv:r=decide (items.size<items2.size):=by
    cases hx' with
    |nn=>simp only[Cd] at hlen;exact(Dj om).symm
    |nc v vs=>simp only[Cd,AT] at hlen;exact(Cp om).symm
    |cn u us=>simp only[Cd,AT] at hlen;exact(Dj om).symm
    |eq u v us vs _ he h'=>cases hz
    |ne u v us vs _ he h'=>cases hz
   rw[hv] at h
   wp_walk
   exact⟨_,rfl,by simpa [Hy] using h⟩
  case h =>
   exact⟨rfl,rfl,items.toList,items2.toList,rfl,hx,by simp;omega⟩
end
theorem VH {A:Bt}{s:Ag}{l b:Af}{items items2:Ax Ac}{r:Ar}(hl:s.heap.IsTuple l items)(hb:s.heap.IsTuple b items2)(hu:A.units<Du)(h:LexV A.in1 s items.toList items2.toList r):iA A s (.ref l) (.ref b) r:=by
 intro prog w E Q hQ;obtain⟨⟨cls,dd,data,sl⟩,ho,hc,n,hd⟩:=id hl;obtain⟨⟨cls2,dd2,data2,sl2⟩,ho2,hc2,n2,hd2⟩:=id hb;simp only at hc hd hc2 hd2;subst hc hd hc2 hd2;exact Kz (op:=.Lt) ⟨_,ho,rfl⟩ ⟨_,ho2,rfl⟩ Uw T0 (Tk _ _) (oZ l b items items2 n n2 dd dd2 sl sl2 r)
  ⟨ho,ho2,h,show Ig r≠Mb/\Q (.bool r) s from⟨(λx=>nomatch x),hQ⟩⟩ hu
inductive TrV (h:Bw):Ai->D->Ac->Prop
 |int (n:Ai) (i:An) (t:Ti):TrV h n (.int i) (.int i t)
 |tup (n:Ai) (a:Af) (xs:Aa D) (its:Aa Ac) (ht:h.IsTuple a its.toArray) (hl:xs.length=its.length) (hs:∀ (j:Ai) (x:D) (v:Ac),xs[j]? = Ab x->its[j]? = Ab v->TrV h n x v):TrV h (n+1) (.tup xs) (.ref a)
theorem TrV.tr {d:D}{v:Ac}(t:TrV h n d v):Tr n d:=by
 induction t with
 |int n i t=>exact .int n i
 |tup n a xs its ht hl hs ih =>
  refine .tup n xs λx hx=>?_;obtain⟨j,hj,e⟩:=Cs.mp hx;exact ih j x (its[j]' om) (by rw[Ao hj,e]) (Ao om)
theorem TrV.sup {h':Bw}(S:_S.Sup h h'){n:Ai}{d:D}{v:Ac}(t:TrV h n d v):TrV h' n d v:=by
 induction t with
 |int n i t=>exact .int n i t
 |tup n a xs its ht hl hs ih =>
  obtain⟨o,ho,r⟩:=ht;exact .tup n a xs its ⟨o,S _ _ ho,r⟩ hl ih
theorem TrV.det {d:D}{v:Ac}(t:TrV h n d v):∀ {m:Ai} {d':D},TrV h m d' v->d=d':=by
 induction t with
 |int n i t=>intro m d' t';cases t' with|int _ _ _=>rfl
 |tup n a xs its ht hl hs ih =>
  intro m d' t';cases t' with
  |tup m _ ys its2 ht2 hl2 hs2 =>
   have e:=tY ht ht2;have e':its=its2:=by simpa using congrArg Xu e
   subst e';have:xs=ys:=Me om λj h1 h2=>ih j _ (its[j]' om) (Ao h1) (Ao om) (hs2 j _ _ (Ao h2) (Ao om));rw[this]
theorem TrV.eq {s:Ag}{a:D}{u:Ac}(t:TrV s.heap n a u):∀ {m:Ai} {b:D} {v:Ac} {A:Bt},TrV s.heap m b v->vC a b=true->A.units+n<Du->EqAt A s u v (eqD a b):=by
 induction t with
 |int n i t =>
  intro m b v A t' hc hu;cases t' with
  |int _ j t'=>exact EqAt.int_int i t j t'
  |tup _ _ _ _ _ _ _=>exact Dv hc
 |tup n a xs its ht hl hs ih =>
  intro m b v A t' hc hu;cases t' with
  |int _ j t'=>exact Dv hc
  |tup m b ys its2 ht2 hl2 hs2 =>
   refine(JF om ht ht2 hl hl2 (λj h1 h2=>?_) λe=>?_).eq
   .have h1':j<its.length:=by simpa using h1
    have h2':j<its2.length:=by simpa using h2
    have e1:xs[j]? = Ab (xs.getD j .non):=by simp[Im,show j<xs.length by omega]
    have e2:ys[j]? = Ab (ys.getD j .non):=by simp[Im,show j<ys.length by omega]
    have f1:its[j]? = Ab its.toArray[j]:=by simp[h1']
    have f2:its2[j]? = Ab its2.toArray[j]:=by simp[h2']
    exact ih j _ _ e1 f1 (hs2 j _ _ e2 f2) (g9 hc e1 e2) (by show A.units+1+n<Du;omega)
   .subst e
    have:=TrV.det (.tup n a xs its ht hl hs) (.tup m a ys its2 ht2 hl2 hs2);injection this with this
    subst this;exact TY (TrV.tr (.tup n a xs its ht hl hs))
theorem cX {A:Bt}{s:Ag}:∀ {xs ys:Aa D} {us vs:Aa Ac} {n m:Ai},xs.length=us.length->ys.length=vs.length->(∀ x∈xs,Tr n x)->(∀ y∈ys,Tr m y)->jO xs ys=true ->
  (∀ (j:Ai) (x y:D) (u v:Ac),xs[j]? = Ab x->ys[j]? = Ab y->us[j]? = Ab u->vs[j]? = Ab v->EqAt A s u v (eqD x y)/\iA A s u v (ltN x y))->LexV A s us vs (_H.lexLt (zM xs) (zM ys))
 |[],[],[],[],_,_,_,_,_,_,_,_=>.nn
 |[],y::ys,[],v::vs,_,_,_,_,_,h2,_,_=>by
  obtain⟨k,t,e,p⟩:=bG (h2 y (by simp))
  have:_H.lexLt (zM []) (zM (y::ys))=true:=by
   rw[wZ,e];show _H.lexLt [0] (k::_)=_;rw[_H.lexLt_cons,Bf om];exact Cp p
  rw[this];exact .nc v vs
 |x::xs,[],u::us,[],_,_,_,_,h1,_,_,_=>by
  obtain⟨k,t,e,p⟩:=bG (h1 x (by simp))
  have:_H.lexLt (zM (x::xs)) (zM []) = false:=by
   rw[wZ,e];show _H.lexLt (k::_) [0]=_;rw[_H.lexLt_cons,Bf om];exact Dj om
  rw[this];exact .cn u us
 |x::xs,y::ys,u::us,v::vs,_,_,l1,l2,h1,h2,hc,h=>by
  have hc':(vC x y&&jO xs ys)=true:=hc;rw[Bq] at hc';obtain⟨e1,e2⟩:=h 0 x y u v rfl rfl rfl rfl;rw[vQ (h1 x (by simp)) (h2 y (by simp)) hc'.1]
  cases hq:eqD x y with
  |true =>
   rw[hq] at e1;exact .eq u v us vs _ e1 (cX (by simpa using l1) (by simpa using l2) (λz hz=>h1 z (by simp[hz])) (λz hz=>h2 z (by simp[hz])) hc'.2 λj a b c d q1 q2 q3 q4=>h (j+1) a b c d (by simpa using q1) (by simpa using q2) (by simpa using q3) (by simpa using q4))
  |false =>
   rw[hq] at e1;exact .ne u v us vs _ e1 e2
 |[],_,_::_,_,_,_,l1,_,_,_,_,_=>by simp at l1
 |_::_,_,[],_,_,_,l1,_,_,_,_,_=>by simp at l1
 |_,[],_,_::_,_,_,_,l2,_,_,_,_=>by simp at l2
 |_,_::_,_,[],_,_,_,l2,_,_,_,_=>by simp at l2
theorem TrV.lt {s:Ag}{a:D}{u:Ac}(t:TrV s.heap n a u):∀ {m:Ai} {b:D} {v:Ac} {A:Bt},TrV s.heap m b v->vC a b=true->A.units+n<Du->iA A s u v (ltN a b):=by
 induction t with
 |int n i t =>
  intro m b v A t' hc hu;cases t' with
  |int _ j t' =>
   intro prog w E Q hQ;rw[nD] at hQ;exact(Pv hQ:Ap (As prog w) A (Cc .Lt (.int i t) (.int j t')) Q E s)
  |tup _ _ _ _ _ _ _=>exact Dv hc
 |tup n a xs its ht hl hs ih =>
  intro m b v A t' hc hu;cases t' with
  |int _ j t'=>exact Dv hc
  |tup m b ys its2 ht2 hl2 hs2 =>
   have t1:=TrV.tr (.tup n a xs its ht hl hs);have t2:=TrV.tr (.tup m b ys its2 ht2 hl2 hs2);cases t1 with
   |tup _ _ t1 =>
    cases t2 with
    |tup _ _ t2 =>
     refine VH ht ht2 om ?_;rw[nE];refine cX (by simpa using hl) (by simpa using hl2) t1 t2 hc λj x y u v e1 e2 e3 e4=>?_
     have hu':A.in1.units+n<Du:=by show A.units+1+n<Du;omega
     have e3':its[j]? = Ab u:=by simpa using e3
     have e4':its2[j]? = Ab v:=by simpa using e4
     exact⟨(hs j x u e1 e3').eq (hs2 j y v e2 e4') (g9 hc e1 e2) hu',ih j x u e1 e3' (hs2 j y v e2 e4') (g9 hc e1 e2) hu'⟩
section
variable {X:Cx}{pins:Aa (Af × Cu)}{σ : _L.St}{H P:Hp}{α : Aa Af}{S:Sto}{s:Ag}
theorem eM (I:Inv X pins σ H s)(r:Rel X.K H P α S):∀ (n:Ai) {d:D} {v:V} {u:Ac},trb n d=true->Rep X.K P α d v->qG v u->TrV s.heap n d u:=by
 intro n
 induction n with
 |zero =>
  intro d v u h p q;cases d with
  |int i=>simp only[Rep] at p;subst p;obtain⟨t,rfl⟩:=q;exact .int _ i t
  |_=>exact Dv h
 |succ n ih =>
  intro d v u h p q;cases d with
  |int i=>simp only[Rep] at p;subst p;obtain⟨t,rfl⟩:=q;exact .int _ i t
  |tup xs =>
   obtain⟨a,vs,its,rfl,q1,t1,rv1,h1,l1,_⟩:=wW I r p;cases (show u=Dh a from q)
   have la:=t1.length;have lb:=rv1.length;refine .tup n a xs its h1 om λj x w e1 e2=>?_;obtain⟨y,f1,f2⟩:=t1.get e1;obtain⟨z,g1,g2⟩:=rv1.get f1;cases g1.symm.trans e2;exact ih (Cf.mp (show xs.all (trb n)=true from h) x (Cy e1)) f2 g2
  |_=>exact Dv h
end
end _D
namespace _D
open PySem PySem.Spec PyProof.Rows _L
noncomputable def bJ (d:D)(S:Sto):Al (Aa (Key × D)):=match d with
 |.loc n=>match S[n]? with
  |some (.dct kvs)=>Ab kvs
  |_=>none
 |_=>none
noncomputable def pW:G2:=λa b S=>match bJ a S,yC b with
 |some kvs,Ab k=>match zZ kvs k with
  |some d=>.ok d S
  |none=>.bad
 |_,_=>.bad
section
variable {X:Cx}{pins:Aa (Af × Cu)}{σ : _L.St}{H P:Hp}{α : Aa Af}{S:Sto}{s:Ag}
set_option tactic.hygienic true in
theorem Z2 (r:Rel X.K H P α S){d:D}{kvs:Aa (Key × D)}{v:V}(h:bJ d S=Ab kvs)(p:Rep X.K P α d v):∃ a ws,v=.ref a/\H a=Ab (.dK ws)/\KVs X.K P α kvs ws:=by
 unfold bJ at h
 split at h
 .split at h
  .rename_i hS
   cases h;simp only[Rep] at p;obtain⟨b,rfl,q⟩:=p;obtain⟨ws,z,t⟩:=r.at' _ b _ q hS;exact⟨b,ws,rfl,z,t⟩
  .cases h
 .cases h
set_option tactic.hygienic true in
theorem MU {o i:By}{fo fi:DE}{pos:Fc}(hu:X.A.units+1<Du)(ho:PE X o (tD X fo))(hi:PE X i (tD X fi))(hs:WL i:=by intro _ _;rfl):PE X (.Subscript o i pos) (tD X (d2 pW fo fi)):=by
 intro pins s σ H Q I h;obtain⟨P,α,env,S,r,re,af⟩:=h;refine FB PySem.F.slot_dict_getitem.lookup hs (thn (zO ho I r re af) λvv s1 ⟨v,H1,P1,α1,a,S1,G1,af1⟩=>?_);refine thn (zO hi G1.inv G1.rel G1.env (P:=P1) (α:=α1) (Ok:=OkV X P1 α1 Q) (g:=λy S2=>pW a y S2) (qV.base G1.same G1.pre af1)) λuu s2 ⟨u,H2,P2,α2,b,S2,G2,af2⟩=>?_;have pa:=Rep.mono G2.same G2.pre _ _ G1.rep;have pb:=G2.rep;have I2:=G2.inv;have r2:=G2.rel;have af3:=qV.base G2.same G2.pre af2;unfold pW at af3
 split at af3
 .rename_i kvs k hd hk
  split at af3
  .rename_i d hv
   obtain⟨p,ws,rfl,z,t⟩:=Z2 r2 hd pa;have ei:=mQ hk pb;subst ei;cases (show vv=Dh p from G1.val)
   obtain⟨w,h1,h2⟩:=(bN t).1 d hv;have g:kW H2 p (kV k) (Ab w):=.inl ⟨_,k,.inl z,rfl,h1.symm⟩;exact⟨eZ I2 g,QY hu I2 g G2.val λw' s3 I3 rw'=>⟨w,H2,I3,rw',xr af3 r2 h2⟩⟩
  .exact Aq af3
 .exact Aq af3
end
noncomputable def btN (xs:Aa D)(i j:Ai):Ar:=ltN (xs.getD i .non) (xs.getD j .non)
noncomputable def fV (xs:Aa D):D:=xs.getD (Jy (btN xs) (xs.length-1)) .non
theorem M7 (xs:Aa D):∀ k,Jy (btN xs) k<=k/\∀ j,j<=k->btN xs j (Jy (btN xs) k)=false
 |0=>⟨Av _,λj hj=>by
  have:j=0:=by omega
  subst this;exact _S.vD.irr _⟩
 |k+1=>by
  obtain⟨h1,h2⟩:=M7 xs k;rw[Jy];cases h:btN xs (k+1) (Jy (btN xs) k) with
  |true =>
   rw[Bd rfl];refine⟨Av _,λj hj=>?_⟩;cases q:btN xs j (k+1) with
   |false=>rfl
   |true =>
    by_cases hk:j=k+1
    .subst hk;exact absurd (_S.vD.irr _) (by unfold btN ltN at q;rw[q];simp)
    .exact absurd (show btN xs j (Jy (btN xs) k)=true from _S.vD.tr q h) (by rw[h2 j om];simp)
  |false =>
   rw[Bf (by simp)]
   refine⟨by omega,λj hj=>?_⟩
   by_cases hk:j=k+1
   .subst hk;exact h
   .exact h2 j om
theorem X8 {xs:Aa D}(h:0<xs.length):fV xs∈xs/\∀ y∈xs,ltN y (fV xs)=false:=by
 obtain⟨h1,h2⟩:=M7 xs (xs.length-1);have hm:Jy (btN xs) (xs.length-1)<xs.length:=by omega
 refine⟨by unfold fV;rw[Hv,Ao hm];exact Kl _,λy hy=>?_⟩
 obtain⟨j,hj,e⟩:=Cs.mp hy;have:=h2 j om;unfold btN at this;rw[Hv,Ao hj] at this;rw[<- e];exact this
noncomputable def mOk (xs:Aa D):Ar:=xs.all λa=>trb 6 a&&xs.all λb=>vC a b
noncomputable def lsD (d:D)(S:Sto):Al (Aa D):=match d with
 |.lst xs=>Ab xs
 |.loc n=>match S[n]? with
  |some (.lst xs)=>Ab xs
  |_=>none
 |_=>none
section
variable {prog:Bg}{w:Ca}{A:Bt}{R:Zh->Ag->Prop}{I:Af}{fp wr:Aa Af}{n:Ai}{P:Ai->Ac->Prop}{St:Ai->Bw->Prop}{bt:Ai->Ai->Ar}{S:Af}{h0:Bw}{kw:Aa (Au × Ac)}
def WI (prog:Bg)(w:Ca)(A:Bt)(h0:Bw)(op:Ut)(P:Ai->Ac->Prop)(bt:Ai->Ai->Ar):Prop:=
 ∀ i j vi vj (s:Ag) (Q:Ac->Ag->Prop) (E:Ac->Ag->Prop),_S.Sup h0 s.heap->P i vi->P j vj->Q (.bool (bt i j)) s->Ap (As prog w) A (Qx op vi vj) Q E s
theorem dZ:(toString "min" ++ toString ".loop" : Ek) = "min.loop":=by decide
theorem VM (W:Walks prog w A.in1 I fp wr n P St)(hcmp:WI prog w A.in1 h0 .Lt P bt)(hf:S ∉ fp)(hS0:h0.get? S=none)(hw0:∀ b∈wr,h0.get? b=none) :
  ∀ (k j:Ai) (s:Ag) (u:Ac) (c:Ai),j+1+k=n->_S.Sup h0 s.heap->St (j+1) s.heap->P (Jy bt j) u->s.heap.get? S=Ab { cls:=.type "list",dict:=none,data:=.seq #[u,u] c,slots:=#[] } ->
  (∀ v h' tk,P (Jy bt (n-1)) v->(∀ b o,b ∉ wr->b≠S->s.heap.get? b=Ab o->h'.get? b=Ab o)->R (.ok (.ret v)) { s with heap:=h',toks:=tk }) ->
  Iw (As prog w) A (.builtin "min.loop" ⟨[.ref I,.none,.ref S],kw⟩) R s:=by
 have hw:S ∉ wr:=λz=>hf (W.sub _ z);intro k
 induction k with
 |zero =>
  intro j s u c hk hs st hu hS hR;have hn:j+1=n:=by omega
  subst hn;refine Gh Lm ?_;rw[Fo Ex _];refine Ad (Fe hS rfl ?_);refine Ad (Nu (W.done s _ _ st λh' tk q=>?_));refine Ad ?_;exact My (q S _ hw hS) rfl (Ad (Lr (Am (hR u _ tk hu λb o z1 z2 e=>(Cj _ _ (Fb z2)).trans (q b o z1 e)))))
 |succ k ih =>
  intro j s u c hk hs st hu hS hR;refine Gh Lm ?_;rw[Fo Ex _];refine Ad (Fe hS rfl ?_);refine Ad (Nu (W.item (j+1) s _ _ om st λv h' tk hv st' q=>?_));have hS':=q S _ hw hS;have hs':_S.Sup h0 h':=λb o e=>q b o (λz=>by rw[hw0 b z] at e;cases e) (hs b o e)
  refine Ad (Am ?_);refine Ad (Nu (Ej (Ad (hcmp (j+1) (Jy bt j) v u _ _ _ hs' hv hu ?_))));refine Ad (Ej (Rl ?_));refine Ad (Lr (Am ?_));cases hb:bt (j+1) (Jy bt j) with
  |true =>
   rw[Bd rfl];refine Ad ?_;refine My hS' rfl (Ad (Lr ?_));rw[dZ];refine Am ⟨Ix Ex _,ih (j+1) _ v _ om (λb o e=>(Cj _ _ λy:S=b=>by rw[<- y,hS0] at e;cases e).trans (hs' b o e)) (W.frame _ _ _ st' λb z o e=>(Cj _ _ λy:S=b=>hf (y▸z)).trans e) ?_ (Es _ hS' rfl) λv' h2 tk2 p2 q2=>hR v' h2 tk2 p2 λb o z1 z2 e=>q2 b o z1 z2 ((Cj _ _ (Fb z2)).trans (q b o z1 e))⟩
   rw[Jy,Bd hb];exact hv
  |false =>
   rw[Bf (by simp)]
   refine Ad (Lr ?_);rw[dZ];refine Am ⟨Ix Ex _,ih (j+1) _ u c om hs' st' ?_ hS' λv' h2 tk2 p2 q2=>hR v' h2 tk2 p2 λb o z1 z2 e=>q2 b o z1 z2 (q b o z1 e)⟩;rw[Jy,Bf (by rw[hb];simp)]
   exact hu
theorem XA (W:Walks prog w A.in1 I fp wr n P St)(hcmp:WI prog w A.in1 h0 .Lt P bt)(hf:S ∉ fp)(hS0:h0.get? S=none)(hw0:∀ b∈wr,h0.get? b=none){s:Ag}{c:Ai}(hs:_S.Sup h0 s.heap)(st:St 0 s.heap)(hn:0<n)(hS:s.heap.get? S=Ab { cls:=.type "list",dict:=none,data:=.seq #[] c,slots:=#[] })
  (hR:∀ v h' tk,P (Jy bt (n-1)) v->(∀ b o,b ∉ wr->b≠S->s.heap.get? b=Ab o->h'.get? b=Ab o)->R (.ok (.ret v)) { s with heap:=h',toks:=tk }) :
  Iw (As prog w) A (.builtin "min.loop" ⟨[.ref I,.none,.ref S],kw⟩) R s:=by
 have hw:S ∉ wr:=λz=>hf (W.sub _ z);refine Gh Lm ?_;rw[Fo Ex _];refine Ad (Fe hS rfl ?_);refine Ad (Nu (W.item 0 s _ _ hn st λv h' tk hv st' q=>?_));have hS':=q S _ hw hS;have hs':_S.Sup h0 h':=λb o e=>q b o (λz=>by rw[hw0 b z] at e;cases e) (hs b o e)
 refine Ad (Am ?_);refine Ad ?_;refine My hS' rfl ?_;rw[dZ];refine Am ⟨Ix Ex _,VM W hcmp hf hS0 hw0 (n-1) 0 _ v _ om (λb o e=>(Cj _ _ λy:S=b=>by rw[<- y,hS0] at e;cases e).trans (hs' b o e)) (W.frame _ _ _ st' λb z o e=>(Cj _ _ λy:S=b=>hf (y▸z)).trans e) hv (Es _ hS' rfl) λv' h2 tk2 p2 q2=>hR v' h2 tk2 p2 λb o z1 z2 e=>q2 b o z1 z2 ((Cj _ _ (Fb z2)).trans (q b o z1 e))⟩
end
section
variable {X:Cx}{pins:Aa (Af × Cu)}{σ : _L.St}{H P:Hp}{α : Aa Af}{S:Sto}{s:Ag}
set_option tactic.hygienic true in
theorem EC (I:Inv X pins σ H s)(r:Rel X.K H P α S){d:D}{xs:Aa D}{v:V}(h:lsD d S=Ab xs)(p:Rep X.K P α d v):∃ a vs its,v=.ref a/\qC X.K P α xs vs/\qJ vs its/\s.heap.IsList a its.toArray/\xs.length=its.length:=by
 unfold lsD at h
 split at h
 .cases h
  obtain⟨a,ws,its,n,rfl,_,t,rvi,e,l,_⟩:=kM I r p;exact⟨a,ws,its,rfl,t,rvi,⟨_,e,rfl,n,rfl⟩,l⟩
 .split at h
  .rename_i hS
   cases h;simp only[Rep] at p;obtain⟨b,rfl,q⟩:=p;obtain⟨ws,z,t⟩:=r.at' _ b _ q hS;obtain⟨its,rvi,pl,_⟩:=I.list (.inl (.inl z));exact⟨b,ws,its,rfl,t,rvi,pl.isList,by rw[t.length,rvi.length]⟩
  .cases h
 .cases h
theorem X5 {xs:Aa D}(h:mOk xs=true){x:D}(hx:x∈xs):trb 6 x=true/\∀ y∈xs,vC x y=true:=by
 have:=Cf.mp h x hx;simp only[Bq] at this;exact⟨this.1,λy hy=>Cf.mp this.2 y hy⟩
end
section
variable {prog:Bg}{w:Ca}{A:Bt}{E:Ac->Ag->Prop}{s:Ag}{l:Af}{its:Ax Ac}{d:Ac}
theorem VN (a v:Ac):Va "min" ⟨[a],[(Gg "default",v)]⟩:=by unfold Va;kernel_rfl
theorem VL {bt:Ai->Ai->Ar}{Q:Ac->Ag->Prop}(hh:A.handled=none)(hl:s.heap.IsList l its)(hcmp:WI prog w A.in1 s.heap .Lt (λi v=>its[i]? = Ab v) bt)
  (h:∀ v h' tk,(its.size=0/\v=d\/0<its.size/\its[Jy bt (its.size-1)]? = Ab v)->(∀ b o,s.heap.get? b=Ab o->h'.get? b=Ab o)->Q v { s with heap:=h',toks:=tk }) : Ap (As prog w) A (call (.builtin "min") [.ref l] [(Gg "default",d)]) Q E s:=by
 have hlt:l<s.heap.objs.size:=by obtain⟨_,e,_⟩:=hl;exact Ba e
 have none_at:∀ b,s.heap.objs.size<=b->s.heap.get? b=none:=λb hb=>by
  cases q:s.heap.get? b with
  |none=>rfl
  |some o=>exact absurd (Ba q) (Lo.mpr hb)
 refine kmk_tree PySem.F.kind_min PySem.F.plain_min PySem.F.entry_min (VN _ _) ?_;refine Ad (Ux (show AaA "min" ["key","default"] 0 ⟨[],[(Gg "default",d)]⟩=pure [none,Ab d] from rfl) ?_)
 refine Ad (Am ?_);refine Ad (Fz hl ?_);refine Ad (Ee ?_);have W:=Aa0 (prog:=prog) (w:=w) (A:=A.in1) hh s.heap.objs.size l (Cw hlt) its;rw[dZ];have sz:(s.heap.push { cls:=.type "list_iterator",data:=.fields #[.ref l,.int 0 0] }).objs.size=s.heap.objs.size+1:=Dt ..;have st:=W.frame _ _ _ (show (s.heap.push { cls:=.type "list_iterator",data:=.fields #[.ref l,.int 0 0] }).IsListIter s.heap.objs.size l 0/\(s.heap.push { cls:=.type "list_iterator",data:=.fields #[.ref l,.int 0 0] }).IsList l its from⟨⟨_,Ay _ rfl,rfl,rfl⟩,hl.push _⟩) λb _ o e=>Ah { cls:=.type "list",data:=.seq ([] : Aa Ac).toArray } e
 have back:∀ {v:Ac} {h':Bw} {tk:Ai},(its.size=0/\v=d\/0<its.size/\its[Jy bt (its.size-1)]? = Ab v)->(∀ b o,b ∉ [s.heap.objs.size]->b≠(s.heap.push { cls:=.type "list_iterator",data:=.fields #[.ref l,.int 0 0] }).objs.size->((s.heap.push { cls:=.type "list_iterator",data:=.fields #[.ref l,.int 0 0] }).push { cls:=.type "list",data:=.seq ([] : Aa Ac).toArray }).get? b=Ab o->h'.get? b=Ab o)->Q v { s with heap:=h',toks:=tk }:=λ{v h' tk} hv q=>by
  refine h v h' tk hv λb o e=>q b o (λhm=>?_) (λhm=>?_) (Ah _ (Ah _ e))
  .simp only[Az,Dm,Hd] at hm
   subst hm;exact absurd (Ba e) (Ei _)
  .subst hm
   exact absurd (Ba e) (by rw[sz];exact Lo.mpr (Mu _))
 by_cases hn:its.size=0
 .refine Am ⟨Ix Ex _,Gh Lm ?_⟩
  rw[Fo Ex _];refine Ad (Fe (Ay _ rfl) rfl ?_);refine Ad (Nu (W.done _ _ _ (by rw[hn];exact st) λh' tk q=>?_))
  exact Ad (Go (Am (back (.inl ⟨hn,rfl⟩) λb o z1 _ e=>q b o z1 e)))
 .refine Am ⟨Ix Ex _,XA (h0:=s.heap) W hcmp ?_ (none_at _ (by rw[sz];exact Mu _)) (λb hb=>?_) (λb o e=>Ah _ (Ah _ e)) st (Jg hn) (Ay _ rfl) λv h' tk hv q=>back (.inr ⟨Jg hn,hv⟩) q⟩
  .rw[sz]
   simp only[Az,Dm,Hd,Uy];exact⟨Nat.succ_ne_self _,Fb (Cw (Ob hlt))⟩
  .simp only[Az,Dm,Hd] at hb
   subst hb;exact none_at _ (Av _)
end
noncomputable def mnD (ds:Aa D)(b:D)(S:Sto):Res D:=match ds with
 |[d]=>match lsD d S with
  |some [] => .ok b S
  |some (x::xs)=>if mOk (x::xs)=true then .ok (fV (x::xs)) S else .bad
  |none=>.bad
 |_=>.bad
noncomputable def mF (fA:DA)(fD:DE):DE:=λenv S=>(fA env S).bind λds S1=>(fD env S1).bind λb S2=>mnD ds b S2
section
variable {X:Cx}{e e2:By}{fA:DA}{fD:DE}{p pos kp:Fc}{cm:Ar}{k:Ai}
theorem KM (hc:X.calm=true)(hu:X.A.units+64<Du)(hg:Gl X "min")(hm:X.mg "min" = none)(ha:PA X [e] (tDA X fA))(hd:PE X e2 (tD X fD))(he:Bo [e] X.env=(false,eval e X.env)::Bo [] X.env:=by rfl):PE X (.Call (.Name "min" p) [e] [⟨Ab "default",e2,kp⟩] pos) (tD X (mF fA fD)):=by
 intro pins s σ H Q I h;obtain⟨P,α,env,S,r,re,af⟩:=h;refine Jf (v7 I hg hm (u:=.builtin "min") (by decide +kernel) ?_ (by decide) (by decide))
 refine callWith_kw (thn (wL ha I r re af pos) λus s1 ⟨vs,H1,P1,α1,ds,S1,I1,rv,r1,re1,rp,e1,e2',af1⟩=>kws_cons (thn (zO hd I1 r1 re1 (qV.base e1 e2' af1)) λu s2 ⟨v,H2,P2,α2,b,S2,G,af2⟩=>kws_nil ?_)) (by rw[he];rfl) (by rw[he];rfl)
 show Ap _ _ (call (.builtin "min") us [(Gg "default",u)]) _ _ s2
 match ds,af2,rp with
 |[],af2,_=>exact Aq af2
 |_::_::_,af2,_=>exact Aq af2
 |[dd],af2,rp =>
  simp only[mnD] at af2;cases hls:lsD dd S2 with
  |none=>rw[hls] at af2;exact Aq af2
  |some xs =>
   rw[hls] at af2;have I:=G.inv;have r:=G.rel;obtain⟨v',u',rfl,rfl,p',q⟩:=uF rp rv;obtain⟨a,ws,its,rfl,t,rvi,hl,ll⟩:=EC I r hls (Rep.mono G.same G.pre _ _ p');cases (show u'=Dh a from q)
   have okk:xs=[]\/mOk xs=true:=by
    cases xs with
    |nil=>exact .inl rfl
    |cons x xs=>exact .inr (wO (X:=X) af2).1
   have at':∀ (i:Ai) (u:Ac),its.toArray[i]? = Ab u->∃ vv,TrV s2.heap 6 (xs.getD i .non) u/\qG vv u/\Rep X.K P2 α2 (xs.getD i .non) vv/\xs.getD i .non∈xs/\mOk xs=true:=λi u hi=>by
    have hi':its[i]? = Ab u:=by simpa using hi
    have hii:i<its.length:=(Bi.mp hi').1;have ok:mOk xs=true:=by
     rcases okk with rfl|ok
     .simp at ll;omega
     .exact ok
    have hx:xs[i]? = Ab (xs[i]' om):=Ao om;obtain⟨y,f1,f2⟩:=t.get hx;obtain⟨z,g1,g2⟩:=rvi.get f1;cases g1.symm.trans hi';have e:xs.getD i .non=xs[i]' om:=by rw[Hv,hx];rfl
    rw[e];exact⟨y,eM I r 6 (X5 ok (Kl _)).1 f2 g2,g2,f2,Kl _,ok⟩
   have hz:its.toArray.size=xs.length:=by simp only[Bj];rw[ll]
   refine VL (bt:=btN xs) (I.ok.hd hc) hl (λi j vi vj s' Q' E' hs hi hj hQ=>?_) λv3 h' tk hv hk=>?_
   .obtain⟨_,t1,_,_,m1,ok⟩:=at' i vi hi
    obtain⟨_,t2,_,_,m2,_⟩:=at' j vj hj;exact(t1.sup hs).lt (t2.sup hs) ((X5 ok m1).2 _ m2) (by show X.A.units+1+6<Du;omega) _ _ _ _ hQ
   .rcases hv with⟨h0,rfl⟩|⟨_,hv⟩
    .have:xs=[]:=Kr.mp om
     subst this;exact⟨v,H2,I.kept (t':=tk) hk,G.val,af2 v H2 P2 α2 r G.same G.pre G.rep⟩
    .obtain⟨vv,_,rv',rp',m,_⟩:=at' _ v3 hv
     rw[hz] at rp';cases xs with
     |nil=>cases m
     |cons x xs =>
      have af3:=(wO (X:=X) af2).2;exact⟨vv,H2,I.kept (t':=tk) hk,rv',af3 vv H2 P2 α2 r G.same G.pre rp'⟩
theorem BI (hc:X.calm=true)(hr:RoomC cm k X.A)(hg:Gl X "min")(hm:X.mg "min" = none)(ha:QA X [e] fA)(hd:QE X e2 fD)(he:Bo [e] X.env=(false,eval e X.env)::Bo [] X.env:=by rfl):QE X (.Call (.Name "min" p) [e] [⟨Ab "default",e2,kp⟩] pos) (mF fA fD):=⟨KM hc hr.units hg hm ha.1 hd.1 he⟩
end
end _D
section
end
namespace _D
open PySem PySem.Spec PyProof.Rows _L
inductive AccT {K:Type}(w:Ca)(hash:K->An)(enc:K->D)(Kf:Aj)(P:Hp)(α : Aa Af)(ds:Aa D)(o:Cu):Prop
 |mk (es:Ax (An × Ac)) (ep:Ai) (t:Fn) (ks:Aa K) (kv:Aa (K × Ac)) (ho:o=_S.setO es ep t) (T:_S.TabT t es) (led:t.led=_S.xZ w) (hds:ds=ks.map enc) (hes:es.toList=kv.map λp=>(hash p.1,p.2)) (nd:(kv.map (·.1)).Nodup) (mem:∀ k,k∈kv.map (·.1)↔k∈ks) (rp:∀ p∈kv,∃ v,qG v p.2/\Rep Kf P α (enc p.1) v):AccT w hash enc Kf P α ds o
section
variable {K:Type}{w:Ca}{hash:K->An}{enc:K->D}{Kf:Aj}{P P1:Hp}{α α1:Aa Af}{ds:Aa D}{o:Cu}
theorem AccT.cell (a:AccT w hash enc Kf P α ds o):∀ v,o.data≠.cell v:=by
 obtain⟨es,ep,t,ks,kv,rfl,_⟩:=a;intro v z;cases z
end
noncomputable def sT (ds:Aa D):Ar:=match w8 ds with
 |some ks=>decide ((_S.srt _H.lexLt ks).length<=1000)&&ks.all λk=>!k.isEmpty
 |none=>false
end _D
namespace _D
open PySem _L
variable {X:Cx}
noncomputable def UK:DS:=λ_ _=>.bad
theorem TF {st:Gd}:PS X st (tDS X UK):=λ_ _ _ _ _ _ ⟨_,_,_,_,_,_,h⟩=>Aq h
theorem SG {st:Gd}:QS X st UK:=⟨TF⟩
end _D
namespace _D
open PySem PySem.Spec PyProof.Rows _L
noncomputable def rG:G2:=λa b S=>match a,b with
 |.tup xs,.tup ys=>match x9 xs,x9 ys with
  |some ns,Ab ms=>.ok (.bl (!_H.lexLt ns ms)) S
  |_,_=>.bad
 |_,_=>gGe a b S
section
open PySem.SeqAt
open PySem.AutoSeq1 (wpAny_loadPart')
open PySem.MeetsSeq PySem.MeetsSeq2 PySem.MeetsSeq3
theorem UG (A:Bt)(s:Ag)(a:An)(t:Ti)(c:An)(u:Ti)(prog:Bg)(w:Ca)(E:Ac->Ag->Prop)(Q:Ac->Ag->Prop)(h:Q (.bool (decide (a>=c))) s) :
  Ap (As prog w) A (Qx .GtE (.int a t) (.int c u)) Q E s:=
 (PyProof.Rows.ge_int h:Ap (As prog w) A (Cc .GtE (.int a t) (.int c u)) Q E s)
theorem dF (l b:Af)(items items2:Ax Ac)(n n2:Ai)(dd dd2:Al Af)(sl sl2:Ax (Al Ac))(ns ms:Aa An)(hi:Fw items.toList ns)(hj:Fw items2.toList ms) :
  Meets (Ih.«tuple.__ge__» ⟨[.ref l,.ref b],[]⟩)
   (λ_ R s=>s.heap.get? l=Ab { cls:=.type "tuple",dict:=dd,data:=.seq items n,slots:=sl } /\ s.heap.get? b=Ab { cls:=.type "tuple",dict:=dd2,data:=.seq items2 n2,slots:=sl2 } /\
    R (.ok (.ret (.bool (!_H.lexLt ns ms)))) s):=
 .of_wp λprog w A R s h=>by
  obtain⟨hp,g,d,tk,os⟩:=s;obtain⟨hl,hb,h⟩:=h;have f2:=Ke;have z1:items.size=ns.length:=by rw[<- hi.length];simp
  have z2:items2.size=ms.length:=by rw[<- hj.length];simp
  wp_walk using wpAny_loadPart' hl,wpAny_loadPart' hb,IN _ (λrest b s'=>b.1=none/\s'=⟨hp,g,d,tk,os⟩/\∃ (vs ws:Aa Ac) (ns' ms':Aa An),rest=vs.zip ws /\
   Fw vs ns'/\Fw ws ms'/\ns'.length+items2.size=ms'.length+items.size/\R (.ok (.ret (.bool (!_H.lexLt ns' ms')))) ⟨hp,g,d,tk,os⟩) _
  case turn =>
   rintro⟨y,x⟩ rest b s' ⟨hb',rfl,vs,ws,ns',ms',hz,hvi,hwi,hlen,hR⟩;cases hvi with
   |nil=>rw[Rp] at hz;cases hz
   |cons a t hvi' =>
    cases hwi with
    |nil=>rw[Qq] at hz;cases hz
    |cons c u hwi' =>
     rw[Gi] at hz;injection hz with hyx hrest
     injection hyx with hy hx
     subst hy hx;rw[_H.lexLt_cons] at hR;simp only[AT] at hlen;obtain⟨e,he,hiff⟩:=_H.eqAt_int A.in1 ⟨hp,g,d,tk,os⟩ a t c u;refine Ad (he prog w _ _ ?_);cases e with
     |true =>
      rw[Bd (hiff.mp rfl)] at hR
      wp_walk
      exact⟨rfl,rfl,_,_,_,_,hrest,hvi',hwi',by lia,hR⟩
     |false =>
      rw[Bf (λq=>absurd (hiff.mpr q) Ic)] at hR;have hri:=UG A.in1 ⟨hp,g,d,tk,os⟩ a t c u prog w
      wp_walk using hri
      exact⟨_,rfl,by
       rw[show (!decide (a<c))=decide (a>=c) by rw[<- decide_not];exact Te.mpr Wu] at hR
       simpa using hR⟩
  case fin =>
   rintro⟨b1,b2⟩ s' ⟨hb',rfl,vs,ws,ns',ms',hz,hvi,hwi,hlen,hR⟩;simp only at hb';subst hb';have hv:(!_H.lexLt ns' ms')=decide (items2.size<=items.size):=by
    cases hvi with
    |nil =>
     cases hwi with
     |nil =>
      simp only[Cd] at hlen;rw[_H.lexLt_nil_nil];exact(Cp li).symm
     |cons c u hw =>
      simp only[Cd,AT] at hlen;rw[_H.lexLt_nil_cons];exact(Dj li).symm
    |cons a t hv =>
     cases hwi with
     |nil =>
      simp only[Cd,AT] at hlen;rw[_H.lexLt_cons_nil];exact(Cp li).symm
     |cons c u hw =>
      rw[Gi] at hz;cases hz
   rw[hv] at hR
   wp_walk
   exact⟨_,rfl,by simpa [Hy] using hR⟩
  case h =>
   exact⟨rfl,rfl,items.toList,items2.toList,ns,ms,rfl,hi,hj,by lia,h⟩
end
section
variable {X:Cx}
theorem iW {prog:Bg}{w:Ca}{A:Bt}{E:Ac->Ag->Prop}{s:Ag}{l b:Af}{items items2:Ax Ac}{ns ms:Aa An}{Q:Ac->Ag->Prop}(hl:Of s.heap l items)(hb:Of s.heap b items2)(hi:Fw items.toList ns)(hj:Fw items2.toList ms)
  (hu:A.units<Du) (h:Q (.bool (!_H.lexLt ns ms)) s):Ap (As prog w) A (Cc .GtE (.ref l) (.ref b)) Q E s:=by
 obtain⟨⟨cls,dd,data,sl⟩,ho,hc,n,hd⟩:=id hl;obtain⟨⟨cls2,dd2,data2,sl2⟩,ho2,hc2,n2,hd2⟩:=id hb;simp only at hc hd hc2 hd2;subst hc hd hc2 hd2;exact Kz (op:=.GtE) ⟨_,ho,rfl⟩ ⟨_,ho2,rfl⟩ PySem.F.slot_tuple_ge PySem.F.entry_tuple_ge (PySem.F.args_tuple_ge_2 _ _) (dF l b items items2 n n2 dd dd2 sl sl2 ns ms hi hj)
  ⟨ho,ho2,show Ig (!_H.lexLt ns ms)≠Mb/\Q (.bool (!_H.lexLt ns ms)) s from⟨(λx=>nomatch x),h⟩⟩ hu
set_option tactic.hygienic true in
theorem L9 (hu:X.A.units<Du):OpD X (Cc .GtE) rG:=by
 intro pins σ H s P α S v u vv uu a b Q I r rv ru pa pb af;unfold rG at af
 split at af
 .rename_i xs ys
  split at af
  .rename_i ns ms h1 h2
   obtain⟨a,its,rfl,t1,i1⟩:=vH I r rv pa h1;obtain⟨b,its2,rfl,t2,i2⟩:=vH I r ru pb h2;exact iW t1 t2 (by simpa using i1) (by simpa using i2) hu ⟨.bl _,H,I,rfl,xr af r (by simp only[Rep])⟩
  .exact Aq af
 .exact JT pins σ H s P α S v u vv uu a b Q I r rv ru pa pb af
theorem CF {cm:Ar}{k:Ai}(hr:RoomC cm k X.A):ZOp X (Cc .GtE) rG:=⟨L9 (by have:=hu1 hr;omega)⟩
end
noncomputable def gF:G2:=λa b S=>if (trb 8 a&&trb 8 b&&vC a b)=true then .ok (.bl (ltN a b)) S else .bad
noncomputable def fQ:G2:=λa b S=>match bJ b S,yC a with
 |some kvs,Ab k=>.ok (.bl (zZ kvs k).isSome) S
 |_,_=>.bad
section
variable {X:Cx}
theorem LC (hu:X.A.units+8<Du):OpD X (Cc .Lt) gF:=by
 intro pins σ H s P α S v u vv uu a b Q I r rv ru pa pb af;obtain⟨hk,af⟩:=wO (X:=X) af;rw[Bq,Bq] at hk;have t1:=eM I r 8 hk.1.1 pa rv;have t2:=eM I r 8 hk.1.2 pb ru;exact(t1.lt (A:=X.A) t2 hk.2 hu X.prog X.w _ _ ⟨.bl _,H,I,rfl,xr af r (by simp only[Rep])⟩)
set_option tactic.hygienic true in
theorem LB (hu:X.A.units+1<Du):OpD X (Cc .In) fQ:=by
 intro pins σ H s P α S v u vv uu a b Q I r rv ru pa pb af;unfold fQ at af
 split at af
 .rename_i kvs k hd hk
  obtain⟨p,ws,rfl,z,t⟩:=Z2 r hd pb;have ei:=mQ hk pa;subst ei;cases (show uu=Dh p from ru)
  obtain⟨k1,k2⟩:=bN (k:=k) t;have g:kW H p (kV k) (yD ws k):=.inl ⟨_,k,.inl z,rfl,rfl⟩;refine AB hu I g rv λs' I'=>⟨.bl _,H,I',rfl,?_⟩;cases hv:zZ kvs k with
  |none=>rw[hv] at af;rw[k2 hv];exact xr af r (by simp only[Rep];rfl)
  |some d =>
   obtain⟨w',e1,e2⟩:=k1 d hv;rw[hv] at af;rw[e1];exact xr af r (by simp only[Rep];rfl)
 .exact Aq af
end
section
variable {X:Cx}{cm:Ar}{k:Ai}{o i:By}{fo fi:DE}{pos:Fc}
theorem DJ (hr:RoomC cm k X.A)(ho:QE X o fo)(hi:QE X i fi)(hs:WL i:=by intro _ _;rfl):QE X (.Subscript o i pos) (d2 pW fo fi):=⟨MU (hu1 hr) ho.1 hi.1 hs⟩
end
section
variable {X:Cx}{cm:Ar}{k:Ai}{e ei ek:By}{fe fi fk:DE}{p2 pos:Fc}
theorem CL (hr:RoomC cm k X.A):ZOp X (Cc .Lt) gF:=⟨LC (by have:=hr.units;omega)⟩
theorem CH (hr:RoomC cm k X.A):ZOp X (Cc .In) fQ:=⟨LB (hu1 hr)⟩
end
end _D
namespace _D
open PySem
variable {ds as:Aa D}{n:Ai}{lo hi:Al An}{f1 f2:DE}{F:DF}{S1 S' S2:Sto}
def Nx (o:Out)(Q:qB->Sto->Prop):Prop:=∃ env S,o=.nx env S/\Q env S
def Rt (o:Out)(Q:D->Sto->Prop):Prop:=∃ d S,o=.rt d S/\Q d S
def Ok {β:Type}(r:Res β)(Q:β->Sto->Prop):Prop:=∃ d S,r=.ok d S/\Q d S
theorem oF {o:Out}{Q:qB->Sto->Prop}{env:qB}{S:Sto}(h:o=.nx env S)(q:Q env S):Nx o Q:=⟨env,S,h,q⟩
theorem HL {o:Out}{Q:D->Sto->Prop}{d:D}{S:Sto}(h:o=.rt d S)(q:Q d S):Rt o Q:=⟨d,S,h,q⟩
theorem qN {β:Type}{r:Res β}{Q:β->Sto->Prop}{d:β}{S:Sto}(h:r=.ok d S)(q:Q d S):Ok r Q:=⟨d,S,h,q⟩
theorem NV {f g:DS}{env:qB}{S:Sto}{Q:qB->Sto->Prop}(h:Nx (f env S) λenv1 S1=>Nx (g env1 S1) Q):Nx (qM f g env S) Q:=by
 obtain⟨env1,S1,e,env2,S2,e2,q⟩:=h;exact⟨env2,S2,by unfold qM;rw[e];exact e2,q⟩
theorem tB {f g:DS}{env:qB}{S:Sto}{Q:D->Sto->Prop}(h:Nx (f env S) λenv1 S1=>Rt (g env1 S1) Q):Rt (qM f g env S) Q:=by
 obtain⟨env1,S1,e,env2,S2,e2,q⟩:=h;exact⟨env2,S2,by unfold qM;rw[e];exact e2,q⟩
theorem EH {t:DT}{f g:DS}{env:qB}{S:Sto}{b:Ar}{Q:qB->Sto->Prop}(h:t env S=.ok b S1)(k:Nx ((if b then f else g) env S1) Q):Nx (sIf t f g env S) Q:=by
 obtain⟨env2,S2,e2,q⟩:=k;refine⟨env2,S2,?_,q⟩;unfold sIf;rw[h];cases b <;> exact e2
theorem PL {f:DE}{env:qB}{S:Sto}{Q:qB->Sto->Prop}(h:Ok (f env S) λ_ S1=>Q env S1):Nx (xM f env S) Q:=by
 obtain⟨d,S1,e,q⟩:=h;exact⟨_,S1,by unfold xM;rw[e];rfl,q⟩
theorem SQ {f:DE}{env:qB}{S:Sto}{Q:D->Sto->Prop}(h:Ok (f env S) Q):Rt (qY f env S) Q:=by
 obtain⟨d,S1,e,q⟩:=h;exact⟨_,S1,by unfold qY;rw[e];rfl,q⟩
theorem XE {fi:DI}{g:DG}{f:DS}{env:qB}{S:Sto}{Q:qB->Sto->Prop}(h:fi env S=.ok ds S1)(k:Nx (yK g f ds env S1) Q):Nx (wV fi g f env S) Q:=by
 obtain⟨env2,S2,e2,q⟩:=k;exact⟨env2,S2,by unfold wV;rw[h];exact e2,q⟩
theorem nK {g:DG}{f:DS}{Q:qB->Sto->Prop}(I:Aa D->qB->Sto->Prop)(turn:∀ d ds env S,I (d::ds) env S->∃ env1 S1,g d env S=.ok env1 S1/\Nx (f env1 S1) (I ds))(last:∀ env S,I [] env S->Q env S) :
  ∀ {ds:Aa D} {env:qB} {S:Sto},I ds env S->Nx (yK g f ds env S) Q
 |[],env,S,h=>⟨env,S,rfl,last env S h⟩
 |d::ds,env,S,h=>by
  obtain⟨env1,S1,e1,env2,S2,e2,h2⟩:=turn d ds env S h;obtain⟨env3,S3,e3,q⟩:=nK I turn last (ds:=ds) h2;refine⟨env3,S3,?_,q⟩;unfold yK;simp only[e1,Res.toS,e2];exact e3
theorem j9 {fe:DE}{env:qB}{S:Sto}{acc:Aa D}{x:D}(h:fe env S=.ok x S1)(hl:acc.length<lim):zB fe env S acc=.ok (env,acc++[x]) S1:=by
 unfold zB;rw[h];simp[Res.bind,hl]
theorem vO {cap:Aa (Al Ai)}{fi:DI2}{g:DG}{t:DT}{k:DK}{env env':qB}{S:Sto}{o:Al (Ai × MO)}{items:Aa D}(h:fi env S=.ok (o,items) S1)(e:goL o g t k items (x8 cap env) S1 [] = .ok (env',ds) S'):zA false cap fi g t k env S=.ok (.lst ds) S':=by
 unfold zA;rw[h];simp only[Res.bind,e,mkM];rfl
theorem F2 {f:DE}{S:Sto}{d:D}{env:qB}(hs:yF n ds=env)(h:f env S=.ok d S'):qL n (qY f) ds S=.ok d S':=by
 subst hs;unfold qL qY;rw[h];rfl
theorem W5 {g:DS}{S:Sto}{d:D}{env:qB}(hs:yF n ds=env)(h:g env S=.rt d S'):qL n g ds S=.ok d S':=by
 subst hs;unfold qL;rw[h];rfl
theorem FA {o:Al (Ai × MO)}{S:Sto}(h:stn o S)(e:S<+:S'):stn o S':=by
 cases o with
 |none=>trivial
 |some p =>
  obtain⟨r,rfl⟩:=e;have h':S[p.1]? = Ab p.2:=h;show (S++r)[p.1]? = Ab p.2;rw[Bl (Bi.mp h').1];exact h'
theorem uH {α β:Type}(sel:α->Ar)(val:α->β)(l:Aa α) : (l.flatMap λd=>if sel d then [val d] else []) = (l.filter sel).map val:=by
 induction l with
 |nil=>rfl
 |cons d l ih =>
  rw[Ly,ih];cases h:sel d <;> simp[h]
theorem goT {α:Type}{enc:α->D}{o:Al (Ai × MO)}{g:DG}{t:DT}{k:DK}(out:α->Aa D)(C:qB->Sto->Prop)(hC:∀ env S,C env S->stn o S) :
  ∀ (xs:Aa α) (env:qB) (S:Sto) (acc:Aa D),C env S->acc.length+(xs.flatMap out).length<=lim ->
  (∀ x∈xs,∀ env S acc,C env S->acc.length+(out x).length<=lim->∃ env1 S1 b S2,g (enc x) env S=.ok env1 S1/\t env1 S1=.ok b S2/\((b=false/\out x=[]/\C env1 S2)\/(b=true/\∃ env3 S3,k env1 S2 acc=.ok (env3,acc++out x) S3/\C env3 S3))) ->
  ∃ env' S',goL o g t k (xs.map enc) env S acc=.ok (env',acc++xs.flatMap out) S'/\C env' S'
 |[],env,S,acc,h,hl,_=>⟨env,S,by simp[goL,yP.mpr (hC _ _ h)],h⟩
 |x::xs,env,S,acc,h,hl,step=>by
  rw[Ly,Aw] at hl;obtain⟨env1,S1,b,S2,e1,e2,r⟩:=step x (Dl ..) env S acc h om;have hst:=yP.mpr (hC _ _ h);rcases r with⟨rfl,h0,h2⟩|⟨rfl,env3,S3,e3,h3⟩
  .obtain⟨env',S',e,q⟩:=goT out C hC xs env1 S2 acc h2 om λd hd=>step d (Cn _ hd)
   refine⟨env',S',?_,q⟩;simp only[De,goL,hst,Ds,e1,e2,Res.bind,Cb,Ef,Ly,h0,Jt];exact e
  .obtain⟨env',S',e,q⟩:=goT out C hC xs env3 S3 (acc++out x) h3 (by rw[Aw];omega) λd hd=>step d (Cn _ hd)
   refine⟨env',S',?_,q⟩;simp only[De,goL,hst,Ds,e1,e2,Res.bind,e3,Ly];rw[e,Ch]
section
variable {α β:Type}{enc:α->D}{enc2:β->D}{cap:Aa (Al Ai)}{fi:DI2}{g:DG}{t:DT}{fe:DE}{env:qB}{S S0:Sto}{o:Al (Ai × MO)}{xs:Aa α}
theorem AI (hst:stn o S)(sel:α->Ar)(val:α->D)(C:qB->Prop)(h0:C env)(hl:xs.length<=lim)
  (step:∀ x∈xs,∀ env S',C env->S<+:S'->∃ env1 S1,g (enc x) env S'=.ok env1 S'/\C env1/\t env1 S'=.ok (sel x) S1/\S'<+:S1/\(sel x=true->∃ S2,fe env1 S1=.ok (val x) S2/\S1<+:S2)) :
  ∃ env' S',goL o g t (zB fe) (xs.map enc) env S [] = .ok (env',(xs.filter sel).map val) S'/\S<+:S':=by
 have lf:(xs.flatMap λd=>if sel d then [val d] else []).length<=lim:=by
  rw[uH,Ak];exact Df (Ib _ _) hl
 obtain⟨env',S',e,_,q⟩:=goT (enc:=enc) (o:=o) (g:=g) (t:=t) (k:=zB fe) (λd=>if sel d then [val d] else []) (λenv S'=>C env/\S<+:S') (λ_ _ h=>FA hst h.2) xs env S [] ⟨h0,Be _⟩ (by simpa using lf) (λd hd env S' acc hC hl=>by
  obtain⟨env1,S1,e1,c1,e2,p1,k⟩:=step d hd env S' hC.1 hC.2;refine⟨env1,S',sel d,S1,e1,e2,?_⟩;cases hs:sel d with
  |false=>exact .inl ⟨rfl,by simp,c1,hC.2.trans p1⟩
  |true =>
   obtain⟨S2,e3,p2⟩:=k hs;refine .inr ⟨rfl,env1,S2,?_,c1,(hC.2.trans p1).trans p2⟩;simp only[Ds];exact j9 e3 (by simp only[hs,Ds,Dz] at hl;omega))
 refine⟨env',S',?_,q⟩;rw[e,Jt,uH]
theorem QQ (h:fi env S0=.ok (o,xs.map enc) S)(hst:stn o S)(sel:α->Ar)(val:α->D)(C:qB->Prop)(h0:C (x8 cap env))(hl:xs.length<=lim)
  (step:∀ x∈xs,∀ env S',C env->S<+:S'->∃ env1 S1,g (enc x) env S'=.ok env1 S'/\C env1/\t env1 S'=.ok (sel x) S1/\S'<+:S1/\(sel x=true->∃ S2,fe env1 S1=.ok (val x) S2/\S1<+:S2)) :
  ∃ S',zA false cap fi g t (zB fe) env S0=.ok (.lst ((xs.filter sel).map val)) S'/\S<+:S':=by
 obtain⟨env',S',e,q⟩:=AI hst sel val C h0 hl step;exact⟨S',vO h e,q⟩
theorem E5 (hst:stn o S)(sel:α->Ar)(val:α->D)(C:qB->Prop)(h0:C env)(hl:xs.length<=lim)
  (step:∀ x∈xs,∀ env,C env->∃ env1,g (enc x) env S=.ok env1 S/\C env1/\t env1 S=.ok (sel x) S/\(sel x=true->fe env1 S=.ok (val x) S)) :
  ∃ env',goL o g t (zB fe) (xs.map enc) env S [] = .ok (env',(xs.filter sel).map val) S:=by
 have lf:(xs.flatMap λd=>if sel d then [val d] else []).length<=lim:=by
  rw[uH,Ak];exact Df (Ib _ _) hl
 obtain⟨env',S',e,_,q⟩:=goT (enc:=enc) (o:=o) (g:=g) (t:=t) (k:=zB fe) (λd=>if sel d then [val d] else []) (λenv S'=>C env/\S'=S) (λ_ _ h=>h.2▸hst) xs env S [] ⟨h0,rfl⟩ (by simpa using lf) (λd hd env S' acc hC hl=>by
  obtain⟨hc,rfl⟩:=hC;obtain⟨env1,e1,c1,e2,k⟩:=step d hd env hc;refine⟨env1,S',sel d,S',e1,e2,?_⟩;cases hs:sel d with
  |false=>exact .inl ⟨rfl,by simp,c1,rfl⟩
  |true =>
   refine .inr ⟨rfl,env1,S',?_,c1,rfl⟩;simp only[Ds];exact j9 (k hs) (by simp only[hs,Ds,Dz] at hl;omega))
 subst q;refine⟨env',?_⟩;rw[e,Jt,uH]
theorem cG (h:fi env S=.ok (o,xs.map enc) S)(hst:stn o S)(sel:α->Ar)(val:α->D)(C:qB->Prop)(h0:C (x8 cap env))(hl:xs.length<=lim)
  (step:∀ x∈xs,∀ env,C env->∃ env1,g (enc x) env S=.ok env1 S/\C env1/\t env1 S=.ok (sel x) S/\(sel x=true->fe env1 S=.ok (val x) S)) :
  zA false cap fi g t (zB fe) env S=.ok (.lst ((xs.filter sel).map val)) S:=by
 obtain⟨env',e⟩:=E5 hst sel val C h0 hl step;exact vO h e
theorem cH {fi2:DI2}{g2:DG}{t2:DT}{o2:Al (Ai × MO)}(h:fi env S=.ok (o,xs.map enc) S)(hst:stn o S)(hst2:stn o2 S)(ys:α->Aa β)(sel:α->β->Ar)(val:α->β->D)(C:qB->Prop)(C2:α->qB->Prop)(h0:C (x8 cap env))(hC2:∀ x env,C2 x env->C env)
  (hl:(xs.flatMap λx=>((ys x).filter (sel x)).map (val x)).length<=lim)
  (step:∀ x∈xs,∀ env,C env->∃ env1,g (enc x) env S=.ok env1 S/\C2 x env1/\t env1 S=.ok true S/\fi2 env1 S=.ok (o2,(ys x).map enc2) S)
  (step2:∀ x∈xs,∀ y∈ys x,∀ env,C2 x env->∃ env1,g2 (enc2 y) env S=.ok env1 S/\C2 x env1/\t2 env1 S=.ok (sel x y) S/\(sel x y=true->fe env1 S=.ok (val x y) S)) :
  zA false cap fi g t (kIn fi2 g2 t2 (zB fe)) env S=.ok (.lst (xs.flatMap λx=>((ys x).filter (sel x)).map (val x))) S:=by
 obtain⟨env',S',e,_,q⟩:=goT (enc:=enc) (o:=o) (g:=g) (t:=t) (k:=kIn fi2 g2 t2 (zB fe)) (λx=>((ys x).filter (sel x)).map (val x)) (λenv S'=>C env/\S'=S) (λ_ _ h=>h.2▸hst) xs (x8 cap env) S [] ⟨h0,rfl⟩ (by simpa using hl) (λd hd env S' acc hC hl=>by
  obtain⟨hc,rfl⟩:=hC;obtain⟨env1,e1,c1,e2,e3⟩:=step d hd env hc;obtain⟨env2,S2,e4,q,r⟩:=goT (enc:=enc2) (o:=o2) (g:=g2) (t:=t2) (k:=zB fe) (λx=>if sel d x then [val d x] else []) (λenv S''=>C2 d env/\S''=S') (λ_ _ h=>h.2▸hst2) (ys d) env1 S' acc ⟨c1,rfl⟩ (by rw[uH];exact hl) (λx hx env S'' acc hC hl=>by
   obtain⟨hc,rfl⟩:=hC;obtain⟨env3,f1,f2,f3,f4⟩:=step2 d hd x hx env hc;refine⟨env3,S'',sel d x,S'',f1,f3,?_⟩;cases hs:sel d x with
   |false=>exact .inl ⟨rfl,by simp,f2,rfl⟩
   |true =>
    refine .inr ⟨rfl,env3,S'',?_,f2,rfl⟩;simp only[Ds];exact j9 (f4 hs) (by simp only[hs,Ds,Dz] at hl;omega))
  subst r;refine⟨env1,S2,true,S2,e1,e2,.inr ⟨rfl,env2,S2,?_,hC2 d _ q,rfl⟩⟩;unfold kIn;rw[e3];simp only[Res.bind];rw[e4,uH])
 subst q;have:=vO (cap:=cap) h e
 rwa [Jt] at this
end
theorem wF {o:G2}{f g:DE}{env:qB}{S:Sto}{a b:D}(h1:f env S=.ok a S1)(h2:g env S1=.ok b S2):d2 o f g env S=o a b S2:=by
 unfold d2;rw[h1];simp only[Res.bind];rw[h2]
theorem kY {env:qB}{S:Sto}{a:D}(h1:f1 env S=.ok a S1):qE 1 F (q8 f1 (qA)) env S=F [a] S1:=by
 simp only[qE,q8,qA,h1,Res.bind,AT,Cd,Ds]
theorem JA {env:qB}{S:Sto}{a b:D}(h1:f1 env S=.ok a S1)(h2:f2 env S1=.ok b S2):qE 2 F (q8 f1 (q8 f2 (qA))) env S=F [a,b] S2:=by
 simp only[qE,q8,qA,h1,h2,Res.bind,AT,Cd,Ds]
theorem MB {env:qB}{S:Sto}{a:D}(h1:f1 env S=.ok a S1):qR F (q8 f1 (qA)) env S=F [a] S1:=by
 simp only[qR,q8,qA,h1,Res.bind]
theorem K4 {f:DE}{env:qB}{S:Sto}{b:Ar}(h:f env S=.ok (.bl b) S1):dTr f env S=.ok b S1:=by
 unfold dTr;rw[h];rfl
theorem MM {env:qB}{S:Sto}{a:D}(h1:f1 env S=.ok a S1):q8 f1 (qA) env S=.ok [a] S1:=by
 simp only[q8,qA,h1,Res.bind]
theorem r0 {env:qB}{S:Sto}{a b:D}(h1:f1 env S=.ok a S1)(h2:f2 env S1=.ok b S2):q8 f1 (q8 f2 (qA)) env S=.ok [a,b] S2:=by
 simp only[q8,qA,h1,h2,Res.bind]
theorem RM {f:DE}{g:DA}{env:qB}{S:Sto}{a:D}(h:f env S=.ok a S1)(k:g env S1=.ok as S2):q8 f g env S=.ok (a::as) S2:=by
 simp only[q8,h,k,Res.bind]
theorem W7 {g:DA}{env:qB}{S:Sto}(k:g env S=.ok as S1)(h:as.length<=lim):zP g env S=.ok (.tup as) S1:=by
 simp only[zP,k,Res.bind,h,Ds]
theorem eU {env:qB}{i:Ai}{d:D}{S:Sto}(h:env[i]? = Ab (Ab d)):q9 i env S=.ok d S:=by simp only[q9,h]
theorem ZC {α:Type}(l:Aa α) : l.filter (λ_=>true)=l:=by simp
theorem QF {α:Type}(p:α->Ar)(l:Aa α) : wJ (l.map λx=>D.bl (p x))=Ab (l.map p):=by
 induction l with
 |nil=>rfl
 |cons x l ih =>
  show (wJ (l.map λx=>D.bl (p x))).map (p x::·)=_
  rw[ih];rfl
theorem NU {i j:Ai}{env:qB}{S:Sto}{a b:D}{Q:qB->Sto->Prop}(h1:f1 env S=.ok a S1)(h2:f2 env S1=.ok b S2)(q:Q ((env.set i (Ab a)).set j (Ab b)) S2):Nx (gY i j (q8 f1 (q8 f2 (qA))) env S) Q:=by
 unfold gY;rw[r0 h1 h2];exact oF rfl q
theorem nJ {f:DE}{g:DG}{env env1:qB}{S:Sto}{d:D}{Q:qB->Sto->Prop}(h1:f env S=.ok d S1)(h2:g d env S1=.ok env1 S2)(q:Q env1 S2):Nx (z0 f g env S) Q:=by
 unfold z0;rw[h1];simp only[Res.toS];rw[h2];exact oF rfl q
section
variable {β γ:Type}{env:qB}{S:Sto}
theorem qZ {r:Res β}{k:β->Sto->Res γ}{Q:γ->Sto->Prop}(h:Ok r λd S1=>Ok (k d S1) Q):Ok (r.bind k) Q:=by
 obtain⟨d,S1,rfl,h⟩:=h;exact h
theorem xK {r:Res β}{d:β}(h:Ok r λd' S'=>d'=d/\S'=S):r=.ok d S:=by
 obtain⟨_,_,e,rfl,rfl⟩:=h;exact e
theorem zR {r:Res β}{Q Q':β->Sto->Prop}(h:Ok r Q)(k:∀ d S,Q d S->Q' d S):Ok r Q':=by
 obtain⟨d,S,e,q⟩:=h;exact⟨d,S,e,k d S q⟩
variable {Q:D->Sto->Prop}{f g:DE}{fa:DA}{o:G2}{i j:Ai}
theorem o_c {d:D}(h:Q d S):Ok (dC d env S) Q:=⟨_,_,rfl,h⟩
theorem o_v {d:D}(e:env[i]? = Ab (Ab d))(h:Q d S):Ok (q9 i env S) Q:=⟨_,_,eU e,h⟩
theorem o_2 (h:Ok (f env S) λa S1=>Ok (g env S1) λb S2=>Ok (o a b S2) Q):Ok (d2 o f g env S) Q:=qZ (zR h λ_ _=>qZ)
theorem o_1 {u:D->Sto->Res D}(h:Ok (f env S) λa S1=>Ok (u a S1) Q):Ok (d1 u f env S) Q:=qZ h
theorem s9 {Q:Aa D->Sto->Prop}(h:Q [] S):Ok (qA env S) Q:=⟨_,_,rfl,h⟩
theorem kO {Q:Aa D->Sto->Prop}(h:Ok (f env S) λa S1=>Ok (fa env S1) λas S2=>Q (a::as) S2):Ok (q8 f fa env S) Q:=qZ (zR h λ_ _ k=>qZ (zR k λ_ _ q=>⟨_,_,rfl,q⟩))
theorem OI (h:Ok (fa env S) λas S1=>as.length<=lim/\Q (.tup as) S1):Ok (zP fa env S) Q:=qZ (zR h λ_ _ k=>⟨_,_,Bd k.1,k.2⟩)
theorem EL (h:Ok (fa env S) λas S1=>as.length<=lim/\Q (.lst as) S1):Ok (pQ fa env S) Q:=qZ (zR h λ_ _ k=>⟨_,_,Bd k.1,k.2⟩)
theorem IX (h:Ok (fa env S) λas S1=>as.length<=lim/\Q (.loc S1.length) (S1++[.lst as])):Ok (bI fa env S) Q:=qZ (zR h λ_ _ k=>⟨_,_,Bd k.1,k.2⟩)
theorem O9 (h:Q (.loc S.length) (S++[.dct []])) : Ok (sZ env S) Q:=⟨_,_,rfl,h⟩
theorem NY (h:Ok (fa env S) λas S1=>as.length=n/\Ok (F as S1) Q):Ok (qE n F fa env S) Q:=qZ (zR h λ_ _ k=>by rw[Bd k.1];exact k.2)
theorem OE (h:Ok (F as S) Q):Ok (okO F as S) Q:=by
 obtain⟨d,S1,e,q⟩:=h;exact⟨d,S1,LI e,q⟩
theorem OP (h:Ok (fa env S) λas S1=>Ok (F as S1) Q):Ok (qR F fa env S) Q:=qZ h
theorem O8 {a b:An}(h:Q (.int (a+b)) S):Ok (zH (.int a) (.int b) S) Q:=⟨_,_,rfl,h⟩
theorem jC {a b:Aa D}(l:a.length+b.length<=lim)(h:Q (.tup (a++b)) S):Ok (zH (.tup a) (.tup b) S) Q:=⟨_,_,Bd l,h⟩
theorem mU {a b:Aa D}(l:a.length+b.length<=lim)(h:Q (.lst (a++b)) S):Ok (zH (.lst a) (.lst b) S) Q:=⟨_,_,Bd l,h⟩
theorem OH {a b:An}(h:Q (.int (a-b)) S):Ok (xY (.int a) (.int b) S) Q:=⟨_,_,rfl,h⟩
theorem OD {a:An}(h:Q (.int (-a)) S):Ok (iV (.int a) S) Q:=⟨_,_,rfl,h⟩
theorem OC {a b:An}(l : -(2 ^ 64)<a/\a<2 ^ 64)(h:Q (.int (a*b)) S):Ok (xV (.int a) (.int b) S) Q:=by
 refine⟨_,_,?_,h⟩;unfold xV i2;rw[sQ];unfold sO;simp only[l,and_self,Kn,Bool.true_or,Ds]
theorem OB {a b:An}(l:0<b)(h:Q (.int (a % b)) S):Ok (jX (.int a) (.int b) S) Q:=by
 refine⟨_,_,?_,h⟩;unfold jX i2;simp[l]
theorem OA {a b:An}(l:0<b/\b<1073741824)(h:Q (.int (a/b)) S):Ok (uZ (.int a) (.int b) S) Q:=by
 refine⟨_,_,?_,h⟩;unfold uZ i2 M9;simp[l]
theorem OX {a b:An}(h:Q (.bl (decide (a<b))) S):Ok (gLt (.int a) (.int b) S) Q:=⟨_,_,rfl,h⟩
theorem OW {a b:An}(h:Q (.bl (decide (b<a))) S):Ok (gGt (.int a) (.int b) S) Q:=⟨_,_,rfl,h⟩
theorem OU {a b:An}(h:Q (.bl (decide (b<=a))) S):Ok (gGe (.int a) (.int b) S) Q:=⟨_,_,rfl,h⟩
theorem OS {a b:An}(h:Q (.bl (decide (a=b))) S):Ok (gEq (.int a) (.int b) S) Q:=⟨_,_,by kernel_rfl!,h⟩
theorem OY {a b:An}(h:Q (.bl (!decide (a=b))) S):Ok (gNe (.int a) (.int b) S) Q:=⟨_,_,by kernel_rfl!,h⟩
theorem oI {a:Aa D}{k:An}{d:D}(e:_L.atI a k=Ab d)(h:Q d S):Ok (gIx (.tup a) (.int k) S) Q:=⟨d,S,by show _D.yO (_L.atI a k) S=_;rw[e];rfl,h⟩
theorem oH {a:Aa D}{k:An}{d:D}(e:_L.atI a k=Ab d)(h:Q d S):Ok (gIx (.lst a) (.int k) S) Q:=⟨d,S,by show _D.yO (_L.atI a k) S=_;rw[e];rfl,h⟩
theorem IW {a:Aa D}(h:Q (.int a.length) S):Ok (zT [.tup a] S) Q:=⟨_,_,rfl,h⟩
theorem IV {a:Aa D}(h:Q (.int a.length) S):Ok (zT [.lst a] S) Q:=⟨_,_,rfl,h⟩
theorem O0 {a:Aa D}(h:Q (.tup a) S):Ok (uX [.lst a] S) Q:=⟨_,_,rfl,h⟩
theorem jT (h:Ok (f env S) λd S1=>∃ b,d=.bl b/\(b=true->Ok (g env S1) Q)/\(b=false->Q (.bl false) S1)):Ok (vW f g env S) Q:=qZ (zR h λd S1 ⟨b,e,k1,k2⟩=>by
 subst e;cases b with
 |true=>exact k1 rfl
 |false=>exact⟨_,_,rfl,k2 rfl⟩)
theorem qAD {fl fh:DO}(h:Ok (f env S) λd S1=>Ok (fl env S1) λlo S2=>Ok (fh env S2) λhi S3=>Ok (gSl d lo hi S3) Q):Ok (dSl f fl fh env S) Q:=qZ (zR h λ_ _ k=>qZ (zR k λ_ _=>qZ))
theorem OG {a:Aa D}(h:Q (.tup (xO a lo hi)) S):Ok (gSl (.tup a) lo hi S) Q:=⟨_,_,rfl,h⟩
theorem OF {a:Aa D}(h:Q (.lst (xO a lo hi)) S):Ok (gSl (.lst a) lo hi S) Q:=⟨_,_,rfl,h⟩
theorem OQ {Q:Al An->Sto->Prop}(h:Q none S):Ok (xX env S) Q:=⟨_,_,rfl,h⟩
theorem OR {Q:Al An->Sto->Prop}(h:Ok (f env S) λd S1=>∃ k,d=.int k/\Q (Ab k) S1):Ok (xA f env S) Q:=qZ (zR h λ_ _ ⟨_,e,q⟩=>by subst e;exact⟨_,_,rfl,q⟩)
theorem OO {T:Ek}{m:D->Aa D->Sto->Res D}(h:Ok (f env S) λa S1=>tyD a S1=Ab T/\Ok (fa env S1) λas S2=>Ok (m a as S2) Q):Ok (dBm T m f fa env S) Q:=qZ (zR h λ_ _ k=>by rw[k.1,Bd (by simp)];exact qZ k.2)
theorem EI {xs:Aa D}{d:D}(e:S[i]? = Ab (.lst xs))(l:xs.length<lim)(h:Q .non (S.set i (.lst (xs++[d])))):Ok (xQ (.loc i) [d] S) Q:=by
 refine⟨_,_,?_,h⟩;show (match S[i]? with|some (.lst xs)=>(if xs.length<lim then Res.ok D.non (S.set i (.lst (xs++[d]))) else .bad)|_=>.bad)=_
 rw[e];exact Bd l
variable {Q:Ar->Sto->Prop}{t u:DT}
theorem qAF (h:Ok (f env S) λd S1=>∃ b,xP d S1=Ab b/\Q b S1):Ok (dTr f env S) Q:=qZ (zR h λd S1 ⟨b,e,k⟩=>by
 rw[e];exact⟨_,_,rfl,k⟩)
theorem IY (h:Ok (t env S) λb S1=>Q (!b) S1):Ok (wH t env S) Q:=qZ (zR h λ_ _ k=>⟨_,_,rfl,k⟩)
theorem OJ (h:Q true S):Ok (zW env S) Q:=⟨_,_,rfl,h⟩
theorem uD (h:Ok (t env S) λb S1=>(b=true->Q true S1)/\(b=false->Ok (u env S1) Q)):Ok (vX t u env S) Q:=qZ (zR h λb S1 k=>by
 cases b with
 |true=>exact⟨_,_,rfl,k.1 rfl⟩
 |false=>exact k.2 rfl)
theorem NW (h:Ok (t env S) λb S1=>(b=true->Ok (u env S1) Q)/\(b=false->Q false S1)):Ok (wG t u env S) Q:=qZ (zR h λb S1 k=>by
 cases b with
 |true=>exact k.1 rfl
 |false=>exact⟨_,_,rfl,k.2 rfl⟩)
theorem fK {xs:Aa D}{a:Ai}(h:a<xs.length):_L.atI xs (a:An)=Ab xs[a]:=by
 have e:_L.ixN xs.length (a:An)=Ab a:=by simp[_L.ixN];lia
 simp[_L.atI,e,h]
theorem cB (S:Sto)(m:MO):(S++[m])[S.length]? = Ab m:=by simp
theorem K6 {xs:Aa D}(h:S[j]? = Ab (.lst xs)):tyD (.loc j) S=Ab "list":=by
 show (match S[j]? with|some (.lst _)=>Ab "list" | some (.dct _)=>Ab "dict" | _=>none)=_
 rw[h]
theorem EJ {Q:D->Sto->Prop}{a:Aa D}{k:Ai}(h:k<a.length)(q:∀ d∈a,Q d S):Ok (gIx (.lst a) (.int (k:An)) S) Q:=oH (fK h) (q _ (Kl h))
theorem IU {Q:Aa D->Sto->Prop}(h:Ok (f env S) λd S1=>∃ xs,d=.tup xs/\Q (yH xs) S1):Ok (dN (q8 f qA) env S) Q:=qZ (kO (zR h λ_ _ ⟨xs,e,q⟩=>s9 ⟨_,_,by rw[e];rfl,q⟩))
theorem PM {Q:Aa D->Sto->Prop}(h:Ok (f env S) λd S1=>∃ ds,xD d=Ab ds/\Q ds S1):Ok (w9 f env S) Q:=qZ (zR h λd S1 ⟨ds,e,k⟩=>⟨ds,S1,by rw[e];rfl,k⟩)
theorem oJ {Q:Aa D->Sto->Prop}(h:Ok (fa env S) λas S1=>∃ ds,jE as=Ab ds/\Q ds S1):Ok (wC fa env S) Q:=qZ (zR h λd S1 ⟨ds,e,k⟩=>⟨ds,S1,by rw[e];rfl,k⟩)
theorem oR (n:Ai)(h:n<=1000000):jE [.int (n:An)]=Ab ((Cz n).map λ(i:Ai)=>D.int (i:An)):=by
 unfold jE;have : -(2 ^ 62)<=(n:An)/\(n:An)<2 ^ 62:=⟨by lia,by lia⟩
 refine(Bd this).trans ?_;unfold xS;rw[Gq]
 congr 2
 funext i
 rw[Int.zero_add]
theorem IZ {Q:Aa D->Sto->Prop}(h:Ok (f env S) λd S1=>∃ k:An,d=.int k/\0<=k/\k<=1000000/\Q ((Cz k.toNat).map λ(i:Ai)=>D.int (i:An)) S1):Ok (wC (q8 f qA) env S) Q:=oJ (kO (zR h λ_ _ ⟨k,e,h0,h1,q⟩=>s9 ⟨_,by
 have:=oR k.toNat li;rw[Wy h0] at this;rw[e,this],q⟩))
theorem uC {Q:D->Sto->Prop}{xs:Aa D}{k:An}{d:D}(e:S[i]? = Ab (.lst xs))(e':_L.atI xs k=Ab d)(h:Q d S):Ok (gIx (.loc i) (.int k) S) Q:=by
 refine⟨d,S,?_,h⟩;show (match S[i]? with|some (.lst xs)=>_D.yO (_L.atI xs k) S|_=>.bad)=_
 rw[e];show _D.yO (_L.atI xs k) S=_;rw[e'];rfl
theorem rY {Q:D->Sto->Prop}{xs:Aa D}(e:S[i]? = Ab (.lst xs))(h:Q (.int xs.length) S):Ok (zT [.loc i] S) Q:=by
 refine⟨_,_,?_,h⟩;have e':oB (.loc i) S=Ab xs.length:=by
  show (match S[i]? with|some (.lst xs)=>Ab xs.length|_=>none)=_
  rw[e]
 show (match oB (.loc i) S with|some n=>Res.ok (D.int n) S|none=>.bad)=_
 rw[e']
theorem XI {Q:Vi->Sto->Prop}{xs:Aa D}{d:D}{n:An}(e:S[i]? = Ab (.lst xs))(e':_L.ixN xs.length n=Ab j)(h:Q () (S.set i (.lst (xs.set j d)))):Ok (y9 (.loc i) (.int n) d S) Q:=by
 refine⟨_,_,?_,h⟩;simp[y9,fR,e,e']
theorem r8 {kvs:Aa (_L.Key × D)}(h:S[i]? = Ab (.dct kvs)):bJ (.loc i) S=Ab kvs:=by
 show (match S[i]? with|some (.dct kvs)=>Ab kvs|_=>none)=_
 rw[h]
theorem o8 {xs:Aa D}(h:env[i]? = Ab (Ab (.tup xs))):dIt (q9 i) env S=.ok (none,xs) S:=by
 unfold dIt;rw[eU h];rfl
theorem o7 {xs:Aa D}(h:env[i]? = Ab (Ab (.lst xs))):dIt (q9 i) env S=.ok (none,xs) S:=by
 unfold dIt;rw[eU h];rfl
theorem AM (h:n<=1000000):xB (wC (q8 (dC (.int (n:An))) qA)) env S=.ok (none,(Cz n).map λ(i:Ai)=>D.int (i:An)) S:=xK (qZ (oJ (kO (o_c (s9 ⟨_,oR n h,_,_,rfl,rfl,rfl⟩)))))
theorem rE {α:Type}(f:α->β):∀ l:Aa α,l.flatMap (λx=>[f x])=l.map f
 |[]=>rfl
 |x::l=>by rw[Ly,rE f l];rfl
theorem wU {α:Type}{enc:α->D}{o:Al (Ai × MO)}{cap:Aa (Al Ai)}{fi:DI2}{tg:DG}{fe:DE}{Q:D->Sto->Prop}(xs:Aa α)(val:α->D)(C:qB->Sto->Prop)(hi:fi env S=.ok (o,xs.map enc) S1)(h0:C (x8 cap env) S1)(hl:xs.length<=lim)(hst:∀ env S,C env S->stn o S)
  (step:∀ x∈xs,∀ env S,C env S->Ok (tg (enc x) env S) λenv1 S1=>Ok (t env1 S1) λb S2=>b=true/\Ok (fe env1 S2) λd S3=>d=val x/\C env1 S3) (q:∀ env' S',C env' S'->Q (.lst (xs.map val)) S'):Ok (zA false cap fi tg t (zB fe) env S) Q:=by
 have fm:=rE val xs;obtain⟨env',S',e,c⟩:=goT (enc:=enc) (o:=o) (g:=tg) (t:=t) (k:=zB fe) (λx=>[val x]) C hst xs (x8 cap env) S1 [] h0 (by rw[fm,Ak];simpa using hl) (λx hx env S acc hC hl=>by
  obtain⟨env1,S1,e1,b,S2,e2,rfl,d,S3,e3,rfl,c3⟩:=step x hx env S hC;exact⟨env1,S1,true,S2,e1,e2,.inr ⟨rfl,env1,S3,j9 e3 (by simp at hl;lia),c3⟩⟩)
 rw[fm,Jt] at e;exact⟨_,_,vO hi e,q env' S' c⟩
theorem N3 {α:Type}{enc:α->D}{o:Al (Ai × MO)}{tg:DG}{fe:DE}(R:D->Prop)(C:qB->Sto->Prop)(hst:∀ env S,C env S->stn o S) :
  ∀ (xs:Aa α) (env:qB) (S:Sto) (acc:Aa D),C env S->acc.length+xs.length<=lim->(∀ x∈xs,∀ env S,C env S->Ok (tg (enc x) env S) λenv1 S1=>Ok (t env1 S1) λb S2=>b=true/\Ok (fe env1 S2) λd S3=>R d/\C env1 S3) ->
  ∃ env' S' ds,goL o tg t (zB fe) (xs.map enc) env S acc=.ok (env',acc++ds) S'/\C env' S'/\ds.length=xs.length/\∀ d∈ds,R d
 |[],env,S,acc,h,_,_=>⟨env,S,[],by simp[goL,yP.mpr (hst _ _ h)],h,rfl,λ_ h=>by cases h⟩
 |x::xs,env,S,acc,h,hl,step=>by
  obtain⟨env1,S1,e1,b,S2,e2,rfl,d,S3,e3,hr,c3⟩:=step x (Dl ..) env S h;rw[AT] at hl;obtain⟨env',S',ds,e,c,l,hR⟩:=N3 R C hst xs env1 S3 (acc++[d]) c3 (by rw[Aw];show _+1+_<=lim;lia) λy hy=>step y (Cn _ hy)
  refine⟨env',S',d::ds,?_,c,by rw[AT,AT,l],λz hz=>?_⟩
  .simp only[De,goL,yP.mpr (hst _ _ h),Ds,e1,e2,Res.bind,j9 e3 (show acc.length<lim by lia)]
   rw[e,Ch];rfl
  .rcases Az.mp hz with rfl|hz
   .exact hr
   .exact hR z hz
theorem aF {α:Type}{enc:α->D}{o:Al (Ai × MO)}{cap:Aa (Al Ai)}{fi:DI2}{tg:DG}{fe:DE}{Q:D->Sto->Prop}(xs:Aa α)(R:D->Prop)(C:qB->Sto->Prop)(hi:fi env S=.ok (o,xs.map enc) S1)(h0:C (x8 cap env) S1)(hl:xs.length<=lim)(hst:∀ env S,C env S->stn o S)
  (step:∀ x∈xs,∀ env S,C env S->Ok (tg (enc x) env S) λenv1 S1=>Ok (t env1 S1) λb S2=>b=true/\Ok (fe env1 S2) λd S3=>R d/\C env1 S3) (q:∀ ds env' S',ds.length=xs.length->(∀ d∈ds,R d)->C env' S'->Q (.lst ds) S'):Ok (zA false cap fi tg t (zB fe) env S) Q:=by
 obtain⟨env',S',ds,e,c,l,hR⟩:=N3 (enc:=enc) (o:=o) (tg:=tg) (t:=t) (fe:=fe) R C hst xs (x8 cap env) S1 [] h0 (by simpa using hl) step
 exact⟨_,_,vO hi e,q ds env' S' l hR c⟩
theorem mV {α:Type}{Q:D->Sto->Prop}{l:Aa α}{p:α->Ar}(h:Q (.bl (l.all p)) S):Ok (gD false [.lst (l.map λx=>.bl (p x))] S) Q:=by
 refine⟨_,_,?_,h⟩;show (match (xD (.lst (l.map λx=>D.bl (p x)))).bind wJ with|some bs=>Res.ok (D.bl (bs.all id)) S|none=>.bad)=_
 rw[show (xD (.lst (l.map λx=>D.bl (p x)))).bind wJ=Ab (l.map p) from QF p l]
 simp only[Jn];rfl
theorem qAC {Q:qB->Sto->Prop}{h:G3}{d:D}(k:Ok (f env S) λa S1=>Ok (g env S1) λb S2=>Ok (h a b d S2) λ_ S3=>Q env S3):Ok (gSb f g h d env S) Q:=qZ (zR k λ_ _ k=>qZ (zR k λ_ _ k=>qZ (zR k λ_ _ q=>⟨_,_,rfl,q⟩)))
variable {Q:qB->Sto->Prop}
theorem OZ {d:D}(h:Q (env.set i (Ab d)) S):Ok (gNm i d env S) Q:=⟨_,_,rfl,h⟩
theorem qAE {gs:DGs}{xs:Aa D}(h:xs.length=n/\Ok (gs xs env S) Q):Ok (gTp n gs (.tup xs) env S) Q:=by
 obtain⟨d,S1,e,q⟩:=h.2;exact⟨d,S1,by show (if xs.length=n then gs xs env S else .bad)=_;rw[Bd h.1];exact e,q⟩
theorem OV (h:Q env S):Ok (xJ [] env S) Q:=⟨_,_,rfl,h⟩
theorem OT {t:DG}{gs:DGs}{x:D}{xs:Aa D}(h:Ok (t x env S) λenv1 S1=>Ok (gs xs env1 S1) Q):Ok (qX t gs (x::xs) env S) Q:=qZ h
def Wo (P:Out->Prop)(o:Out):Prop:=P o
def UN (g:DS)(P:Out->Prop):Out->Prop
 |.nx env S=>P (g env S)
 |o=>P o
noncomputable def cD (b:Ar)(f g:DS):DS:=match b with
 |true=>f
 |false=>g
def AD (Q:D->Sto->Prop):Out->Prop
 |.rt d S=>Q d S
 |.nx _ S=>Q .non S
 |_=>Fv
def dY {α:Type}(I:Aa α -> qB->Sto->Prop)(xs:Aa α)(P:Out->Prop):Out->Prop
 |.nx env S=>I xs env S
 |.ct env S=>I xs env S
 |.bk env S=>P (.nx env S)
 |o=>P o
variable {P:Out->Prop}{sf sg:DS}{fi:DI}{tg:DG}{d:D}
theorem C9 (h:Wo (UN sg P) (sf env S)):Wo P (qM sf sg env S):=by
 unfold qM;unfold Wo at h ⊢;cases e:sf env S <;> rw[e] at h <;> exact h
theorem Q5 (R:qB->Sto->Prop)(h:∀ P':Out->Prop,(∀ env S,R env S->Wo P' (.nx env S))->Wo P' (sf env S))(k:∀ env S,R env S->Wo P (sg env S)):Wo P (qM sf sg env S):=C9 (h _ k)
theorem qAH (h:Wo P (sg env S)):Wo (UN sg P) (.nx env S):=h
theorem qAI (h:Wo P (.rt d S)):Wo (UN sg P) (.rt d S):=h
theorem O6 (h:Wo P (.nx env S)):Wo P (zN env S):=h
theorem pA {r:Res β}{k:β->Sto->Out}(h:Ok r λd S1=>Wo P (k d S1)):Wo P (r.toS env k):=by
 obtain⟨d,S1,rfl,h⟩:=h;exact h
theorem OK (h:Ok (f env S) λd S1=>Ok (tg d env S1) λenv' S2=>Wo P (.nx env' S2)):Wo P (z0 f tg env S):=pA (zR h λ_ _=>pA)
theorem O1 (h:Ok (f env S) λ_ S1=>Wo P (.nx env S1)):Wo P (xM f env S):=pA h
theorem ON (h:Ok (f env S) λd S1=>Wo P (.rt d S1)):Wo P (qY f env S):=pA h
theorem OM (h:Ok (fa env S) λds S1=>∃ a b,ds=[a,b]/\Wo P (.nx ((env.set i (Ab a)).set j (Ab b)) S1)):Wo P (gY i j fa env S):=pA (zR h λ_ _ ⟨_,_,e,q⟩=>by subst e;exact q)
theorem qAG (h:Ok (t env S) λb S1=>Wo P (cD b sf sg env S1)):Wo P (sIf t sf sg env S):=pA (zR h λb S1 q=>by cases b <;> exact q)
theorem w_t (h:Wo P (sf env S)):Wo P (cD true sf sg env S):=h
theorem w_f (h:Wo P (sg env S)):Wo P (cD false sf sg env S):=h
theorem OL {b:Ar}(h:Wo P (cD b sg sf env S)):Wo P (cD (!b) sf sg env S):=by cases b <;> exact h
theorem vB {p:Prop}[Ju p](h1:p->Wo P (sf env S))(h2:¬ p->Wo P (sg env S)):Wo P (cD (decide p) sf sg env S):=by
 by_cases h:p
 .rw[Cp h];exact h1 h
 .rw[Dj h];exact h2 h
theorem C8 (h:Ok (fi env S) λds S1=>Wo P (yK tg sf ds env S1)):Wo P (wV fi tg sf env S):=pA h
theorem wX {α:Type}{enc:α->D}(I:Aa α -> qB->Sto->Prop)(turn:∀ x xs env S,I (x::xs) env S->Ok (tg (enc x) env S) λenv1 S1=>Wo (dY I xs P) (sf env1 S1))(last:∀ env S,I [] env S->Wo P (.nx env S)) :
  ∀ {xs:Aa α} {env:qB} {S:Sto},I xs env S->Wo P (yK tg sf (xs.map enc) env S)
 |[],env,S,h=>last env S h
 |x::xs,env,S,h=>by
  obtain⟨env1,S1,e1,h1⟩:=turn x xs env S h;rw[De,yK];unfold Wo at h1 ⊢;simp only[e1,Res.toS];cases e2:sf env1 S1 with
  |nx env2 S2=>rw[e2] at h1;exact wX I turn last h1
  |ct env2 S2=>rw[e2] at h1;exact wX I turn last h1
  |bk env2 S2=>rw[e2] at h1;exact h1
  |rt d2 S2=>rw[e2] at h1;exact h1
  |ex c2 x2 env2 S2=>rw[e2] at h1;exact h1
  |bad=>rw[e2] at h1;exact h1
theorem FH (I:Aa D->qB->Sto->Prop)(turn:∀ x xs env S,I (x::xs) env S->Ok (tg x env S) λenv1 S1=>Wo (dY I xs P) (sf env1 S1))(last:∀ env S,I [] env S->Wo P (.nx env S)){xs:Aa D}{env:qB}{S:Sto}(h:I xs env S):Wo P (yK tg sf xs env S):=by
 have:=wX (enc:=id) I turn last h
 rwa [Rg] at this
def whQ (I:Ai->qB->Sto->Prop)(n:Ai)(P:Out->Prop):Out->Prop
 |.nx env S=>∃ m,m<n/\I m env S
 |.ct env S=>∃ m,m<n/\I m env S
 |.bk env S=>P (.nx env S)
 |o=>P o
theorem FI (I:Ai->qB->Sto->Prop)(turn:∀ n env S,I n env S->Ok (t env S) λb S1=>(b=true->Wo (whQ I n P) (sf env S1))/\(b=false->Wo P (.nx env S1))){n:Ai}(hn:n<big)(h:I n env S):Wo P (tE t sf env S):=by
 have key:∀ N n env S,n<N->I n env S->Wo P (vV t sf N env S):=by
  intro N
  induction N with
  |zero=>intro n env S h;lia
  |succ N ih =>
   intro n env S h hI;obtain⟨b,S1,e1,k1,k2⟩:=turn n env S hI;unfold vV;rw[e1];cases b with
   |false=>exact k2 rfl
   |true =>
    have k:=k1 rfl;unfold Wo at k ⊢;simp only[Res.toS,Ds];cases e2:sf env S1 with
    |nx env2 S2=>rw[e2] at k;obtain⟨m,hm,hI2⟩:=k;exact ih m env2 S2 li hI2
    |ct env2 S2=>rw[e2] at k;obtain⟨m,hm,hI2⟩:=k;exact ih m env2 S2 li hI2
    |bk env2 S2=>rw[e2] at k;exact k
    |rt d2 S2=>rw[e2] at k;exact k
    |ex c2 x2 env2 S2=>rw[e2] at k;exact k
    |bad=>rw[e2] at k;exact k
 exact key big n env S hn h
theorem RD {I:Ai->qB->Sto->Prop}(m:Ai)(hm:m<n)(h:I m env S):Wo (whQ I n P) (.nx env S):=⟨m,hm,h⟩
theorem yL {α:Type}{I:Aa α -> qB->Sto->Prop}{xs:Aa α}(h:I xs env S):Wo (dY I xs P) (.nx env S):=h
theorem RC {α:Type}{I:Aa α -> qB->Sto->Prop}{xs:Aa α}(h:Wo P (.rt d S)):Wo (dY I xs P) (.rt d S):=h
theorem zC {Q:D->Sto->Prop}(hs:yF n ds=env)(h:Wo (AD Q) (sf env S)):Ok (qL n sf ds S) Q:=by
 subst hs;unfold qL;unfold Wo at h;cases e:sf (yF n ds) S <;> rw[e] at h <;> first|exact⟨_,_,rfl,h⟩|exact Aq h
end
abbrev Pt:=An × An
variable {ps:Aa Pt}{p:Pt}
noncomputable def ptD (p:Pt):D:=.tup [.int p.1,.int p.2]
noncomputable def qT (l:Aa Pt):D:=.tup (l.map ptD)
noncomputable def kP (p:Pt):Aa An:=[p.1,p.2]
noncomputable def pK (k:Aa An):Pt:=(k.getD 0 0,k.getD 1 0)
theorem kN (ps:Aa Pt):ps.map ptD=(ps.map kP).map tpD:=by
 rw[Eh];rfl
noncomputable def ltP (p q:Pt):Ar:=_H.lexLt [p.1,p.2] [q.1,q.2]
abbrev Up (l:Aa Pt):Prop:=l.Pairwise λp q=>ltP p q=true
noncomputable def vZ (ps:Aa Pt):Aa Pt:=(_S.srt _H.lexLt (ps.map kP)).map pK
theorem bE {ks:Aa (Aa An)}(h:∀ k∈ks,k∈ps.map kP):ks.map tpD=(ks.map pK).map ptD/\(ks.map pK).map kP=ks:=by
 have e:∀ k∈ks,kP (pK k)=k:=λk hk=>by
  obtain⟨p,_,rfl⟩:=Br.mp (h k hk);rfl
 have e2:(ks.map pK).map kP=ks:=by
  rw[Eh]
  conv=>rhs;rw[<- Rg ks]
  exact Qc e
 exact⟨by rw[kN,e2],e2⟩
theorem NG {q:Pt}(h:kP p=kP q):p=q:=by
 injection h with h1 h2
 injection h2 with h2 _
 exact WP h1 h2
theorem eJ (ps:Aa Pt):∀ k∈_S.srt _H.lexLt (ps.map kP),k∈ps.map kP:=λk hk=>(_S.vG _S.vD k _).mp hk
theorem fY (ps:Aa Pt)(p:Pt):p∈vZ ps↔p∈ps:=by
 unfold vZ;constructor
 .intro h
  obtain⟨k,hk,rfl⟩:=Br.mp h;obtain⟨q,hq,rfl⟩:=Br.mp (eJ ps k hk);exact hq
 .intro h
  exact Br.mpr ⟨kP p,(_S.vG _S.vD _ _).mpr (Br.mpr ⟨p,h,rfl⟩),rfl⟩
theorem nW (ps:Aa Pt):Up (vZ ps):=by
 have h:=_S.b9 _S.vD (ps.map kP);rw[<- (bE (eJ ps)).2,Ga] at h;exact h
theorem rJ {K:Type}(lt':K->K->Ar)(x:K):∀ l:Aa K,(_S.j6 lt' x l).length<=l.length+1
 |[]=>by simp[_S.j6]
 |y::l=>by
  have:=rJ lt' x l;unfold _S.j6
  split
  .simp
  .split <;> simp <;> omega
theorem nX {K:Type}(lt':K->K->Ar):∀ l:Aa K,(_S.srt lt' l).length<=l.length
 |[]=>by simp[_S.srt]
 |x::l=>by
  have h1:=rJ lt' x (_S.srt lt' l);have h2:=nX lt' l;rw[_S.srt,AT];omega
theorem UR (ps:Aa Pt):(vZ ps).length<=ps.length:=by
 unfold vZ;rw[Ak];exact Df (nX _ _) (by simp)
theorem hZ (ps:Aa Pt)(hl:ps.length<=1000):jG (ps.map ptD)=Ab ((vZ ps).map ptD):=by
 unfold jG vZ;rw[<- (bE (eJ ps)).1];cases ps with
 |nil=>rfl
 |cons p ps =>
  have h0:x9 ((p::ps).map ptD)=none:=rfl;rw[h0,kN,vU];have h2:(((p::ps).map kP).all λk=>!k.isEmpty)=true:=by
   rw[Jn,Cf];intro q _;rfl
  have h1:(_S.srt _H.lexLt ((p::ps).map kP)).length<=1000:=Df (nX _ _) (by rw[Ak];exact hl)
  exact Bd (by rw[h2,Cp h1];rfl)
noncomputable def u3 (ps:Aa Pt):Aa Pt:=(_S.wD _H.lexLt (ps.map kP)).map pK
theorem aX (ps:Aa Pt):∀ k∈_S.wD _H.lexLt (ps.map kP),k∈ps.map kP:=λk hk=>(_S.xG _).mem_iff.mp hk
theorem SZ (ps:Aa Pt):(u3 ps).map kP=_S.wD _H.lexLt (ps.map kP):=(bE (aX ps)).2
theorem jU (ps:Aa Pt):(u3 ps).Perm ps:=by
 have h:=(_S.xG (lt':=_H.lexLt) (ps.map kP)).map pK;rw[Eh] at h;have e:ps.map (pK∘kP)=ps:=by
  conv=>rhs;rw[<- Rg ps]
  exact Qc λq _=>rfl
 rw[e] at h;exact h
theorem F9 (nd:ps.Nodup):Up (u3 ps):=by
 have h:=_S.aY _S.vD (ps.map kP);unfold _S.Nf at h;rw[<- SZ,Ga] at h;have nd':(u3 ps).Nodup:=(jU ps).nodup_iff.mpr nd;refine(List.pairwise_and_iff.mpr ⟨h,nd'⟩).imp λ{a b} ⟨h1,h2⟩=>?_;rcases _S.vD.tri h1 with z|z
 .exact absurd (NG z).symm h2
 .exact z
theorem UP (ps:Aa Pt)(hl:ps.length<=100000):vM (ps.map ptD)=Ab ((u3 ps).map ptD):=by
 unfold u3;rw[<- (bE (aX ps)).1];unfold vM;cases ps with
 |nil =>
  have e1:_S.wD _S.ltI [] = []:=Ni;have e2:_S.wD _H.lexLt [] = []:=Ni;show (if ([] : Aa An).length<=100000 then Ab ((_S.wD _S.ltI []).map D.int) else none)=_
  rw[e1];show Ab [] = Ab ((_S.wD _H.lexLt []).map tpD);rw[e2];rfl
 |cons p ps =>
  have h0:x9 ((p::ps).map ptD)=none:=rfl;rw[h0,kN,vU];have h2:(((p::ps).map kP).all λk=>!k.isEmpty)=true:=by
   rw[Jn,Cf];intro q _;rfl
  exact Bd (by rw[h2,Cp (by rw[Ak];exact hl)];rfl)
theorem qAA {Q:D->Sto->Prop}{S:Sto}(h:Q (.int p.1) S):Ok (gIx (ptD p) (.int 0) S) Q:=⟨_,_,rfl,h⟩
theorem qAB {Q:D->Sto->Prop}{S:Sto}(h:Q (.int p.2) S):Ok (gIx (ptD p) (.int 1) S) Q:=⟨_,_,rfl,h⟩
theorem XR (ps:Aa Pt):pl zS (.lst (ps.map ptD))=true:=by
 show ((ps.map ptD).all (pl 29))=true;rw[Jn];exact Cf.mpr λp _=>rfl
theorem L4 {Q:D->Sto->Prop}{f:DE}{env:qB}{S:Sto}(h:Ok (f env S) λd S1=>∃ ps:Aa Pt,oS d S1=Ab (ps.map ptD)/\ps.length<=1000/\Q (.lst ((vZ ps).map ptD)) S1):Ok (vP false f env S) Q:=qZ (zR h λd S1 ⟨ps,e,l,q⟩=>⟨_,_,by rw[e,Tf,hZ ps l];rfl,q⟩)
def InB (B:An)(q:Pt):Prop:=-B<=q.1/\q.1<=B /\ -B<=q.2/\q.2<=B
instance (B:An)(q:Pt):Ju (InB B q):=by unfold InB;exact inferInstance
structure Lot (M:Ai)(l:Aa Pt):Prop where
 ne:l≠[]
 len:l.length<=M
 up:Up l
 box:∀ q∈l,InB 1000 q
theorem sG {l:Aa Pt}(h:Up l):l.Nodup:=h.imp λ{a b} h e=>by
 subst e;rw[show ltP a a=false from _S.vD.irr _] at h
 cases h
theorem EB {M:Ai}(ne:ps≠[])(hl:ps.length<=M)(nd:ps.Nodup)(hb:∀ q∈ps,InB 1000 q):Lot M (u3 ps):=by
 have p:=jU ps;refine⟨λz=>?_,by rw[p.length_eq];exact hl,F9 nd,λq hq=>hb q (p.mem_iff.mp hq)⟩
 rw[z] at p;exact ne p.symm.eq_nil
def yG (S:Sto)(p:Ai):Prop:=∃ v f:An,S[p]? = Ab (.lst [.int v,.int f])
theorem yA {S:Sto}{p:Ai}(h:yG S p)(e:S<+:S'):yG S' p:=by
 obtain⟨v0,f0,hp⟩:=h;obtain⟨r,rfl⟩:=e;exact⟨v0,f0,by rw[Bl (Bi.mp hp).1];exact hp⟩
structure Kp (p:Ai)(S S':Sto):Prop where
 pen:yG S' p
 len:S.length<=S'.length
 same:∀ m,m<S.length->m≠p->S'[m]? = S[m]?
theorem Kp.trans {p:Ai}{S:Sto}(a:Kp p S S1)(b:Kp p S1 S2):Kp p S S2:=⟨b.pen,Df a.len b.len,λm hm hp=>(b.same m (Bh hm a.len) hp).trans (a.same m hm hp)⟩
end _D
local macro_rules|`(tactic|array_get_dec)=>`(tactic| first | (with_reducible first | apply _D.C9 | apply _D.qAH | apply _D.OK | apply _D.o_2 | apply _D.o_c | apply _D.kO | apply _D.s9 | apply _D.O8 | apply _D.OH | apply _D.OI | apply _D.EL | apply _D.NY | apply _D.OP | apply _D.OE | apply _D.qAF | apply _D.IY | apply _D.qAG | apply _D.w_t | apply _D.w_f | apply _D.OL | apply _D.O6 | apply _D.O1 | apply _D.ON | apply _D.qAI | apply _D.OM | apply _D.C8 | apply _D.OX | apply _D.OW | apply _D.OU | apply _D.OS | apply _D.OY | apply _D.o_1 | apply _D.OD | apply _D.IW | apply _D.IV | apply _D.O0 | apply _D.IX | apply _D.qAD | apply _D.OG | apply _D.OF | apply _D.OQ | apply _D.OR | apply _D.OO | apply _D.O9 | apply _D.qAE | apply _D.OT | apply _D.OV | apply _D.OJ | apply _D.qAA | apply _D.qAB | apply _D.qAC | apply _D.IU | apply _D.PM | apply _D.IZ) | ((with_reducible apply _D.o_v); exact rfl) | ((with_reducible apply _D.OZ); dsimp only [List.set_cons_succ, List.set_cons_zero]) | ((with_reducible (first | apply _D.OC | apply _D.OB | apply _D.OA)); omega) | ((with_reducible apply And.intro); (first | exact rfl | exact Nat.le_of_ble_eq_true rfl)) | ((with_reducible apply Exists.intro); (with_reducible apply And.intro); exact rfl) | ((with_reducible apply Exists.intro); (with_reducible apply Exists.intro); (with_reducible apply And.intro); exact rfl; dsimp only [List.set_cons_succ, List.set_cons_zero]) | ((with_reducible apply Exists.intro); (with_reducible apply Exists.intro); (with_reducible apply Exists.intro); (with_reducible apply And.intro); exact rfl; dsimp only [List.set_cons_succ, List.set_cons_zero]))
local macro_rules|`(tactic|rfl')=>`(tactic| repeat array_get_dec)
namespace _D
open PySem
variable {kvs:Aa (_L.Key × D)}{ks:Aa An}{xs:Aa D}{n:Ai}{i:D}{S:Sto}
def Pn (d:D):Prop:=∃ p,pyD d=Ab p
theorem pns:∀ {ps:Aa PyData},fX xs=Ab ps->∀ x∈xs,Pn x:=by
 induction xs with
 |nil=>intro ps _ x hx;cases hx
 |cons d ds ih =>
  intro ps h x hx;simp only[fX] at h;obtain⟨p,h1,h2⟩:=Fj.mp h;obtain⟨ps',h3,_⟩:=Gm.mp h2;rcases Az.mp hx with rfl|hx
  .exact⟨p,h1⟩
  .exact ih h3 x hx
theorem XS (h:Pn (.tup xs)):∀ x∈xs,Pn x:=by
 obtain⟨p,h⟩:=h;simp only[pyD] at h;obtain⟨ps,h1,_⟩:=Gm.mp h;exact pns h1
theorem XT:∀ {xs:Aa D},(∀ x∈xs,Pn x)->∃ l,fX xs=Ab l
 |[],_=>⟨[],rfl⟩
 |x::xs,h=>by
  obtain⟨l,e⟩:=XT (xs:=xs) λy hy=>h y (Cn _ hy);obtain⟨q,e'⟩:=h x (Dl ..);refine⟨q::l,?_⟩;show (pyD x).bind (λx=>(fX xs).map (x::·))=_
  rw[e,e'];rfl
theorem AV (h:∀ x∈xs,Pn x):Pn (.tup xs):=by
 obtain⟨l,e⟩:=XT h;exact⟨.tuple l,by simp only[pyD,e,Ug]⟩
theorem oP (q:Pt):Pn (ptD q):=⟨.tuple [.int q.1,.int q.2],rfl⟩
theorem t8 (l:Aa Pt):Pn (qT l):=AV λx hx=>by
 obtain⟨q,_,rfl⟩:=Br.mp hx;exact oP q
noncomputable def inR (a b:An):D->Ar
 |.int i=>decide (a<=i/\i<=b)
 |_=>false
noncomputable def isW:D->Ar
 |.int _=>true
 |_=>false
noncomputable def isT:D->Ar
 |.tup _=>true
 |_=>false
theorem JJ {d:D}(h:Pn d)(S:Sto):vY [d,.ty "tuple"] S=.ok (.bl (isT d)) S:=by
 obtain⟨p,h⟩:=h;cases d <;> first|kernel_rfl!|simp[pyD] at h
theorem aE {Q:D->Sto->Prop}{fa fb fc:DE}{env:qB}{a b c:An}(h1:fa env S=.ok (.int a) S)(h2:fb env S=.ok (.int b) S)(h3:fc env S=.ok (.int c) S)(q:Q (.bl (decide (a<=b/\b<=c))) S):Ok (wK gLe gLe fa fb fc env S) Q:=by
 refine⟨_,_,?_,q⟩;unfold wK;rw[h1,Res.bind_ok,h2,Res.bind_ok];show (match xP (.bl (decide (a<=b))) S with|some true=>(fc env S).bind λw S4=>gLe (.int b) w S4|some false=>Res.ok (.bl (decide (a<=b))) S|none=>.bad)=_
 by_cases h:a<=b
 .rw[Cp h]
  show (fc env S).bind _=_;rw[h3];simp only[h,true_and];rfl
 .rw[Dj h,Dj λz=>h z.1]
  rfl
noncomputable abbrev isI:D->Ar:=inR (-1000) 1000
noncomputable def wN:D->Ar
 |.tup [a,b]=>isI a&&isI b
 |_=>false
theorem tX (q:Pt):wN (ptD q)=decide (InB 1000 q):=by
 show (decide (-1000<=q.1/\q.1<=1000)&&decide (-1000<=q.2/\q.2<=1000))=_;rw[<- Bool.decide_and];exact Te.mpr ⟨λh=>⟨h.1.1,h.1.2,h.2.1,h.2.2⟩,λh=>⟨⟨h.1,h.2.1⟩,h.2.2.1,h.2.2.2⟩⟩
theorem N7 (h:xs.length=2):wN (.tup xs)=xs.all isI:=by
 match xs,h with
 |[a,b],_=>simp[wN]
theorem N8 (h:xs.length≠2):wN (.tup xs)=false:=by
 match xs,h with
 |[],_=>rfl
 |[_],_=>rfl
 |[_,_],h=>exact absurd rfl h
 |_::_::_::_,_=>rfl
theorem N9 {d:D}(h:isT d=false):wN d=false:=by
 cases d <;> first|rfl|cases h
noncomputable def upB (ks:Aa (Aa An)):Ar:=(ks.zip (ks.drop 1)).all λp=>_H.lexLt p.1 p.2
noncomputable def dW:D->Ar
 |.tup xs=>decide (1<=xs.length/\xs.length<=40)&&xs.all wN&&(match w8 xs with|some ks=>upB ks|none=>false)
 |_=>false
theorem cO {a b:An}{d:D}(h:inR a b d=true):∃ i,d=.int i/\a<=i/\i<=b:=by
 cases d <;> first|exact⟨_,rfl,Ct h⟩|cases h
theorem V5 {d:D}(h:wN d=true):∃ q,d=ptD q/\InB 1000 q:=by
 unfold wN at h
 split at h
 .rw[Bq] at h
  obtain⟨x,rfl,hx⟩:=cO h.1;obtain⟨y,rfl,hy⟩:=cO h.2;exact⟨(x,y),rfl,hx.1,hx.2,hy.1,hy.2⟩
 .cases h
theorem kR:∀ {xs:Aa D},xs.all wN=true->∃ qs:Aa Pt,xs=qs.map ptD/\∀ q∈qs,InB 1000 q
 |[],_=>⟨[],rfl,λ_ h=>by cases h⟩
 |d::ds,h=>by
  rw[Rw,Bq] at h;obtain⟨qs,rfl,hq⟩:=kR h.2;obtain⟨q,rfl,hb⟩:=V5 h.1;refine⟨q::qs,rfl,λz hz=>?_⟩;rcases Az.mp hz with rfl|hz
  .exact hb
  .exact hq z hz
theorem ED (a b:Aa An)(S:Sto):tV (tpD a) (tpD b) S=.ok (.bl (_H.lexLt a b)) S:=by
 unfold tV tpD;simp only[lO]
theorem WA:∀ (ks:Aa (Aa An)),upB ks=true↔ks.Pairwise (λa b=>_H.lexLt a b=true)
 |[]=>by simp[upB]
 |[a]=>by simp[upB]
 |a::b::r=>by
  have ih:=WA (b::r);have e:upB (a::b::r)=(_H.lexLt a b&&upB (b::r)):=by simp[upB]
  rw[e,Bq,ih,Dw (a:=a)];constructor
  .rintro⟨h1,h2⟩
   refine⟨λx hx=>?_,h2⟩;rcases Az.mp hx with rfl|hx
   .exact h1
   .exact _S.vD.tr h1 ((Dw.mp h2).1 x hx)
  .rintro⟨h1,h2⟩
   exact⟨h1 b (by simp),h2⟩
theorem RF (ks ms:Aa (Aa An)):vI (ks.map tpD) (ms.map tpD)=(ks.zip ms).map λp=>D.tup [tpD p.1,tpD p.2]:=by
 unfold vI
 induction ks generalizing ms with
 |nil=>rfl
 |cons k ks ih =>
  cases ms with
  |nil=>rfl
  |cons m ms=>exact congrArg (_::·) (ih ms)
theorem GP {d:D}(h:isT d=false):dW d=false:=by
 cases d <;> first|rfl|cases h
theorem gK {M:Ai}(hM:M<=40){l:Aa Pt}(h:Lot M l):dW (qT l)=true:=by
 show (decide (1<=(l.map ptD).length/\(l.map ptD).length<=40)&&(l.map ptD).all wN&&(match w8 (l.map ptD) with|some ks=>upB ks|none=>false))=true
 have h1:1<=(l.map ptD).length/\(l.map ptD).length<=40:=by
  rw[Ak];exact⟨Ko.mpr h.ne,by have:=h.len;lia⟩
 have h2:(l.map ptD).all wN=true:=by
  rw[Jn];exact Cf.mpr λq hq=>(tX q).trans (Cp (h.box q hq))
 have h3:upB (l.map kP)=true:=by
  rw[WA,Ga];exact h.up
 rw[Cp h1,h2,kN,vU];exact h3
theorem RL (xs:Aa D):xO xs (Ab 1) none=xs.drop 1:=by
 unfold xO;have h1:_H.sIx xs.length 0 (Ab 1)=min 1 xs.length:=rfl;have h2:_H.sIx xs.length xs.length none=xs.length:=rfl;rw[h1,h2];cases xs with
 |nil=>rfl
 |cons x r=>simp
theorem WZ (xs:Aa D)(i:Ai):xO xs (Ab ((i:An)+1)) none=xs.drop (i+1):=by
 unfold xO;have e1:_H.sIx xs.length 0 (Ab ((i:An)+1))=min (i+1) xs.length:=by
  have:((i:An)+1)=((i+1:Ai):An):=by lia
  rw[this,_H.sIx_nat]
 rw[e1,_H.sIx_none];by_cases h:i+1<=xs.length
 .rw[Uo h,Gn (by simp)]
 .have:xs.drop (i+1)=[]:=Lb li
  rw[this,Tg li];simp
noncomputable def eL:Ai->Aa D->Aa D
 |_,[]=>[]
 |k,x::xs=>D.tup [.int (k:An),x]::eL (k+1) xs
theorem YK (xs:Aa D):yH xs=eL 0 xs:=by
 have key:∀ (xs:Aa D) (k:Ai),(xs.mapIdx λi x=>D.tup [.int ((i+k:Ai):An),x])=eL k xs:=by
  intro xs
  induction xs with
  |nil=>intro k;rfl
  |cons x xs ih =>
   intro k;rw[List.mapIdx_cons];show _::_=D.tup [.int (k:An),x]::eL (k+1) xs
   congr 1
   .simp
   .rw[<- ih (k+1)]
    congr 1
    funext i y
    congr 4
    lia
 have:=key xs 0;simpa [yH] using this
noncomputable def far (p q:Pt):An:=(p.1-q.1)*(p.1-q.1)+(p.2-q.2)*(p.2-q.2)
noncomputable def qS:Aa Pt->Aa (Pt × Pt)
 |[]=>[]
 |p::ps=>ps.map (λq=>(p,q))++qS ps
noncomputable def qH (x:Pt × Pt):An:=far x.1 x.2
noncomputable def fars (l:Aa Pt):Aa An:=(qS l).map qH
noncomputable def prD (x:Pt × Pt):D:=.tup [ptD x.1,ptD x.2]
structure GI {β : Type}(key:β->An)(enc:β->D)(n:Ai)(prs:Aa β)(kvs:Aa (_L.Key × D))(S:Sto):Prop where
 dict:S[n]? = Ab (.dct kvs)
 lists:∀ kv∈kvs,∃ (f:An) (j:Ai),kv=(.inl f,.loc j)/\n<j/\S[j]? = Ab (.lst ((prs.filter λx=>key x == f).map enc))
 nd:(kvs.map (·.2)).Nodup
 keys:kvs.map (·.1)=((prs.map key).foldl Bc []).map Ho
set_option tactic.hygienic true in
theorem UT {l:Aa An}{k x:An}:x∈Bc l k↔x∈l\/x=k:=by
 unfold Bc
 split
 .rename_i h
  simp at h;constructor
  .exact λz=>.inl z
  .rintro (z|rfl)
   .exact z
   .exact h
 .simp
theorem bV {l:Aa An}{k:An}(h:k∈l):Bc l k=l:=by
 unfold Bc;rw[Bd (by simpa using h)]
theorem p6 {l:Aa An}{k:An}(h:k ∉ l):Bc l k=l++[k]:=by
 unfold Bc;rw[Bf (by simpa using h)]
theorem gE:∀ {l:Aa An} {x:An},x∈ks.foldl Bc l↔x∈l\/x∈ks:=by
 induction ks with
 |nil=>intro l x;simp
 |cons k ks ih =>
  intro l x;rw[Mw,ih,UT,Az];constructor
  .rintro ((h|h)|h)
   .exact .inl h
   .exact .inr (.inl h)
   .exact .inr (.inr h)
  .rintro (h|h|h)
   .exact .inl (.inl h)
   .exact .inl (.inr h)
   .exact .inr h
theorem uY:∀ {l:Aa An},(ks.foldl Bc l).length<=l.length+ks.length:=by
 induction ks with
 |nil=>intro l;simp
 |cons k ks ih =>
  intro l;rw[Mw];have h1:=ih (l:=Bc l k);have h2:(Bc l k).length<=l.length+1:=by
   unfold Bc
   split <;> simp
  rw[AT]
  lia
theorem UX {k:_L.Key}{d:D}(h:zZ kvs k=Ab d):(k,d)∈kvs:=by
 unfold zZ at h;obtain⟨kv,h1,rfl⟩:=Gm.mp h;have h2:=Ps h1;have h3:=Jz h1;have h4:kv.1=k:=by simpa using h2
 subst h4;exact h3
theorem eT {k:_L.Key}(h:zZ kvs k=none):∀ kv∈kvs,kv.1≠k:=by
 unfold zZ at h;have h1:=Option.map_eq_none_iff.mp h;intro kv hk e;have:=Kw.mp h1 kv hk;simp[e] at this
theorem K1 {x:D}{k:_L.Key}(hd:S[n]? = Ab (.dct kvs))(hk:yC i=Ab k):wA (.loc n) [i,x] S=(match zZ kvs k with|some d=>.ok d S|none=>if kvs.length<lim then .ok x (S.set n (.dct (w6 kvs k x))) else .bad):=by
 show (match S[n]? with|some (.dct kvs)=>(match yC i with|some k=>(match zZ kvs k with|some d=>Res.ok d S|none=>if kvs.length<lim then .ok x (S.set n (.dct (w6 kvs k x))) else .bad)|none=>.bad)|_=>.bad)=_
 rw[hd,hk]
theorem F4 {x d:D}{k:_L.Key}(hd:S[n]? = Ab (.dct kvs))(hk:yC i=Ab k)(hv:zZ kvs k=Ab d):wA (.loc n) [i,x] S=.ok d S:=by
 rw[K1 hd hk,hv]
theorem F3 {x:D}{k:_L.Key}(hd:S[n]? = Ab (.dct kvs))(hk:yC i=Ab k)(hv:zZ kvs k=none)(hl:kvs.length<lim):wA (.loc n) [i,x] S=.ok x (S.set n (.dct (w6 kvs k x))):=by
 rw[K1 hd hk,hv];exact Bd hl
theorem XC {β γ:Type}{l:Aa β}{f:β->γ}(nd:(l.map f).Nodup){x y:β}(hx:x∈l)(hy:y∈l)(e:f x=f y):x=y:=by
 obtain⟨a,ha,rfl⟩:=Cs.mp hx;obtain⟨b,hb,rfl⟩:=Cs.mp hy;have:a=b:=(Sw nd (h₀:=by simpa using ha) (h₁:=by simpa using hb)).mp (by simpa using e)
 subst this;rfl
set_option tactic.hygienic true in
theorem tS:∀ (ks l:Aa An),l.Nodup->(ks.foldl Bc l).Nodup:=by
 intro ks
 induction ks with
 |nil=>exact λl h=>h
 |cons k ks ih =>
  intro l h;rw[Mw];apply ih;unfold Bc
  split
  .exact h
  .rename_i hn
   rw[Jw];refine⟨h,by simp,?_⟩
   intro a ha b hb hab;simp at hb hn;subst hb;subst hab;exact hn ha
theorem GW (h:kvs.map (·.1)=(ks.foldl Bc []).map Ho):(kvs.map (·.1)).Nodup:=by
 rw[h,Aa1,Ga];exact(tS ks [] Hl).imp λhne e=>hne (Ur e)
theorem M5 {j:Ai}(h:S[j]? = Ab (.lst xs))(hl:xs.length<lim)(d:D):xQ (.loc j) [d] S=.ok .non (S.set j (.lst (xs++[d]))):=xK (EI h hl ⟨rfl,rfl⟩)
theorem GJ {β:Type}{key:β->An}{enc:β->D}{prs:Aa β}(I:GI key enc n prs kvs S)(x:β)(hl:prs.length<lim) :
  ∃ (j:Ai) (S1 S2:Sto) (kvs':Aa (_L.Key × D)),wA (.loc n) [.int (key x),.loc S.length] (S++[.lst []]) = .ok (.loc j) S1/\tyD (.loc j) S1=Ab "list" /\ xQ (.loc j) [enc x] S1=.ok .non S2/\GI key enc n (prs++[x]) kvs' S2/\∀ m,m<n->S2[m]? = S[m]?:=by
 have hnS:n<S.length:=(Bi.mp I.dict).1;have hd:(S++[MO.lst []])[n]? = Ab (.dct kvs):=by rw[Bl hnS];exact I.dict
 have hkl:kvs.length<=prs.length:=by
  have h1:kvs.length=(kvs.map (·.1)).length:=by simp
  rw[h1,I.keys,Ak];have:=uY (ks:=prs.map key) (l:=[]);simpa using this
 have hlim:kvs.length<lim:=by lia
 have jlt:∀ {f:An} {j:Ai},((Ho f:_L.Key),D.loc j)∈kvs->n<j/\j<S.length/\S[j]? = Ab (.lst ((prs.filter λx=>key x == f).map enc)):=by
  intro f j hm;obtain⟨f',j',e,h1,h2⟩:=I.lists _ hm;cases e;exact⟨h1,(Bi.mp h2).1,h2⟩
 cases hv:zZ kvs (.inl (key x)) with
 |some d =>
  have hm:=UX hv;obtain⟨f,j,e,h1,h2⟩:=I.lists _ hm;have e1:f=key x:=by
   have:=congrArg Prod.fst e;exact(Ur this).symm
  have e2:d=.loc j:=congrArg Prod.snd e;subst e1;subst e2;have hjS:=(Bi.mp h2).1;have h2':(S++[MO.lst []])[j]? = Ab (.lst ((prs.filter λy=>key y == key x).map enc)):=by rw[Bl hjS];exact h2
  have hll:((prs.filter λy=>key y == key x).map enc).length<lim:=by
   rw[Ak];have:=Ib (λy=>key y == key x) prs
   lia
  refine⟨j,S++[MO.lst []],(S++[MO.lst []]).set j (.lst ((prs.filter λy=>key y == key x).map enc++[enc x])),kvs,?_,?_,?_,⟨?_,?_,I.nd,?_⟩,?_⟩
  .exact F4 hd rfl hv
  .exact K6 h2'
  .exact M5 h2' hll _
  .rw[Ce li];exact hd
  .intro kv hk
   obtain⟨f',j',rfl,h3,h4⟩:=I.lists kv hk;refine⟨f',j',rfl,h3,?_⟩;have hj':=(Bi.mp h4).1;by_cases hjj:j=j'
   .subst hjj
    have hff:f'=key x:=Ur (congrArg Prod.fst (XC (f:=(·.2)) I.nd hk hm rfl))
    subst hff;rw[Ed (by simp;lia)]
    rw[Nj];simp
   .rw[Ce hjj,Bl hj',h4]
    have hne:(key x == f')=false:=by
     rw[Kh];rintro rfl;exact hjj (D.loc.inj (congrArg Prod.snd (XC (f:=(·.1)) (GW I.keys) hm hk rfl)))
    rw[Nj];simp[hne]
  .rw[Dr,Zc]
   show _=(Bc ((prs.map key).foldl Bc []) (key x)).map Ho;have hin:key x∈(prs.map key).foldl Bc []:=by
    have:(Ho (key x):_L.Key)∈kvs.map (·.1):=Br.mpr ⟨_,hm,rfl⟩
    rw[I.keys] at this;obtain⟨y,hy,e⟩:=Br.mp this;cases e;exact hy
   rw[bV hin];exact I.keys
  .intro m hm
   rw[Ce li,Bl li]
 |none =>
  have hno:=eT hv;have hput:w6 kvs (.inl (key x)) (.loc S.length)=kvs++[(.inl (key x),.loc S.length)]:=by
   unfold w6;rw[Bf];rw[Th];rintro⟨kv,hk,e⟩;exact hno kv hk (by simpa using e)
  have hfn:key x ∉ prs.map key:=by
   intro hin;have:(Ho (key x):_L.Key)∈kvs.map (·.1):=by
    rw[I.keys];exact Br.mpr ⟨_,gE.mpr (.inr hin),rfl⟩
   obtain⟨kv,hk,e⟩:=Br.mp this;exact hno kv hk e
  have hS1:((S++[MO.lst []]).set n (.dct (kvs++[(Ho (key x),.loc S.length)])))[S.length]? = Ab (.lst []):=by
   rw[Ce li];simp
  refine⟨S.length,(S++[MO.lst []]).set n (.dct (kvs++[(.inl (key x),.loc S.length)])),((S++[MO.lst []]).set n (.dct (kvs++[(.inl (key x),.loc S.length)]))).set S.length (.lst [enc x]),kvs++[(.inl (key x),.loc S.length)],?_,?_,?_,⟨?_,?_,?_,?_⟩,?_⟩
  .rw[<- hput]
   exact F3 hd rfl hv hlim
  .exact K6 hS1
  .have:(0:Ai)<lim:=by decide
   exact M5 hS1 this _
  .rw[Ce li,Ed (by simp;lia)]
  .intro kv hk
   rcases Bz.mp hk with hk|hk
   .obtain⟨f',j',rfl,h3,h4⟩:=I.lists kv hk
    have hj':=(Bi.mp h4).1;refine⟨f',j',rfl,h3,?_⟩;rw[Ce li,Ce li,Bl hj',h4];have hne:(key x == f')=false:=by
     rw[Kh];intro e;exact hno _ hk (by rw[e])
    rw[Nj];simp[hne]
   .have:kv=(.inl (key x),.loc S.length):=by simpa using hk
    subst this;refine⟨key x,S.length,rfl,hnS,?_⟩;rw[Ed (by simp)]
    have:(prs.filter λy=>key y == key x)=[]:=by
     rw[Uq];intro y hy e;exact hfn (by rw[<- (by simpa using e:key y=key x)];exact Br.mpr ⟨y,hy,rfl⟩)
    rw[Nj,this];simp
  .rw[Dr,Jw]
   refine⟨I.nd,by simp,?_⟩
   intro a ha b hb hab;simp at hb;subst hb;subst hab;obtain⟨kv,hk,e⟩:=Br.mp ha;obtain⟨f',j',rfl,h3,h4⟩:=I.lists kv hk;have hj':=(Bi.mp h4).1;have:j'=S.length:=D.loc.inj e
   lia
  .rw[Dr,I.keys,Dr,Zc]
   show _=(Bc ((prs.map key).foldl Bc []) (key x)).map Ho;have hin:key x ∉ (prs.map key).foldl Bc []:=by
    intro h;rcases gE.mp h with h|h
    .simp at h
    .exact hfn h
   rw[p6 hin,Dr];rfl
  .intro m hm
   rw[Ce li,Ce li,Bl li]
theorem uS (l:Aa Pt):(qS l).length<=l.length*l.length:=by
 induction l with
 |nil=>simp[qS]
 |cons p l ih =>
  have e:(p::l).length*(p::l).length=l.length*l.length+l.length+l.length+1:=by
   simp only[AT,Zw,Nat.mul_add]
   lia
  rw[e];simp only[qS,Aw,Ak]
  lia
theorem t9 {S':Sto}(h:∀ m,m<S.length->S'[m]? = S[m]?):S<+:S':=by
 rw[List.prefix_iff_getElem?];intro i hi;rw[h i hi,Ao hi]
theorem uT {l:Aa Pt}{x:Pt × Pt}(h:x∈qS l):x.1∈l/\x.2∈l:=by
 induction l with
 |nil=>simp[qS] at h
 |cons p l ih =>
  simp only[qS,Bz,Br] at h;rcases h with⟨q,hq,rfl⟩|h
  .exact⟨Dl ..,Cn _ hq⟩
  .exact⟨Cn _ (ih h).1,Cn _ (ih h).2⟩
theorem oD {l:Aa Pt}(h:l.length<=41):(qS l).length<4000:=by
 have h1:=uS l;have h2:l.length*l.length<=41*41:=Hn h h
 lia
noncomputable def kys (fs:Aa An):Aa An:=fs.foldl Bc []
noncomputable def tbK (fs:Aa An):Aa (Aa An):=(kys fs).map λf=>[f,(fs.count f:An)]
noncomputable def tbl (fs:Aa An):Aa (Aa An):=_S.wD _H.lexLt (tbK fs)
theorem yT {fs:Aa An}{x:An}:x∈kys fs↔x∈fs:=by
 unfold kys;rw[gE];simp
theorem YT (prs:Aa (Pt × Pt))(f:An):(prs.filter λx=>qH x == f).length=(prs.map qH).count f:=by
 rw[List.count,List.countP_map,List.countP_eq_length_filter];rfl
noncomputable def ctD (fs:Aa An)(k:_L.Key):D:=match k with
 |.inl f=>.tup [.int f,.int (fs.count f:An)]
 |.inr _=>.non
theorem F8 (ks:Aa (Aa An))(hl:ks.length<=100000)(he:∀ k∈ks,k≠[]):vM (ks.map tpD)=Ab ((_S.wD _H.lexLt ks).map tpD):=by
 unfold vM;cases ks with
 |nil =>
  have e1:_S.wD _S.ltI [] = []:=Ni;have e2:_S.wD _H.lexLt [] = []:=Ni;show (if ([] : Aa An).length<=100000 then Ab ((_S.wD _S.ltI []).map D.int) else none)=_
  rw[e1,e2,Bd (by simp)]
  rfl
 |cons k r =>
  have h0:x9 ((k::r).map tpD)=none:=rfl;rw[h0,vU];have h2:((k::r).all λk=>!k.isEmpty)=true:=Cf.mpr λq hq=>by
   have:=he q hq;cases q with
   |nil=>exact absurd rfl this
   |cons _ _=>rfl
  have h3:(decide ((k::r).length<=100000)&&(k::r).all λk=>!k.isEmpty)=true:=by rw[h2,Cp hl];rfl
  show (if (decide ((k::r).length<=100000)&&(k::r).all λk=>!k.isEmpty)=true then _ else _)=_
  rw[Bd h3]
theorem jQ (p:Pt)(l:Aa Pt):fars (p::l)=l.map (far p)++fars l:=by
 unfold fars;rw[qS,Dr,Eh];rfl
end _D
namespace _K
open PySem PySem.Spec PyProof.Rows _L _D
noncomputable def top (i:Ai):Gd:=PySem.Challenge.pw_fewdistances_k33_whole_unlike_lots.main.body.getD i (.Pass ⟨0,0,0,0⟩)
structure Cl where
 (FarError NoPoint NoLot NoNumber Alike:Af)
noncomputable def iK (c:Cl):Aa Af:=[c.NoPoint,c.NoLot,c.NoNumber,c.Alike]
noncomputable def MC (c:Cl):Aa Ac:=[.ref c.NoPoint,.ref c.NoLot,.ref c.NoNumber]
noncomputable abbrev clt (c:Cl):Aa (Au × Af):=[("FarError",c.FarError),("NoPoint",c.NoPoint),("NoLot",c.NoLot),("NoNumber",c.NoNumber),("Alike",c.Alike)]
noncomputable abbrev plt (c:Cl):Aa (Au × Af):=[("NoPoint",c.NoPoint),("NoLot",c.NoLot),("NoNumber",c.NoNumber)]
noncomputable abbrev cst:Aa (Au × An):=[("LEAST_NUMBER",-1000),("MOST_NUMBER",1000),("MOST_POINTS",40),("MOST_SIDE",4),("MOST_FILLED_SIDE",12)]
noncomputable abbrev bl:Aa Au:=["ValueError","all","bool","enumerate","int","isinstance","len","min","range","set","sorted","tuple","zip"]
noncomputable abbrev tab:Aa (Au × Ai × Aa Au):=[(("board_points" : Au),(1:Ai),[("w" : Au),("h" : Au)]),(("grown" : Au),(2:Ai),[("lots" : Au),("points" : Au)]),(("is_whole" : Au),(10:Ai),[("thing" : Au)]),(("is_within" : Au),(11:Ai),[("thing" : Au),("least" : Au),("most" : Au)]),(("is_rising" : Au),(12:Ai),[("some" : Au)]),(("need_within" : Au),(13:Ai),[("thing" : Au),("least" : Au),("most" : Au)]),(("is_point" : Au),(18:Ai),[("thing" : Au)]),(("is_lot" : Au),(19:Ai),[("thing" : Au)]),(("need_point" : Au),(20:Ai),[("thing" : Au)]),(("need_lot" : Au),(21:Ai),[("thing" : Au)]),(("far_between" : Au),(22:Ai),[("one" : Au),("other" : Au)]),(("pairs_by_far" : Au),(23:Ai),[("points" : Au)]),(("far_table" : Au),(24:Ai),[("lot" : Au)]),(("fars" : Au),(25:Ai),[("lot" : Au)]),(("is_likeness" : Au),(29:Ai),[("lot" : Au),("thing" : Au)]),(("first_like" : Au),(30:Ai),[("lot" : Au)]),(("need_unlike" : Au),(31:Ai),[("lot" : Au)]),(("are_unlike" : Au),(32:Ai),[("points" : Au)]),(("fits" : Au),(33:Ai),[("lot" : Au),("point" : Au)]),(("filled" : Au),(34:Ai),[("w" : Au),("h" : Au)]),(("most_unlike" : Au),(35:Ai),[("w" : Au),("h" : Au)]),(("unlike_lots" : Au),(36:Ai),[("w" : Au),("h" : Au)]),(("many_fars" : Au),(38:Ai),[("lot" : Au)]),(("singles" : Au),(39:Ai),[("lot" : Au)]),(("_law_cell" : Au),(41:Ai),[("_law_script" : Au),("_law_k" : Au)]),(("_law_pen" : Au),(42:Ai),[("_law_cell_here" : Au)]),(("_law_draw" : Au),(43:Ai),[("_law_pen_here" : Au),("_law_many" : Au)]),(("_law_point" : Au),(44:Ai),[("_law_pen_here" : Au),("_law_wide" : Au)]),(("_law_lot" : Au),(45:Ai),[("_law_pen_here" : Au),("_law_most" : Au)]),(("_law_far" : Au),(46:Ai),[("_law_one" : Au),("_law_other" : Au)]),(("_law_pairs" : Au),(47:Ai),[("_law_lot_here" : Au)]),(("_law_first_like" : Au),(48:Ai),[("_law_lot_here" : Au)]),(("_law_kept" : Au),(49:Ai),[("_law_points" : Au)]),(("_law_like_right" : Au),(50:Ai),[("_law_pen_here" : Au),("_law_lot_here" : Au)]),(("_law_board_right" : Au),(51:Ai),[("_law_w" : Au),("_law_h" : Au)]),(("law" : Au),(52:Ai),[("_law_script" : Au)])]
abbrev Txt (K:Aj)(mg:Au->Al Ac)(c:Cl):Prop:=TxS K mg top tab bl (clt c) (plt c) (MC c) (iK c) cst
noncomputable abbrev NM:Aa Au:=[]
@[reducible] def b_board_points:DS:=qY (zA false [none,none,Ab 1] (xB (wC (q8 (q9 0) (qA)))) (gNm 0) (zW) (kIn (xB (wC (q8 (q9 2) (qA)))) (gNm 1) (zW) (zB (zP (q8 (q9 0) (q8 (q9 1) (qA)))))))
@[irreducible] def S_board_points:DF:=sh (qL 2 b_board_points)
theorem u4:S_board_points=qL 2 b_board_points:=by delta S_board_points;exact zI _
@[reducible] def b_grown:DS:=qY (zA false [none,none,Ab 1] (dIt (q9 0)) (gNm 0) (zW) (kIn (dIt (q9 2)) (gNm 1) (wG (dTr (d2 iU (q9 1) (d2 gIx (q9 0) (d1 iV (dC (.int 1)))))) (zW)) (zB (d2 zH (q9 0) (zP (q8 (q9 1) (qA)))))))
@[irreducible] def S_grown:DF:=sh (qL 2 b_grown)
theorem mC:S_grown=qL 2 b_grown:=by delta S_grown;exact zI _
@[reducible] def b_is_whole:DS:=qY (vW (qR vY (q8 (q9 0) (q8 (dC (.ty "int")) (qA)))) (Y3 (qR vY (q8 (q9 0) (q8 (dC (.ty "bool")) (qA))))))
@[irreducible] def S_is_whole:DF:=sh (qL 1 b_is_whole)
theorem pF:S_is_whole=qL 1 b_is_whole:=by delta S_is_whole;exact zI _
@[reducible] def b_is_within:DS:=qY (vW (qE 1 S_is_whole (q8 (q9 0) (qA))) (wK gLe gLe (q9 1) (q9 0) (q9 2)))
@[irreducible] def S_is_within:DF:=sh (qL 3 b_is_within)
theorem kJ:S_is_within=qL 3 b_is_within:=by delta S_is_within;exact zI _
@[reducible] def b_is_rising:DS:=qY (qR (gD false) (q8 (zA false [none,none] (xB (iN (q8 (q9 0) (q8 (dSl (q9 0) (xA (dC (.int 1))) (xX)) (qA))))) (gTp 2 (qX (gNm 0) (qX (gNm 1) (xJ)))) (zW) (zB (d2 tV (q9 0) (q9 1)))) (qA)))
@[irreducible] def S_is_rising:DF:=sh (qL 1 b_is_rising)
theorem kI:S_is_rising=qL 1 b_is_rising:=by delta S_is_rising;exact zI _
@[reducible] def b_need_within (c:Cl):DS:=sIf (wH (dTr (qE 3 S_is_within (q8 (q9 0) (q8 (q9 1) (q8 (q9 2) (qA))))))) (kS (.ref c.NoNumber) (q8 (iM [dC (.str "a whole number from "),d1 tU (q9 1),dC (.str " to "),d1 tU (q9 2),dC (.str " is needed")]) (qA))) (zN)
@[irreducible] def S_need_within (c:Cl):DF:=sh (qL 3 (b_need_within c))
theorem uQ (c:Cl):S_need_within c=qL 3 (b_need_within c):=by delta S_need_within;exact zI _
@[reducible] def b_is_point:DS:=qM (sIf (vX (wH (dTr (qR vY (q8 (q9 0) (q8 (dC (.ty "tuple")) (qA)))))) (dTr (d2 gNe (qR zT (q8 (q9 0) (qA))) (dC (.int 2))))) (qY (dC (.bl false))) (zN)) (qY (qR (gD false) (q8 (zA false [none] (dIt (q9 0)) (gNm 0) (zW) (zB (qE 3 (okO S_is_within) (q8 (q9 0) (q8 (dC (.int (-1000))) (q8 (dC (.int (1000))) (qA))))))) (qA))))
@[irreducible] def S_is_point:DF:=sh (qL 1 b_is_point)
theorem pE:S_is_point=qL 1 b_is_point:=by delta S_is_point;exact zI _
@[reducible] def b_is_lot:DS:=qM (sIf (vX (wH (dTr (qR vY (q8 (q9 0) (q8 (dC (.ty "tuple")) (qA)))))) (wH (dTr (wK gLe gLe (dC (.int 1)) (qR zT (q8 (q9 0) (qA))) (dC (.int (40))))))) (qY (dC (.bl false))) (zN)) (qY (vW (qR (gD false) (q8 (zA false [none] (dIt (q9 0)) (gNm 0) (zW) (zB (qE 1 (okO S_is_point) (q8 (q9 0) (qA))))) (qA))) (qE 1 S_is_rising (q8 (q9 0) (qA)))))
@[irreducible] def S_is_lot:DF:=sh (qL 1 b_is_lot)
theorem bZ:S_is_lot=qL 1 b_is_lot:=by delta S_is_lot;exact zI _
@[reducible] def b_need_point (c:Cl):DS:=sIf (wH (dTr (qE 1 S_is_point (q8 (q9 0) (qA))))) (kS (.ref c.NoPoint) (q8 (dC (.str "a point is needed")) (qA))) (zN)
@[irreducible] def S_need_point (c:Cl):DF:=sh (qL 1 (b_need_point c))
theorem jN (c:Cl):S_need_point c=qL 1 (b_need_point c):=by delta S_need_point;exact zI _
@[reducible] def b_need_lot (c:Cl):DS:=sIf (wH (dTr (qE 1 S_is_lot (q8 (q9 0) (qA))))) (kS (.ref c.NoLot) (q8 (dC (.str "a lot is needed")) (qA))) (zN)
@[irreducible] def S_need_lot (c:Cl):DF:=sh (qL 1 (b_need_lot c))
theorem pG (c:Cl):S_need_lot c=qL 1 (b_need_lot c):=by delta S_need_lot;exact zI _
@[reducible] def b_far_between:DS:=qM (z0 (d2 xY (d2 gIx (q9 0) (dC (.int 0))) (d2 gIx (q9 1) (dC (.int 0)))) (gNm 2)) (qM (z0 (d2 xY (d2 gIx (q9 0) (dC (.int 1))) (d2 gIx (q9 1) (dC (.int 1)))) (gNm 3)) (qY (d2 zH (d2 xV (q9 2) (q9 2)) (d2 xV (q9 3) (q9 3)))))
@[irreducible] def S_far_between:DF:=sh (qL 4 b_far_between)
theorem uM:S_far_between=qL 4 b_far_between:=by delta S_far_between;exact zI _
@[reducible] def b_pairs_by_far:DS:=qM (z0 (sZ) (gNm 1)) (qM (wV (dN (q8 (q9 0) (qA))) (gTp 2 (qX (gNm 2) (qX (gNm 3) (xJ)))) (wV (w9 (dSl (q9 0) (xA (d2 zH (q9 2) (dC (.int 1)))) (xX))) (gNm 4) (xM (dBm "list" xQ (dBm "dict" wA (q9 1) (q8 (qE 2 S_far_between (q8 (q9 3) (q8 (q9 4) (qA)))) (q8 (bI (qA)) (qA)))) (q8 (zP (q8 (q9 3) (q8 (q9 4) (qA)))) (qA)))))) (qY (q9 1)))
@[irreducible] def S_pairs_by_far:DF:=sh (qL 5 b_pairs_by_far)
theorem u6:S_pairs_by_far=qL 5 b_pairs_by_far:=by delta S_pairs_by_far;exact zI _
@[reducible] def b_far_table (c:Cl):DS:=qM (xM (qE 1 (S_need_lot c) (q8 (q9 0) (qA)))) (qY (qR uG (q8 (zA false [none,none] (xB (mE (qE 1 S_pairs_by_far (q8 (q9 0) (qA))))) (gTp 2 (qX (gNm 0) (qX (gNm 1) (xJ)))) (zW) (zB (zP (q8 (q9 0) (q8 (qR zT (q8 (q9 1) (qA))) (qA)))))) (qA))))
@[irreducible] def S_far_table (c:Cl):DF:=sh (qL 1 (b_far_table c))
theorem kH (c:Cl):S_far_table c=qL 1 (b_far_table c):=by delta S_far_table;exact zI _
@[reducible] def b_fars (c:Cl):DS:=qY (zA false [none,none] (dIt (qE 1 (S_far_table c) (q8 (q9 0) (qA)))) (gTp 2 (qX (gNm 0) (qX (gNm 1) (xJ)))) (zW) (zB (q9 0)))
@[irreducible] def S_fars (c:Cl):DF:=sh (qL 1 (b_fars c))
theorem l5 (c:Cl):S_fars c=qL 1 (b_fars c):=by delta S_fars;exact zI _
@[reducible] def b_is_likeness (c:Cl):DS:=qM (xM (qE 1 (S_need_lot c) (q8 (q9 0) (qA)))) (qM (sIf (vX (wH (dTr (qR vY (q8 (q9 1) (q8 (dC (.ty "tuple")) (qA)))))) (dTr (d2 gNe (qR zT (q8 (q9 1) (qA))) (dC (.int 4))))) (qY (dC (.bl false))) (zN)) (qM (sIf (wH (dTr (qR (gD false) (q8 (zA false [none,Ab 0] (dIt (q9 1)) (gNm 0) (zW) (zB (vW (qE 1 (okO S_is_point) (q8 (q9 0) (qA))) (d2 gIn (q9 0) (q9 1))))) (qA))))) (qY (dC (.bl false))) (zN)) (qM (z0 (q9 1) (gTp 4 (qX (gNm 2) (qX (gNm 3) (qX (gNm 4) (qX (gNm 5) (xJ))))))) (qY (vW (d2 gF (q9 2) (q9 3)) (vW (d2 gF (q9 4) (q9 5)) (vW (d2 gF (zP (q8 (q9 2) (q8 (q9 3) (qA)))) (zP (q8 (q9 4) (q8 (q9 5) (qA))))) (d2 gEq (qE 2 S_far_between (q8 (q9 2) (q8 (q9 3) (qA)))) (qE 2 S_far_between (q8 (q9 4) (q8 (q9 5) (qA))))))))))))
@[irreducible] def S_is_likeness (c:Cl):DF:=sh (qL 6 (b_is_likeness c))
theorem uN (c:Cl):S_is_likeness c=qL 6 (b_is_likeness c):=by delta S_is_likeness;exact zI _
@[reducible] def b_first_like (c:Cl):DS:=qM (xM (qE 1 (S_need_lot c) (q8 (q9 0) (qA)))) (qM (wV (jP (qE 1 S_pairs_by_far (q8 (q9 0) (qA)))) (gNm 1) (sIf (dTr (d2 gGt (qR zT (q8 (q9 1) (qA))) (dC (.int 1)))) (qY (d2 zH (d2 gIx (q9 1) (dC (.int 0))) (d2 gIx (q9 1) (dC (.int 1))))) (zN))) (qY (dC .non)))
@[irreducible] def S_first_like (c:Cl):DF:=sh (qL 2 (b_first_like c))
theorem jM (c:Cl):S_first_like c=qL 2 (b_first_like c):=by delta S_first_like;exact zI _
@[reducible] def b_need_unlike (c:Cl):DS:=qM (z0 (qE 1 (S_first_like c) (q8 (q9 0) (qA))) (gNm 1)) (sIf (dTr (d2 pV (q9 1) (dC .non))) (qM (z0 (q9 1) (gTp 4 (qX (gNm 2) (qX (gNm 3) (qX (gNm 4) (qX (gNm 5) (xJ))))))) (UK)) (zN))
@[irreducible] def S_need_unlike (c:Cl):DF:=sh (qL 6 (b_need_unlike c))
theorem uP (c:Cl):S_need_unlike c=qL 6 (b_need_unlike c):=by delta S_need_unlike;exact zI _
@[reducible] def b_are_unlike:DS:=qY (qR (gD false) (q8 (zA false [none] (xB (jP (qE 1 S_pairs_by_far (q8 (q9 0) (qA))))) (gNm 0) (zW) (zB (d2 gEq (qR zT (q8 (q9 0) (qA))) (dC (.int 1))))) (qA)))
@[irreducible] def S_are_unlike:DF:=sh (qL 1 b_are_unlike)
theorem jL:S_are_unlike=qL 1 b_are_unlike:=by delta S_are_unlike;exact zI _
@[reducible] def b_fits (c:Cl):DS:=qM (xM (qE 1 (S_need_unlike c) (q8 (q9 0) (qA)))) (qM (xM (qE 1 (S_need_point c) (q8 (q9 1) (qA)))) (qY (vW (d2 j3 (q9 1) (q9 0)) (qE 1 S_are_unlike (q8 (d2 zH (q9 0) (zP (q8 (q9 1) (qA)))) (qA))))))
@[irreducible] def S_fits (c:Cl):DF:=sh (qL 2 (b_fits c))
theorem l6 (c:Cl):S_fits c=qL 2 (b_fits c):=by delta S_fits;exact zI _
@[reducible] def b_filled (c:Cl):DS:=qM (xM (qE 3 (S_need_within c) (q8 (q9 0) (q8 (dC (.int 1)) (q8 (dC (.int (12))) (qA)))))) (qM (xM (qE 3 (S_need_within c) (q8 (q9 1) (q8 (dC (.int 1)) (q8 (dC (.int (12))) (qA)))))) (qM (z0 (zP (qA)) (gNm 2)) (qM (wV (w9 (qE 2 S_board_points (q8 (q9 0) (q8 (q9 1) (qA))))) (gNm 3) (sIf (dTr (qE 1 S_are_unlike (q8 (d2 zH (q9 2) (zP (q8 (q9 3) (qA)))) (qA)))) (b8 2 uA (zP (q8 (q9 3) (qA)))) (zN))) (qY (q9 2)))))
@[irreducible] def S_filled (c:Cl):DF:=sh (qL 4 (b_filled c))
theorem bY (c:Cl):S_filled c=qL 4 (b_filled c):=by delta S_filled;exact zI _
@[reducible] def b_unlike_lots (c:Cl):DS:=qM (xM (qE 3 (S_need_within c) (q8 (q9 0) (q8 (dC (.int 1)) (q8 (dC (.int (4))) (qA)))))) (qM (xM (qE 3 (S_need_within c) (q8 (q9 1) (q8 (dC (.int 1)) (q8 (dC (.int (4))) (qA)))))) (qM (z0 (qE 2 S_board_points (q8 (q9 0) (q8 (q9 1) (qA)))) (gNm 2)) (qM (z0 (pQ (qA)) (gNm 3)) (qM (z0 (zA false [none] (dIt (q9 2)) (gNm 0) (zW) (zB (zP (q8 (q9 0) (qA))))) (gNm 4)) (qM (tE (dTr (q9 4)) (qM (z0 (q9 4) (gNm 3)) (z0 (zA false [none] (dIt (qE 2 S_grown (q8 (q9 3) (q8 (q9 2) (qA))))) (gNm 0) (wG (dTr (qE 1 (okO S_are_unlike) (q8 (q9 0) (qA)))) (zW)) (zB (q9 0))) (gNm 4)))) (qY (q9 3)))))))
@[irreducible] def S_unlike_lots (c:Cl):DF:=sh (qL 5 (b_unlike_lots c))
theorem uR (c:Cl):S_unlike_lots c=qL 5 (b_unlike_lots c):=by delta S_unlike_lots;exact zI _
@[reducible] def b_most_unlike (c:Cl):DS:=qY (qR zT (q8 (d2 gIx (qE 2 (S_unlike_lots c) (q8 (q9 0) (q8 (q9 1) (qA)))) (dC (.int 0))) (qA)))
@[irreducible] def S_most_unlike (c:Cl):DF:=sh (qL 2 (b_most_unlike c))
theorem uO (c:Cl):S_most_unlike c=qL 2 (b_most_unlike c):=by delta S_most_unlike;exact zI _
@[reducible] def b_many_fars (c:Cl):DS:=qY (qR zT (q8 (qE 1 (S_fars c) (q8 (q9 0) (qA))) (qA)))
@[irreducible] def S_many_fars (c:Cl):DF:=sh (qL 1 (b_many_fars c))
theorem kK (c:Cl):S_many_fars c=qL 1 (b_many_fars c):=by delta S_many_fars;exact zI _
@[reducible] def b_singles (c:Cl):DS:=qY (zA false [none,none] (dIt (qE 1 (S_far_table c) (q8 (q9 0) (qA)))) (gTp 2 (qX (gNm 0) (qX (gNm 1) (xJ)))) (wG (dTr (d2 gEq (q9 1) (dC (.int 1)))) (zW)) (zB (q9 0)))
@[irreducible] def S_singles (c:Cl):DF:=sh (qL 1 (b_singles c))
theorem pM (c:Cl):S_singles c=qL 1 (b_singles c):=by delta S_singles;exact zI _
@[reducible] def b__law_cell:DS:=qM (sIf (dTr (d2 gLt (q9 1) (qR zT (q8 (q9 0) (qA))))) (qY (d2 gIx (q9 0) (q9 1))) (zN)) (qY (dC (.int 0)))
@[irreducible] def S__law_cell:DF:=sh (qL 2 b__law_cell)
theorem kE:S__law_cell=qL 2 b__law_cell:=by delta S__law_cell;exact zI _
@[reducible] def b__law_pen:DS:=qY (bI (q8 (q9 0) (q8 (qR iQ (q8 (d2 gGe (q9 0) (d2 gG (dC (.int 10)) (dC (.int 18)))) (qA))) (qA))))
@[irreducible] def S__law_pen:DF:=sh (qL 1 b__law_pen)
theorem pD:S__law_pen=qL 1 b__law_pen:=by delta S__law_pen;exact zI _
@[reducible] def b__law_draw:DS:=qM (sIf (dTr (d2 gEq (d2 gIx (q9 0) (dC (.int 1))) (dC (.int 1)))) (qM (z0 (d2 jX (d2 gIx (q9 0) (dC (.int 0))) (q9 1)) (gNm 2)) (qM (z0 (d2 uZ (d2 gIx (q9 0) (dC (.int 0))) (q9 1)) (gSb (q9 0) (dC (.int 0)) y9)) (qY (q9 2)))) (zN)) (qM (z0 (d2 jX (d2 zH (d2 xV (d2 jX (d2 gIx (q9 0) (dC (.int 0))) (dC (.int 2147483629))) (dC (.int 48271))) (dC (.int 11))) (dC (.int 2147483629))) (gSb (q9 0) (dC (.int 0)) y9)) (qY (d2 jX (d2 uZ (d2 jX (d2 zH (d2 xV (d2 gIx (q9 0) (dC (.int 0))) (d2 gIx (q9 0) (dC (.int 0)))) (d2 xV (dC (.int 40692)) (d2 gIx (q9 0) (dC (.int 0))))) (dC (.int 2147483647))) (dC (.int 8))) (q9 1))))
@[irreducible] def S__law_draw:DF:=sh (qL 3 b__law_draw)
theorem kF:S__law_draw=qL 3 b__law_draw:=by delta S__law_draw;exact zI _
@[reducible] def b__law_point:DS:=qY (zP (q8 (d2 xY (qE 2 S__law_draw (q8 (q9 0) (q8 (d2 zH (d2 xV (dC (.int 2)) (q9 1)) (dC (.int 1))) (qA)))) (q9 1)) (q8 (d2 xY (qE 2 S__law_draw (q8 (q9 0) (q8 (d2 zH (d2 xV (dC (.int 2)) (q9 1)) (dC (.int 1))) (qA)))) (q9 1)) (qA))))
@[irreducible] def S__law_point:DF:=sh (qL 2 b__law_point)
theorem jK:S__law_point=qL 2 b__law_point:=by delta S__law_point;exact zI _
@[reducible] def b__law_lot:DS:=qM (gY 2 3 (q8 (qE 2 S__law_draw (q8 (q9 0) (q8 (dC (.int 7)) (qA)))) (q8 (d2 zH (dC (.int 1)) (qE 2 S__law_draw (q8 (q9 0) (q8 (q9 1) (qA))))) (qA)))) (qM (z0 (zP (q8 (d2 gIx (pQ (q8 (dC (.int 1)) (q8 (dC (.int 2)) (q8 (dC (.int 4)) (q8 (dC (.int 12)) (q8 (dC (.int 1000)) (qA))))))) (qE 2 S__law_draw (q8 (q9 0) (q8 (dC (.int 5)) (qA))))) (q8 (qE 2 S__law_point (q8 (q9 0) (q8 (dC (.int 400)) (qA)))) (qA)))) (gTp 2 (qX (gNm 4) (qX (gNm 5) (xJ))))) (qM (z0 (d2 zH (dC (.int 1)) (qE 2 S__law_draw (q8 (q9 0) (q8 (dC (.int 9)) (qA))))) (gNm 6)) (qM (z0 (zA false [none,Ab 0,Ab 4] (xB (wC (q8 (q9 3) (qA)))) (gNm 0) (zW) (zB (qE 2 (okO S__law_point) (q8 (q9 1) (q8 (q9 2) (qA)))))) (gNm 7)) (qM (sIf (dTr (d2 gEq (q9 2) (dC (.int 0)))) (z0 (zA false [none,Ab 5] (xB (wC (q8 (q9 3) (qA)))) (gNm 0) (zW) (zB (zP (q8 (d2 zH (d2 gIx (q9 1) (dC (.int 0))) (d2 jX (q9 0) (dC (.int 4)))) (q8 (d2 zH (d2 gIx (q9 1) (dC (.int 1))) (d2 uZ (q9 0) (dC (.int 4)))) (qA)))))) (gNm 7)) (zN)) (qM (sIf (dTr (d2 gEq (q9 2) (dC (.int 1)))) (z0 (zA false [none,Ab 5,Ab 6] (xB (wC (q8 (q9 3) (qA)))) (gNm 0) (zW) (zB (zP (q8 (d2 zH (d2 gIx (q9 1) (dC (.int 0))) (d2 xV (q9 2) (q9 0))) (q8 (d2 xY (d2 gIx (q9 1) (dC (.int 1))) (q9 0)) (qA)))))) (gNm 7)) (zN)) (qM (sIf (dTr (d2 gEq (q9 2) (dC (.int 2)))) (qM (z0 (dSl (q9 7) (xX) (xA (d2 zH (dC (.int 1)) (d2 uZ (q9 3) (dC (.int 4)))))) (gNm 8)) (qM (z0 (d2 zH (d2 zH (q9 8) (zA false [none,none] (dIt (q9 8)) (gTp 2 (qX (gNm 0) (qX (gNm 1) (xJ)))) (zW) (zB (zP (q8 (d2 xY (dC (.int 0)) (q9 1)) (q8 (q9 0) (qA))))))) (zA false [none,none] (dIt (q9 8)) (gTp 2 (qX (gNm 0) (qX (gNm 1) (xJ)))) (zW) (zB (zP (q8 (d2 xY (dC (.int 0)) (q9 0)) (q8 (d2 xY (dC (.int 0)) (q9 1)) (qA))))))) (gNm 7)) (z0 (d2 zH (q9 7) (zA false [none,none] (dIt (q9 8)) (gTp 2 (qX (gNm 0) (qX (gNm 1) (xJ)))) (zW) (zB (zP (q8 (q9 1) (q8 (d2 xY (dC (.int 0)) (q9 0)) (qA))))))) (gNm 7)))) (zN)) (qY (qR uX (q8 (vP false (dSl (q9 7) (xX) (xA (q9 3)))) (qA))))))))))
@[irreducible] def S__law_lot:DF:=sh (qL 9 b__law_lot)
theorem pC:S__law_lot=qL 9 b__law_lot:=by delta S__law_lot;exact zI _
@[reducible] def b__law_far:DS:=qY (d2 zH (d2 gG (d2 xY (d2 gIx (q9 0) (dC (.int 0))) (d2 gIx (q9 1) (dC (.int 0)))) (dC (.int 2))) (d2 gG (d2 xY (d2 gIx (q9 0) (dC (.int 1))) (d2 gIx (q9 1) (dC (.int 1)))) (dC (.int 2))))
@[irreducible] def S__law_far:DF:=sh (qL 2 b__law_far)
theorem pB:S__law_far=qL 2 b__law_far:=by delta S__law_far;exact zI _
@[reducible] def b__law_pairs:DS:=qM (z0 (pQ (qA)) (gNm 1)) (qM (wV (wC (q8 (qR zT (q8 (q9 0) (qA))) (qA))) (gNm 2) (z0 (d2 zH (q9 1) (zA false [none,Ab 2,Ab 0] (dIt (dSl (q9 0) (xA (d2 zH (q9 2) (dC (.int 1)))) (xX))) (gNm 0) (zW) (zB (zP (q8 (d2 gIx (q9 2) (q9 1)) (q8 (q9 0) (qA))))))) (gNm 1))) (qY (q9 1)))
@[irreducible] def S__law_pairs:DF:=sh (qL 3 b__law_pairs)
theorem jJ:S__law_pairs=qL 3 b__law_pairs:=by delta S__law_pairs;exact zI _
@[reducible] def b__law_first_like:DS:=qM (gY 1 2 (q8 (sZ) (q8 (bI (qA)) (qA)))) (qM (wV (w9 (qE 1 S__law_pairs (q8 (q9 0) (qA)))) (gTp 2 (qX (gNm 3) (qX (gNm 4) (xJ)))) (qM (z0 (qE 2 S__law_far (q8 (q9 3) (q8 (q9 4) (qA)))) (gNm 5)) (sIf (dTr (d2 fQ (q9 5) (q9 1))) (xM (dBm "list" xQ (q9 2) (q8 (d2 zH (d2 pW (q9 1) (q9 5)) (zP (q8 (q9 3) (q8 (q9 4) (qA))))) (qA)))) (z0 (zP (q8 (q9 3) (q8 (q9 4) (qA)))) (gSb (q9 1) (q9 5) y9))))) (qY (mF (q8 (q9 2) (qA)) (dC .non))))
@[irreducible] def S__law_first_like:DF:=sh (qL 6 b__law_first_like)
theorem yW:S__law_first_like=qL 6 b__law_first_like:=by delta S__law_first_like;exact zI _
@[reducible] def b__law_kept:DS:=qM (z0 (zP (qA)) (gNm 1)) (qM (wV (w9 (q9 0)) (gNm 2) (qM (z0 (qR uX (q8 (qR uG (q8 (d2 zH (q9 1) (zP (q8 (q9 2) (qA)))) (qA))) (qA))) (gNm 3)) (sIf (wG (dTr (d2 j3 (q9 2) (q9 1))) (dTr (d2 gIs (qE 1 S__law_first_like (q8 (q9 3) (qA))) (dC .non)))) (z0 (q9 3) (gNm 1)) (zN)))) (qY (q9 1)))
@[irreducible] def S__law_kept:DF:=sh (qL 4 b__law_kept)
theorem kG:S__law_kept=qL 4 b__law_kept:=by delta S__law_kept;exact zI _
@[reducible] def b__law_like_right (c:Cl):DS:=qM (z0 (qE 1 (S_first_like c) (q8 (q9 1) (qA))) (gNm 2)) (qM (sIf (dTr (d2 gNe (d2 gIs (q9 2) (dC .non)) (d2 gEq (qR zT (q8 (qE 1 (S_singles c) (q8 (q9 1) (qA))) (qA))) (d2 uZ (d2 xV (qR zT (q8 (q9 1) (qA))) (d2 xY (qR zT (q8 (q9 1) (qA))) (dC (.int 1)))) (dC (.int 2)))))) (qY (dC (.bl false))) (zN)) (qM (sIf (dTr (d2 gIs (q9 2) (dC .non))) (qM (z0 (qE 2 S__law_point (q8 (q9 0) (q8 (dC (.int 30)) (qA)))) (gNm 3)) (qM (z0 (qR uX (q8 (vP false (d2 zH (q9 1) (zP (q8 (q9 3) (qA))))) (qA))) (gNm 4)) (qY (d2 gEq (qE 2 (S_fits c) (q8 (q9 1) (q8 (q9 3) (qA)))) (vW (d2 j3 (q9 3) (q9 1)) (d2 gIs (qE 1 (S_first_like c) (q8 (q9 4) (qA))) (dC .non))))))) (zN)) (qM (sIf (vX (dTr (d2 uI (qE 2 (S_is_likeness c) (q8 (q9 1) (q8 (q9 2) (qA)))) (dC (.bl true)))) (dTr (d2 uI (qE 2 (S_is_likeness c) (q8 (q9 1) (q8 (d2 zH (dSl (q9 2) (xA (dC (.int 2))) (xX)) (dSl (q9 2) (xX) (xA (dC (.int 2))))) (qA)))) (dC (.bl false))))) (qY (dC (.bl false))) (zN)) (qM (z0 (qR uX (q8 (zA false [none,Ab 2] (dIt (q9 1)) (gNm 0) (wG (dTr (d2 rG (q9 0) (d2 gIx (q9 1) (dC (.int 0))))) (zW)) (zB (q9 0))) (qA))) (gNm 5)) (qY (d2 gEq (qE 1 (S_first_like c) (q8 (q9 5) (qA))) (q9 2)))))))
@[irreducible] def S__law_like_right (c:Cl):DF:=sh (qL 6 (b__law_like_right c))
theorem yX (c:Cl):S__law_like_right c=qL 6 (b__law_like_right c):=by delta S__law_like_right;exact zI _
@[reducible] def b__law_board_right (c:Cl):DS:=qM (z0 (qE 2 (S_filled c) (q8 (q9 0) (q8 (q9 1) (qA)))) (gNm 2)) (qM (sIf (vX (dTr (d2 uI (qE 1 S_is_lot (q8 (q9 2) (qA))) (dC (.bl true)))) (vX (dTr (d2 gNe (d2 gIx (q9 2) (dC (.int 0))) (zP (q8 (dC (.int 0)) (q8 (dC (.int 0)) (qA)))))) (dTr (d2 pV (qE 1 (S_first_like c) (q8 (q9 2) (qA))) (dC .non))))) (qY (dC (.bl false))) (zN)) (qM (wV (wC (q8 (q9 0) (qA))) (gNm 3) (wV (wC (q8 (q9 1) (qA))) (gNm 4) (sIf (dTr (d2 uI (qE 2 (S_fits c) (q8 (q9 2) (q8 (zP (q8 (q9 3) (q8 (q9 4) (qA)))) (qA)))) (dC (.bl false)))) (qY (dC (.bl false))) (zN)))) (qY (dC (.bl true)))))
@[irreducible] def S__law_board_right (c:Cl):DF:=sh (qL 5 (b__law_board_right c))
theorem yQ (c:Cl):S__law_board_right c=qL 5 (b__law_board_right c):=by delta S__law_board_right;exact zI _
@[reducible] def b_law (c:Cl):DS:=qM (wV (w9 (d2 zH (pQ (q8 (qE 2 S__law_cell (q8 (q9 0) (q8 (dC (.int 0)) (qA)))) (qA))) (dSl (q9 0) (xA (dC (.int 1))) (xA (dC (.int 4)))))) (gNm 1) (qM (z0 (qE 1 S__law_pen (q8 (q9 1) (qA))) (gNm 2)) (qM (sIf (wH (dTr (qE 2 (S__law_like_right c) (q8 (q9 2) (q8 (qE 2 S__law_lot (q8 (q9 2) (q8 (dC (.int 16)) (qA)))) (qA)))))) (qY (dC (.bl false))) (zN)) (qM (z0 (qE 1 S__law_kept (q8 (zA false [none,Ab 2] (xB (wC (q8 (dC (.int 7)) (qA)))) (gNm 0) (zW) (zB (qE 2 (okO S__law_point) (q8 (q9 1) (q8 (dC (.int 9)) (qA)))))) (qA))) (gNm 3)) (qM (sIf (vX (dTr (d2 gNe (qE 1 (S_many_fars c) (q8 (q9 3) (qA))) (d2 uZ (d2 xV (qR zT (q8 (q9 3) (qA))) (d2 xY (qR zT (q8 (q9 3) (qA))) (dC (.int 1)))) (dC (.int 2))))) (wH (dTr (qE 2 (S__law_like_right c) (q8 (q9 2) (q8 (q9 3) (qA))))))) (qY (dC (.bl false))) (zN)) (qM (sIf (wH (dTr (qE 2 (S__law_board_right c) (q8 (d2 zH (dC (.int 1)) (qE 2 S__law_draw (q8 (q9 2) (q8 (dC (.int 6)) (qA))))) (q8 (d2 zH (dC (.int 1)) (qE 2 S__law_draw (q8 (q9 2) (q8 (dC (.int 6)) (qA))))) (qA)))))) (qY (dC (.bl false))) (zN)) (qM (gY 4 5 (q8 (d2 zH (dC (.int 1)) (qE 2 S__law_draw (q8 (q9 2) (q8 (dC (.int 4)) (qA))))) (q8 (d2 zH (dC (.int 1)) (qE 2 S__law_draw (q8 (q9 2) (q8 (dC (.int 4)) (qA))))) (qA)))) (qM (z0 (qE 2 (S_unlike_lots c) (q8 (q9 4) (q8 (q9 5) (qA)))) (gNm 6)) (qM (z0 (qE 2 (S_most_unlike c) (q8 (q9 4) (q8 (q9 5) (qA)))) (gNm 7)) (qM (sIf (vX (dTr (d2 gGt (qR zT (q8 (qE 2 (S_filled c) (q8 (q9 4) (q8 (q9 5) (qA)))) (qA))) (q9 7))) (dTr (d2 gNe (qE 2 (S_most_unlike c) (q8 (q9 5) (q8 (q9 4) (qA)))) (q9 7)))) (qY (dC (.bl false))) (zN)) (wV (w9 (q9 6)) (gNm 8) (sIf (vX (dTr (d2 gNe (qR zT (q8 (q9 8) (qA))) (q9 7))) (dTr (d2 gNe (qR zT (q8 (qE 1 (S_fars c) (q8 (q9 8) (qA))) (qA))) (d2 uZ (d2 xV (q9 7) (d2 xY (q9 7) (dC (.int 1)))) (dC (.int 2)))))) (qY (dC (.bl false))) (zN))))))))))))) (qY (dC (.bl true)))
end _K
namespace _K
open PySem _D
variable {kvs:Aa (_L.Key × D)}{xs:Aa D}{pts ps:Aa Pt}{i n j:Ai}{Q:D->Sto->Prop}{S:Sto}{env:qB}
theorem BX {d:D}(h:Pn d)(S:Sto):S_is_whole [d] S=.ok (.bl (isW d)) S:=by
 rw[pF];obtain⟨p,h⟩:=h;cases d <;> first|kernel_rfl!|simp[pyD] at h
theorem eC {d:D}(h:Pn d)(a b:An)(S:Sto):S_is_within [d,.int a,.int b] S=.ok (.bl (inR a b d)) S:=by
 rw[kJ];refine xK (zC (env:=[Ab d,Ab (.int a),Ab (.int b)]) rfl ?_);rfl';refine jT ?_;rfl';refine qN (BX h S) ⟨_,rfl,λe=>?_,λe=>?_⟩
 .cases d with
  |int i=>exact aE rfl rfl rfl ⟨rfl,rfl⟩
  |_=>cases e
 .cases d <;> first|exact⟨rfl,rfl⟩|cases e
theorem gV {d:D}(h:Pn d)(S:Sto):S_is_point [d] S=.ok (.bl (wN d)) S:=by
 rw[pE];refine xK (zC (env:=[Ab d]) rfl ?_);rfl';refine uD ?_;rfl';refine qN (JJ h S) ?_;rfl';refine⟨λe=>?_,λe=>?_⟩
 .rfl'
  exact⟨by rw[N9 (by simpa using e)],rfl⟩
 .cases d with
  |tup xs =>
   rfl';refine vB (λe=>?_) λe=>?_
   .rfl'
    refine wU (enc:=id) (o:=none) xs (λx=>.bl (isI x)) (λenv S'=>S'=S/\∃ a,env=[a]) ((o8 rfl).trans (by rw[Rg])) ⟨rfl,none,rfl⟩ (by unfold lim;lia) (λ_ _ _=>trivial) (λx hx env S' ⟨e1,a,e2⟩=>?_) λenv S' ⟨e1,_⟩=>?_
    .subst e1 e2
     rfl';exact qN (eC (XS h x hx) _ _ _) ⟨rfl,rfl,_,rfl⟩
    .subst e1
     rfl';exact mV ⟨by rw[N7 li],rfl⟩
   .rfl'
    exact⟨by rw[N8 li],rfl⟩
  |_=>cases e
theorem UE (qs:Aa Pt)(hl:qs.length<=1000)(S:Sto):S_is_rising [qT qs] S=.ok (.bl (upB (qs.map kP))) S:=by
 rw[kI];refine xK (zC (env:=[Ab (.tup (qs.map ptD))]) rfl ?_);rfl';have hz:xB (iN (q8 (q9 0) (q8 (dSl (q9 0) (xA (dC (.int 1))) (xX)) (qA)))) [Ab (.tup (qs.map ptD))] S=.ok (none,(((qs.map kP).zip ((qs.map kP).drop 1)).map λp=>D.tup [tpD p.1,tpD p.2])) S:=by
  show Res.ok (none,vI (qs.map ptD) (xO (qs.map ptD) (Ab 1) none)) S=_;rw[RL,kN,<- Sg,RF]
 refine wU _ (λp=>.bl (_H.lexLt p.1 p.2)) (λenv S'=>S'=S/\∃ a b,env=[a,b]) hz ⟨rfl,none,none,rfl⟩ ?_ (λ_ _ _=>trivial) (λx hx env S' ⟨e1,a,b,e2⟩=>?_) λenv S' ⟨e1,_⟩=>?_
 .rw[Um,Ak]
  unfold lim
  lia
 .subst e1 e2
  rfl';exact qN (ED _ _ _) ⟨rfl,rfl,_,_,rfl⟩
 .subst e1
  rfl';exact mV ⟨rfl,rfl⟩
theorem eB {d:D}(h:Pn d)(S:Sto):S_is_lot [d] S=.ok (.bl (dW d)) S:=by
 rw[bZ];refine xK (zC (env:=[Ab d]) rfl ?_);rfl';refine uD ?_;rfl';refine qN (JJ h S) ?_;rfl';refine⟨λe=>?_,λe=>?_⟩
 .rfl'
  exact⟨by rw[GP (by simpa using e)],rfl⟩
 .cases d with
  |tup xs =>
   rfl';refine aE (b:=(xs.length:An)) rfl rfl rfl ?_;rfl';refine vB (λz=>?_) λz=>?_
   .have hl:1<=xs.length/\xs.length<=40:=by lia
    rfl';refine jT ?_;rfl';refine wU (enc:=id) (o:=none) xs (λx=>.bl (wN x)) (λenv S'=>S'=S/\∃ a,env=[a]) ((o8 rfl).trans (by rw[Rg])) ⟨rfl,none,rfl⟩ (by unfold lim;lia) (λ_ _ _=>trivial) (λx hx env S' ⟨e1,a,e2⟩=>?_) λenv S' ⟨e1,_⟩=>?_
    .subst e1 e2
     rfl';exact qN (gV (XS h x hx) _) ⟨rfl,rfl,_,rfl⟩
    .subst e1
     rfl';refine mV ⟨_,rfl,λha=>?_,λha=>?_⟩
     .obtain⟨qs,rfl,_⟩:=kR ha
      rw[Ak] at hl;rfl';refine qN (UE qs li _) ⟨?_,rfl⟩;show _=D.bl (decide (1<=(qs.map ptD).length/\(qs.map ptD).length<=40)&&(qs.map ptD).all wN&&(match w8 (qs.map ptD) with|some ks=>upB ks|none=>false))
      rw[ha,Ak,Cp hl,kN,vU];rfl
     .refine⟨?_,rfl⟩
      show _=D.bl (decide (1<=xs.length/\xs.length<=40)&&xs.all wN&&(match w8 xs with|some ks=>upB ks|none=>false))
      rw[ha,Qk,Hj]
   .rfl'
    refine⟨?_,rfl⟩;show _=D.bl (decide (1<=xs.length/\xs.length<=40)&&xs.all wN&&(match w8 xs with|some ks=>upB ks|none=>false))
    rw[Dj li,Hj,Hj]
  |_=>cases e
theorem jZ (c:Cl){d:D}(S:Sto)(h:Pn d)(k:dW d=true):S_need_lot c [d] S=.ok .non S:=by
 rw[pG];refine xK (zC (env:=[Ab d]) rfl ?_);rfl';refine qN (eB h S) ?_;rw[k];rfl';exact⟨rfl,rfl⟩
theorem oE (c:Cl){d:D}(S:Sto)(h:Pn d)(k:wN d=true):S_need_point c [d] S=.ok .non S:=by
 rw[jN];refine xK (zC (env:=[Ab d]) rfl ?_);rfl';refine qN (gV h S) ?_;rw[k];rfl';exact⟨rfl,rfl⟩
theorem yE {p:Ai}{m:An}(h:yG S p)(hm:0<m/\m<1073741824)(q:∀ (r:Ai) S1,Kp p S S1->(r:An)<m->Q (.int r) S1):Ok (S__law_draw [.loc p,.int m] S) Q:=by
 have fin:∀ r v f:An,0<=r->r<m->Q (.int r) (S.set p (.lst [.int v,.int f])):=λr v f h0 h1=>by
  obtain⟨r,rfl⟩:=Int.eq_ofNat_of_zero_le h0;obtain⟨v0,f0,e⟩:=h;have hpl:=(Bi.mp e).1;exact q r _ ⟨⟨v,f,by simp[hpl]⟩,by simp,λi hi hn=>Ce (Fb hn)⟩ h1
 obtain⟨v,f,e⟩:=h;have hpl:=(Bi.mp e).1;rw[kF];refine zC (env:=[Ab (.loc p),Ab (.int m),none]) rfl ?_;rfl';refine uC e (d:=.int f) rfl ?_;rfl';refine vB (λz=>?_) λz=>?_
 .rfl'
  refine uC e (d:=.int v) rfl ?_;rfl';refine uC e (d:=.int v) rfl ?_;rfl';refine XI e rfl ?_;rfl';exact fin _ _ _ (Mv _ om) (Kv _ hm.1)
 .rfl'
  refine uC e (d:=.int v) rfl ?_;have hv:=Mv v (show (2147483629:An)≠0 by omega)
  have hv':=Kv v (show (0:An)<2147483629 by omega)
  rfl';have hw:=Mv (v % 2147483629*48271+11) (show (2147483629:An)≠0 by omega)
  have hw':=Kv (v % 2147483629*48271+11) (show (0:An)<2147483629 by omega)
  generalize (v % 2147483629*48271+11) % 2147483629=w at hw hw';refine XI e rfl ?_;have e2:(S.set p (MO.lst [.int w,.int f]))[p]? = Ab (.lst [.int w,.int f]):=by simp[hpl]
  rfl';refine uC e2 (d:=.int w) rfl ?_;rfl';refine uC e2 (d:=.int w) rfl ?_;rfl';refine uC e2 (d:=.int w) rfl ?_;rfl';exact fin _ _ _ (Mv _ om) (Kv _ hm.1)
theorem EM {x:An}(q:∀ p S1,yG S1 p->Q (.loc p) S1):Ok (S__law_pen [.int x] S) Q:=by
 rw[pD];refine zC (env:=[Ab (.int x)]) rfl ?_;rfl';refine qN (d:=.int 1000000000000000000) rfl ?_;rfl';refine qN (d:=.int (b01 (decide (1000000000000000000<=x)))) rfl ?_;rfl';exact q _ _ ⟨_,_,cB _ _⟩
theorem BV (ns:Aa An)(hl:ns.length<=63)(k:An){Q:Aa D->Sto->Prop}{env:qB}{S:Sto}(h0:env[0]? = Ab (Ab (.lst (ns.map D.int))))(q:∀ ms:Aa An,Q (ms.map D.int) S):Ok (w9 (d2 zH (pQ (q8 (qE 2 S__law_cell (q8 (q9 0) (q8 (dC (.int 0)) (qA)))) (qA))) (dSl (q9 0) (xA (dC (.int 1))) (xA (dC (.int k))))) env S) Q:=by
 have hc:∃ x:An,S__law_cell [.lst (ns.map D.int),.int 0] S=.ok (.int x) S:=by
  rw[kE];cases ns with
  |nil=>exact⟨0,xK (zC (env:=[Ab (.lst []),Ab (.int 0)]) rfl (by rfl';exact⟨rfl,rfl⟩))⟩
  |cons n ns =>
   refine⟨n,xK (zC (env:=[Ab (.lst ((n::ns).map D.int)),Ab (.int 0)]) rfl ?_)⟩;rfl';refine vB (λ_=>?_) λe=>absurd (by rw[Ak,AT];omega) e
   rfl';exact oH (fK (a:=0) (by simp)) ⟨rfl,rfl⟩
 obtain⟨x,hx⟩:=hc;refine PM (o_2 (EL (kO (NY (kO (o_v h0 ?_))))));rfl';refine qN hx ?_;rfl';refine o_v h0 ?_;rfl';have hm:xO (ns.map D.int) (Ab 1) (Ab k)=((ns.drop (_H.sIx (ns.map D.int).length 0 (Ab 1))).take (_H.sIx (ns.map D.int).length (ns.map D.int).length (Ab k)-_H.sIx (ns.map D.int).length 0 (Ab 1))).map D.int:=by
  unfold xO;rw[Wz,Sg]
 rw[hm];refine mU ?_ ⟨_,rfl,q (x::_)⟩;rw[Ak,Eu,Kj];show 1+_<=lim;unfold lim;omega
theorem bQ (c:Cl){i a b:An}(S:Sto)(h:a<=i/\i<=b):S_need_within c [.int i,.int a,.int b] S=.ok .non S:=by
 rw[uQ];refine xK (zC (env:=[Ab (.int i),Ab (.int a),Ab (.int b)]) rfl ?_);rfl';refine qN (eC ⟨.int i,rfl⟩ a b S) ?_;rw[show inR a b (.int i)=true from Cp h]
 rfl';exact⟨rfl,rfl⟩
theorem oG {p q:Pt}(hp:InB 1000 p)(hq:InB 1000 q)(h:Q (.int (far p q)) S):Ok (S_far_between [ptD p,ptD q] S) Q:=by
 unfold InB at hp hq;rw[uM];refine zC (env:=[Ab (ptD p),Ab (ptD q),none,none]) rfl ?_;rfl';exact h
theorem nL {l:Aa Pt}(hb:∀ p∈l,InB 1000 p)(hl:l.length<=41)(q:∀ kvs S',GI qH prD S.length (qS l) kvs S'->(∀ m,m<S.length->S'[m]? = S[m]?)->Q (.loc S.length) S'):Ok (S_pairs_by_far [qT l] S) Q:=by
 rw[u6];refine zC (env:=[Ab (.tup (l.map ptD)),none,none,none,none]) rfl ?_;rfl';refine FH (λds env S'=>∃ i e2 e3 e4 done kvs,env=[Ab (.tup (l.map ptD)),Ab (.loc S.length),e2,e3,e4]/\ds=eL i ((l.drop i).map ptD)/\GI qH prD S.length done kvs S'/\done++qS (l.drop i)=qS l/\∀ m,m<S.length->S'[m]? = S[m]?) ?_ ?_ ⟨0,_,_,_,[],[],rfl,YK _,⟨cB _ _,λ_ h=>(by cases h),Hl,rfl⟩,rfl,λm hm=>Bl hm⟩
 .rintro d ds _ S' ⟨i,e2,e3,e4,done,kvs,rfl,hds,G,hall,hpre⟩
  cases hdr:l.drop i with
  |nil=>rw[hdr] at hds;cases hds
  |cons p rest =>
   rw[hdr] at hds hall;injection hds with h1 h2
   subst h1 h2;have hrest:l.drop (i+1)=rest:=by
    have:=congrArg List.tail hdr;simpa [List.tail_drop] using this
   have hmem:∀ z∈p::rest,z∈l:=λz hz=>Vw (hdr▸hz);rfl';rw[WZ,<- Sg,hrest];refine wX (λr env S'=>∃ e4 done kvs,env=[Ab (.tup (l.map ptD)),Ab (.loc S.length),Ab (.int (i:An)),Ab (ptD p),e4]/\(∀ z∈r,z∈l)/\GI qH prD S.length done kvs S'/\done++(r.map (λz=>(p,z))++qS rest)=qS l/\∀ m,m<S.length->S'[m]? = S[m]?) ?_ ?_ ⟨_,done,kvs,rfl,λz hz=>hmem z (Cn _ hz),G,hall,hpre⟩
   .rintro z r _ S' ⟨e4,done,kvs,rfl,hr,G,hall,hpre⟩
    have hdl:done.length<lim:=by
     have:=congrArg Fy hall;have h3:=oD hl;simp only[Aw] at this;unfold lim
     lia
    obtain⟨j,S1,S2,kvs',f1,f2,f3,G',hp'⟩:=GJ G (p,z) hdl;rfl';refine⟨eQ G.dict,?_⟩;rfl';refine oG (hb p (hmem p (Dl ..))) (hb z (hr z (Dl ..))) ?_;rfl';refine qN f1 ⟨f2,?_⟩;rfl';refine qN f3 ?_;exact yL ⟨_,done++[(p,z)],kvs',rfl,λy hy=>hr y (Cn _ hy),G',by rw[<- hall];simp,λm hm=>(hp' m hm).trans (hpre m hm)⟩
   .rintro _ S' ⟨e4,done,kvs,rfl,hr,G,hall,hpre⟩
    exact yL ⟨i+1,_,_,_,done,kvs,rfl,by rw[hrest],G,by rw[hrest];simpa using hall,hpre⟩
 .rintro _ S' ⟨i,e2,e3,e4,done,kvs,rfl,hds,G,hall,hpre⟩
  rfl';refine q kvs S' ?_ hpre;cases hdr:l.drop i with
  |cons _ _=>rw[hdr] at hds;cases hds
  |nil =>
   rw[hdr] at hall;have:done=qS l:=by simpa [qS] using hall
   rw[<- this];exact G
abbrev PP:=Pt × Pt
noncomputable def fl:Aa PP->Al (PP × PP)
 |[]=>none
 |x::xs=>match xs.find? (λy=>qH y == qH x) with
  |some y=>Ab (x,y)
  |none=>fl xs
noncomputable def ded (ks:Aa An):Aa An:=ks.foldl Bc []
theorem jR (k:An):∀ (ks l:Aa An),ks.foldl Bc (k::l)=k::(ks.filter λx=>x != k).foldl Bc l
 |[],l=>rfl
 |x::ks,l=>by
  show ks.foldl Bc (Bc (k::l) x)=_;by_cases hx:x=k
  .subst hx
   rw[bV (.head _),jR x ks l];simp
  .have e:((x::ks).filter λx=>x != k)=x::ks.filter λx=>x != k:=by simp[hx]
   rw[e];show _=k::(ks.filter λx=>x != k).foldl Bc (Bc l x);by_cases hl:x∈l
   .rw[bV (.tail _ hl),bV hl,jR k ks l]
   .rw[p6 (by simp[hx,hl]),p6 hl]
    exact jR k ks (l++[x])
theorem Y8 (k:An)(ks:Aa An):ded (k::ks)=k::ded (ks.filter λx=>x != k):=by
 show ks.foldl Bc (Bc [] k)=_;rw[p6 (by simp)]
 exact jR k ks []
noncomputable def two (g:Aa PP):Al (PP × PP):=match g with
 |a::b::_=>Ab (a,b)
 |_=>none
theorem rF {α β:Type}{f g:α->Al β} : ∀ {l:Aa α},(∀ x∈l,f x=g x)->l.findSome? f=l.findSome? g
 |[],_=>rfl
 |x::l,h=>by
  rw[Mr,Mr,h x (.head _),rF λy hy=>h y (.tail _ hy)]
theorem cL:∀ xs:Aa PP,(ded (xs.map qH)).findSome? (λf=>two (xs.filter λx=>qH x == f))=fl xs
 |[]=>rfl
 |x::xs=>by
  rw[De,Y8,Mr];have e1:((x::xs).filter λz=>qH z == qH x)=x::xs.filter λz=>qH z == qH x:=by simp
  rw[e1];unfold fl;cases q:xs.find? (λy=>qH y == qH x) with
  |some y =>
   have:∃ t,(xs.filter λz=>qH z == qH x)=y::t:=by
    rw[<- List.head?_filter] at q;cases z:(xs.filter λz=>qH z == qH x) with
    |nil=>rw[z] at q;cases q
    |cons a t=>rw[z] at q;cases q;exact⟨t,rfl⟩
   obtain⟨t,ht⟩:=this;rw[ht];rfl
  |none =>
   have hn:∀ y∈xs,qH y≠qH x:=λy hy e=>by
    have:=Kw.mp q y hy;exact this (by simpa using e)
   have e2:(xs.filter λz=>qH z == qH x)=[]:=Uq.mpr λz hz=>by simpa using hn z hz
   have e3:((xs.map qH).filter λz=>z != qH x)=xs.map qH:=Kq.mpr λz hz=>by
    obtain⟨y,hy,rfl⟩:=Br.mp hz;simpa using hn y hy
   rw[e2,e3];show (ded (xs.map qH)).findSome? _=fl xs;rw[<- cL xs];refine rF λf hf=>?_;have hf':f∈xs.map qH:=by
    rcases gE.mp hf with h|h
    .cases h
    .exact h
   obtain⟨y,hy,rfl⟩:=Br.mp hf';have:(qH x == qH y)=false:=Kh.mpr (Fb (hn y hy));rw[Zr,this];rfl
noncomputable def qD (z:PP × PP):D:=.tup [ptD z.1.1,ptD z.1.2,ptD z.2.1,ptD z.2.2]
noncomputable def flD:Al (PP × PP)->D
 |some z=>qD z
 |none=>.non
theorem b0 (c:Cl){l:Aa Pt}{M:Ai}(hM:M<=40)(h:Lot M l){S:Sto}(q:∀ S',S<+:S'->Q (flD (fl (qS l))) S'):Ok (S_first_like c [qT l] S) Q:=by
 have hll:=h.len;obtain⟨_,S1,e1,rfl,kvs,G,hp⟩:=nL (S:=S) (Q:=λd S'=>d=.loc S.length/\∃ kvs,GI qH prD S.length (qS l) kvs S'/\∀ m,m<S.length->S'[m]? = S[m]?) h.box li λkvs S' G hp=>⟨rfl,kvs,G,hp⟩;have hv:jP (qE 1 S_pairs_by_far (q8 (q9 0) (qA))) [Ab (qT l),none] S=.ok (kvs.map (·.2)) (S1.set S.length .dead):=by
  unfold jP;rw[(kY (f1:=q9 0) (env:=[Ab (qT l),none]) (S:=S) rfl).trans e1,Res.bind_ok];show (match S1[S.length]? with|some (.dct kvs)=>Res.ok (kvs.map λkv:_L.Key × D=>kv.2) (S1.set S.length .dead)|_=>.bad)=_
  rw[G.dict]
 have hpre:S<+:S1.set S.length .dead:=t9 λm hm=>by rw[Ce li];exact hp m hm
 rw[jM];refine zC (env:=[Ab (qT l),none]) rfl ?_;array_get_dec;array_get_dec;array_get_dec;array_get_dec;array_get_dec;array_get_dec;array_get_dec;refine qN (jZ c S (t8 l) (gK hM h)) ?_;array_get_dec;array_get_dec;array_get_dec;refine qN hv ?_;refine wX (λr env S'=>S'=S1.set S.length .dead/\∃ (e:Al D) (ks:Aa An),env=[Ab (qT l),e]/\(∀ kv∈r,kv∈kvs)/\r.map (·.1)=ks.map Ho/\ks.findSome? (λf=>two ((qS l).filter λx=>qH x == f))=fl (qS l)) ?_ ?_ ⟨rfl,_,_,rfl,λ_ h=>h,G.keys,cL _⟩
 .rintro kv r _ S' ⟨rfl,e,ks,rfl,hm,hk,hf⟩
  obtain⟨f,j,rfl,h1,h2⟩:=G.lists kv (hm kv (.head _));have h3:(S1.set S.length .dead)[j]? = Ab (.lst (((qS l).filter λx=>qH x == f).map prD)):=by rw[Ce li];exact h2
  cases ks with
  |nil=>cases hk
  |cons f' ks =>
   rw[De,De] at hk;injection hk with k1 k2
   injection k1 with k1
   subst k1;rw[Mr] at hf;rfl';refine rY h3 ?_;rfl';rw[Ak];refine vB (λz=>?_) λz=>?_
   .cases hg:(qS l).filter λx=>qH x == f with
    |nil=>rw[hg] at z;simp at z
    |cons a g =>
     cases g with
     |nil=>rw[hg] at z;simp at z
     |cons b g =>
      rw[hg] at hf h3;have hf:fl (qS l)=Ab (a,b):=hf.symm;rfl';refine uC h3 (d:=prD a) (fK (a:=0) (by simp)) ?_
      rfl';refine uC h3 (d:=prD b) (fK (a:=1) (by simp)) ?_
      refine jC (Oy rfl) ?_;refine RC ?_;rfl';have:=q _ hpre;rw[hf] at this;exact this
   .have ht:two ((qS l).filter λx=>qH x == f)=none:=by
     cases hg:(qS l).filter λx=>qH x == f with
     |nil=>rfl
     |cons a g =>
      cases g with
      |nil=>rfl
      |cons b g=>rw[hg] at z;exact absurd (by simp only[AT];lia) z
    rw[ht] at hf;rfl';exact yL ⟨rfl,_,ks,rfl,λkv hk=>hm kv (.tail _ hk),k2,hf⟩
 .rintro _ S' ⟨rfl,e,ks,rfl,hm,hk,hf⟩
  cases ks with
  |cons _ _=>cases hk
  |nil =>
   rfl';have:=q _ hpre;rw[<- hf] at this;exact this
theorem aH (c:Cl){l:Aa Pt}{M:Ai}(hM:M<=40)(h:Lot M l){S:Sto}(q:∀ S',S<+:S'->Q (.lst ((tbl (fars l)).map tpD)) S'):Ok (S_far_table c [qT l] S) Q:=by
 have hll:=h.len;have h1600:(qS l).length<=1600:=Df (uS l) (Hn (show l.length<=40 by lia) (show l.length<=40 by lia))
 obtain⟨_,S1,e1,rfl,kvs,G,hp⟩:=nL (S:=S) (Q:=λd S'=>d=.loc S.length/\∃ kvs,GI qH prD S.length (qS l) kvs S'/\∀ m,m<S.length->S'[m]? = S[m]?) h.box li λkvs S' G hp=>⟨rfl,kvs,G,hp⟩;have hi:xB (mE (qE 1 S_pairs_by_far (q8 (q9 0) (qA)))) [Ab (qT l)] S=.ok (none,kvs.map λp=>D.tup [kD p.1,p.2]) (S1.set S.length .dead):=by
  unfold xB mE;rw[(kY (f1:=q9 0) (env:=[Ab (qT l)]) (S:=S) rfl).trans e1];simp only[Res.bind,G.dict];rfl
 have hek:kvs.map (·.1)=(kys (fars l)).map Ho:=G.keys
 have hkl:(kys (fars l)).length<=1600:=by
  have:=uY (ks:=fars l) (l:=[]);have h3:(fars l).length=(qS l).length:=Ak _;unfold kys;simp only[Cd] at this
  lia
 have hkv:kvs.length<=1600:=by
  have:=congrArg Fy hek;rw[Ak,Ak] at this
  lia
 have ev:(kvs.map λp=>ctD (fars l) p.1)=(tbK (fars l)).map tpD:=by
  rw[show (kvs.map λp=>ctD (fars l) p.1)=(kvs.map (·.1)).map (ctD (fars l)) by rw[Eh];rfl,hek]
  unfold tbK;rw[Eh,Eh];rfl
 have hs:uG [.lst ((tbK (fars l)).map tpD)] (S1.set S.length .dead)=.ok (.lst ((tbl (fars l)).map tpD)) (S1.set S.length .dead):=by
  show (match (Ab ((tbK (fars l)).map tpD)).bind vM with|some ys=>Res.ok (D.lst ys) (S1.set S.length .dead)|none=>.bad)=_
  rw[Tf,F8 (tbK (fars l)) (by unfold tbK;rw[Ak];lia) λk hk=>by
   obtain⟨f,_,rfl⟩:=Br.mp hk;intro z;cases z]
  rfl
 rw[kH];refine zC (env:=[Ab (qT l)]) rfl ?_;rfl';refine qN (jZ c S (t8 l) (gK li h)) ?_;rfl';refine wU kvs (λp=>ctD (fars l) p.1) (λenv S'=>S'=S1.set S.length .dead/\∃ a b,env=[a,b]) hi ⟨rfl,none,none,rfl⟩ (by unfold lim;lia) (λ_ _ _=>trivial) (λp hk env S' ⟨z1,a,b,z2⟩=>?_) λenv S' ⟨z1,_⟩=>?_
 .subst z1 z2
  obtain⟨f,j,rfl,h1,h2⟩:=G.lists p hk;rfl';refine rY (xs:=((qS l).filter λx=>qH x == f).map prD) (by rw[Ce li];exact h2) ?_
  rw[Ak,YT];rfl';exact⟨_,_,rfl⟩
 .subst z1
  rw[ev];rfl';exact qN hs (q _ (t9 λm hm=>by rw[Ce li];exact hp m hm))
theorem XF (c:Cl){l:Aa Pt}{M:Ai}(hM:M<=40)(h:Lot M l){S:Sto}(q:∀ S',S<+:S'->Q (.lst (((tbl (fars l)).map λk=>k.headD 0).map D.int)) S'):Ok (S_fars c [qT l] S) Q:=by
 have hll:=h.len;obtain⟨_,S1,e1,rfl,hp⟩:=aH (S:=S) (Q:=λd S'=>d=.lst ((tbl (fars l)).map tpD)/\S<+:S') c hM h λS' p=>⟨rfl,p⟩;have hi:dIt (qE 1 (S_far_table c) (q8 (q9 0) (qA))) [Ab (qT l)] S=.ok (none,(tbl (fars l)).map tpD) S1:=by
  unfold dIt;rw[(kY (f1:=q9 0) (env:=[Ab (qT l)]) (S:=S) rfl).trans e1];rfl
 have hlen:(tbl (fars l)).length<=1600:=by
  have h1:(tbl (fars l)).length=(kys (fars l)).length:=(_S.xG _).length_eq.trans (Ak _);have h2:=uY (ks:=fars l) (l:=[]);have h3:(fars l).length=(qS l).length:=Ak _;have h4:(qS l).length<=1600:=Df (uS l) (Hn (show l.length<=40 by lia) (show l.length<=40 by lia))
  unfold kys at h1;simp only[Cd] at h2
  lia
 rw[l5];refine zC (env:=[Ab (qT l)]) rfl ?_;rfl';refine wU (enc:=tpD) (o:=none) (tbl (fars l)) (λk=>.int (k.headD 0)) (λenv S'=>S'=S1/\∃ a b,env=[a,b]) hi ⟨rfl,none,none,rfl⟩ (by unfold lim;lia) (λ_ _ _=>trivial) (λk hk env S' ⟨z1,a,b,z2⟩=>?_) λenv S' ⟨z1,_⟩=>?_
 .subst z1 z2
  obtain⟨f,_,rfl⟩:=Br.mp ((_S.xG _).mem_iff.mp hk);exact⟨_,_,rfl,_,_,rfl,rfl,_,_,rfl,rfl,rfl,_,_,rfl⟩
 .subst z1
  rfl';have:=q S' hp;rw[Eh] at this;exact this
theorem E8 (e:env[i]? = Ab (Ab (.int (n:An))))(h:n<=1000000):xB (wC (q8 (q9 i) qA)) env S=.ok (none,(Cz n).map λ(i:Ai)=>D.int (i:An)) S:=xK (qZ (oJ (kO (o_v e (s9 ⟨_,oR n h,_,_,rfl,rfl,rfl⟩)))))
theorem mO {k:An}(e:env[i]? = Ab (Ab (.int k)))(h:0<=k/\k<=1000000):xB (wC (q8 (q9 i) qA)) env S=.ok (none,(Cz k.toNat).map λ(i:Ai)=>D.int (i:An)) S:=E8 (by rw[Wy h.1];exact e) li
theorem bD {f:DE}{S1:Sto}{b:Ar}(h:f env S=.ok (.bl b) S1):wG (dTr f) zW env S=.ok b S1:=by
 unfold wG;rw[K4 h];cases b <;> rfl
noncomputable def qU (w h:Ai):Aa Pt:=(Cz w).flatMap λ(x:Ai)=>(Cz h).map λ(y:Ai)=>((x:An),(y:An))
theorem vN (w h:Ai):(qU w h).length=w*h:=by
 unfold qU
 induction w with
 |zero=>simp
 |succ w ih=>rw[List.range_succ,List.flatMap_append,Aw,ih];simp[Nat.succ_mul]
theorem lC {w h:Ai}{p:Pt}:p∈qU w h↔0<=p.1/\p.1<w/\0<=p.2/\p.2<h:=by
 unfold qU;constructor
 .intro m
  obtain⟨x,hx,m⟩:=Pa.mp m;obtain⟨y,hy,rfl⟩:=Br.mp m;have hx:=Do.mp hx;have hy:=Do.mp hy;exact⟨by dsimp only;lia,by dsimp only;lia,by dsimp only;lia,by dsimp only;lia⟩
 .rintro⟨h1,h2,h3,h4⟩
  exact Pa.mpr ⟨p.1.toNat,Do.mpr li,Br.mpr ⟨p.2.toNat,Do.mpr li,WP (by dsimp only;lia) (by dsimp only;lia)⟩⟩
theorem uV {w h:Ai}(hw:w<=12)(hh:h<=12){p:Pt}(m:p∈qU w h):InB 1000 p:=by
 have:=lC.mp m;unfold InB
 lia
theorem WO (w h:Ai):Up (qU w h):=by
 unfold Up qU;rw[List.pairwise_flatMap];refine⟨λx _=>?_,?_⟩
 .rw[Ga]
  refine Oe.imp λ{a b} hab=>?_;unfold ltP;simp[_H.lexLt,hab]
  lia
 .refine Oe.imp λ{a b} hab u hu v hv=>?_
  obtain⟨y,_,rfl⟩:=Br.mp hu;obtain⟨z,_,rfl⟩:=Br.mp hv;unfold ltP;simp[_H.lexLt,hab]
  lia
theorem aL {W H:An}(hw:0<=W/\W<=12)(hh:0<=H/\H<=12)(S:Sto):S_board_points [.int W,.int H] S=.ok (.lst ((qU W.toNat H.toNat).map ptD)) S:=by
 have e:(Cz W.toNat).flatMap (λ(x:Ai)=>(Cz H.toNat).map λ(y:Ai)=>ptD ((x:An),(y:An)))=(qU W.toNat H.toNat).map ptD:=by
  unfold qU;rw[Zx]
  congr 1
  funext x
  rw[Eh];rfl
 rw[u4];refine xK (zC (env:=[Ab (.int W),Ab (.int H)]) rfl ?_);rfl';refine qN (cH (xs:=Cz W.toNat) (enc:=λ(i:Ai)=>D.int (i:An)) (enc2:=λ(i:Ai)=>D.int (i:An)) (o:=none) (o2:=none) (mO rfl li) trivial trivial (λ_=>Cz H.toNat) (λ_ _=>true) (λx y=>ptD ((x:An),(y:An))) (λenv=>∃ a b,env=[a,b,Ab (.int H)]) (λx env=>∃ b,env=[Ab (.int (x:An)),b,Ab (.int H)]) ⟨none,none,rfl⟩ (λx env ⟨b,e⟩=>⟨_,_,e⟩) ?_ (λx hx env ⟨a,b,e⟩=>?_) λx hx y hy env ⟨b,e⟩=>?_) ?_
 .simp only[Kq.mpr λ_ _=>rfl]
  rw[e,Ak,vN];have:W.toNat*H.toNat<=12*12:=Hn li li;unfold lim
  lia
 .subst e
  exact⟨_,rfl,⟨_,rfl⟩,rfl,mO rfl li⟩
 .subst e
  exact⟨_,rfl,⟨_,rfl⟩,rfl,λ_=>rfl⟩
 .simp only[Kq.mpr λ_ _=>rfl]
  rw[e];rfl';exact⟨rfl,rfl⟩
noncomputable def vL (l:Aa Pt):Pt:=l.getLastD (0,0)
noncomputable def grow (pts:Aa Pt)(L:Aa (Aa Pt)):Aa (Aa Pt):=L.flatMap λl=>(pts.filter λp=>ltP (vL l) p).map λp=>l++[p]
theorem RH (h:xs≠[]):_L.atI xs (-1)=Ab (xs.getLast h):=by
 have hp:=Ko.mpr h;have e:_L.ixN xs.length (-1)=Ab (xs.length-1):=by
  unfold _L.ixN;simp
  lia
 unfold _L.atI;rw[e];show xs[xs.length-1]? = _;rw[List.getLast_eq_getElem,Ao li]
theorem WM {l:Aa Pt}(h:l≠[]):_L.atI (l.map ptD) (-1)=Ab (ptD (vL l)):=by
 rw[RH (by simpa using h),List.getLast_map]
 unfold vL;rw[List.getLastD_eq_getLast?,List.getLast?_eq_some_getLast h];rfl
theorem BW (pts:Aa Pt)(L:Aa (Aa Pt))(S:Sto)(hL:∀ l∈L,l≠[]/\l.length<=50)(hb:(grow pts L).length<=lim):S_grown [.lst (L.map qT),.lst (pts.map ptD)] S=.ok (.lst ((grow pts L).map qT)) S:=by
 have e:(L.flatMap λl=>(pts.filter λp=>ltP (vL l) p).map λp=>qT (l++[p]))=(grow pts L).map qT:=by
  unfold grow;rw[Zx]
  congr 1
  funext l
  rw[Eh];rfl
 rw[mC];refine xK (zC (env:=[Ab (.lst (L.map qT)),Ab (.lst (pts.map ptD))]) rfl ?_);rfl';refine qN (cH (xs:=L) (enc:=qT) (enc2:=ptD) (o:=none) (o2:=none) (o7 rfl) trivial trivial (λ_=>pts) (λl p=>ltP (vL l) p) (λl p=>qT (l++[p])) (λenv=>∃ a b,env=[a,b,Ab (.lst (pts.map ptD))]) (λl env=>∃ b,env=[Ab (.tup (l.map ptD)),b,Ab (.lst (pts.map ptD))]) ⟨none,none,rfl⟩ (λl env ⟨b,e⟩=>⟨_,_,e⟩) ?_ (λl hl env ⟨a,b,e⟩=>?_) λl hl p hp env ⟨b,e⟩=>?_) ?_
 .rw[e,Ak]
  exact hb
 .subst e
  exact⟨_,rfl,⟨_,rfl⟩,rfl,o7 rfl⟩
 .subst e
  obtain⟨n1,n2⟩:=hL l hl;refine⟨_,rfl,⟨_,rfl⟩,bD (xK ?_),λ_=>xK ?_⟩
  .rfl'
   refine oI (WM n1) ?_;exact qN (d:=.bl (ltP (vL l) p)) (S:=S) rfl ⟨rfl,rfl⟩
  .rfl'
   refine jC (by rw[Ak];unfold lim;simp only[AT,Cd];lia) ⟨?_,rfl⟩
   show D.tup (l.map ptD++[ptD p])=D.tup ((l++[p]).map ptD);rw[Dr];rfl
 .rw[e]
  rfl';exact⟨rfl,rfl⟩
theorem KA (l:Aa Pt)(f:An):((qS l).filter λx=>qH x == f).length=(fars l).count f:=by
 unfold fars;rw[List.count_eq_length_filter,wP,Ak];rfl
noncomputable def unl (l:Aa Pt):Ar:=decide (fars l).Nodup
theorem oK {l:Aa Pt}(hb:∀ p∈l,InB 1000 p)(hl:l.length<=41){S:Sto}(q:∀ S',S<+:S'->Q (.bl (unl l)) S'):Ok (S_are_unlike [qT l] S) Q:=by
 obtain⟨_,S1,e1,rfl,kvs,G,hp⟩:=nL (S:=S) (Q:=λd S'=>d=.loc S.length/\∃ kvs,GI qH prD S.length (qS l) kvs S'/\∀ m,m<S.length->S'[m]? = S[m]?) hb hl λkvs S' G hp=>⟨rfl,kvs,G,hp⟩;have hv:xB (jP (qE 1 S_pairs_by_far (q8 (q9 0) (qA)))) [Ab (qT l)] S=.ok (none,kvs.map (·.2)) (S1.set S.length .dead):=by
  unfold xB jP;rw[(kY (f1:=q9 0) (env:=[Ab (qT l)]) (S:=S) rfl).trans e1,Res.bind_ok];show (match S1[S.length]? with|some (.dct kvs)=>Res.ok (kvs.map λkv:_L.Key × D=>kv.2) (S1.set S.length .dead)|_=>.bad).bind _=_
  rw[G.dict];rfl
 have hek:kvs.map (·.1)=(kys (fars l)).map Ho:=G.keys
 have hkv:kvs.length<=1681:=by
  have:=congrArg Fy hek;rw[Ak,Ak] at this;have h2:=uY (ks:=fars l) (l:=[]);have h3:(fars l).length=(qS l).length:=Ak _;have h4:=Df (uS l) (Hn hl hl);unfold kys at this;simp only[Cd] at h2
  lia
 have hpre:S<+:S1.set S.length .dead:=t9 λm hm=>by rw[Ce li];exact hp m hm
 rw[jL];refine zC (env:=[Ab (qT l)]) rfl ?_;rfl';refine wU (enc:=(·.2)) (o:=none) kvs (λkv=>.bl (match kv.1 with|.inl f=>decide ((fars l).count f=1)|_=>true)) (λenv S'=>S'=S1.set S.length .dead/\∃ a,env=[a]) hv ⟨rfl,none,rfl⟩ (by unfold lim;lia) (λ_ _ _=>trivial) (λkv hk env S' ⟨z1,a,z2⟩=>?_) λenv S' ⟨z1,_⟩=>?_
 .subst z1 z2
  obtain⟨f,j,rfl,h1,h2⟩:=G.lists kv hk;rfl';refine rY (xs:=((qS l).filter λx=>qH x == f).map prD) (by rw[Ce li];exact h2) ?_
  rw[Ak,KA];rfl';refine⟨?_,rfl,_,rfl⟩
  congr 1
  rw[Te]
  lia
 .subst z1
  rfl';refine mV ?_;have:(kvs.all λkv=>match kv.1 with|.inl f=>decide ((fars l).count f=1)|_=>true)=unl l:=by
   have e2:(kvs.all λkv=>match kv.1 with|.inl f=>decide ((fars l).count f=1)|_=>true)=(kvs.map (·.1)).all λk=>match k with|.inl f=>decide ((fars l).count f=1)|_=>true:=by rw[Jn];rfl
   rw[e2,hek,Jn];unfold unl;rw[Js,Cf,Cq,Wa];constructor
   .intro h f
    by_cases hf:f∈fars l
    .have:=Ct (h f (yT.mpr hf))
     lia
    .rw[List.count_eq_zero_of_not_mem hf]
     lia
   .intro h f hf
    have h1:=Xr.mpr (yT.mp hf);have h2:=h f;exact Cp li
  rw[this];exact q _ hpre
theorem ZG:∀ l:Aa PP,fl l=none↔(l.map qH).Nodup
 |[]=>by simp[fl]
 |x::l=>by
  rw[De,Il,<- ZG l];show (match l.find? (λy=>qH y == qH x) with|some y=>Ab (x,y)|none=>fl l)=none↔_
  cases q:l.find? (λy=>qH y == qH x) with
  |some y =>
   have hy:=Ps q;refine⟨λh=>(by cases h),λh=>absurd (Br.mpr ⟨y,Jz q,by simpa using hy⟩) h.1⟩
  |none =>
   refine⟨λh=>⟨λhm=>?_,h⟩,λh=>h.2⟩;obtain⟨y,hy,e⟩:=Br.mp hm;exact Kw.mp q y hy (by simpa using e)
theorem pU (l:Aa Pt):fl (qS l)=none↔(fars l).Nodup:=ZG _
theorem pT (p q:Pt):eqD (ptD p) (ptD q)=decide (p=q):=by
 show (p.1 == q.1&&(p.2 == q.2&&true))=_;rw[Js];simp[Prod.ext_iff]
theorem XR (l:Aa Pt):(l.map ptD).all (pl zS)=true:=Cf.mpr λx hx=>by
 obtain⟨p,_,rfl⟩:=Br.mp hx;rfl
theorem cN (l:Aa Pt)(q:Pt):inI (ptD q) (.tup (l.map ptD))=Ab (decide (q∈l)):=by
 show (if ((l.map ptD).all (pl zS)&&pl zS (ptD q))=true then Ab ((l.map ptD).any λx=>eqD x (ptD q)) else none)=_
 rw[XR,Bd (show (true&&pl zS (ptD q))=true from rfl)]
 congr 1
 rw[Js,Th,Cq];constructor
 .rintro⟨x,hx,e⟩
  obtain⟨p,hp,rfl⟩:=Br.mp hx;rw[pT,Cq] at e;rw[<- e];exact hp
 .intro hq
  exact⟨ptD q,Qe hq,by rw[pT];exact Cp rfl⟩
theorem dU (l:Aa Pt)(q:Pt)(S:Sto):gIn (ptD q) (.tup (l.map ptD)) S=.ok (.bl (decide (q∈l))) S:=by
 unfold gIn;rw[cN]
theorem rV (l:Aa Pt)(q:Pt)(S:Sto):j3 (ptD q) (.tup (l.map ptD)) S=.ok (.bl (!decide (q∈l))) S:=by
 unfold j3;rw[cN]
theorem PN (c:Cl){l:Aa Pt}{M:Ai}(hM:M<=40)(h:Lot M l)(nd:(fars l).Nodup){S:Sto}(q:∀ S',S<+:S'->Q .non S'):Ok (S_need_unlike c [qT l] S) Q:=by
 rw[uP];refine zC (env:=[Ab (qT l),none,none,none,none,none]) rfl ?_;rfl';refine b0 c hM h λS1 p1=>?_;rw[(pU l).mpr nd];rfl';refine qN (d:=.bl false) (S:=S1) rfl ?_;rfl';exact q _ p1
theorem XG (c:Cl){l:Aa Pt}{M:Ai}(hM:M<=40)(h:Lot M l)(nd:(fars l).Nodup){p:Pt}(hp:InB 1000 p){S:Sto}(q:∀ S',S<+:S'->Q (.bl (!decide (p∈l)&&unl (l++[p]))) S'):Ok (S_fits c [qT l,ptD p] S) Q:=by
 have hl:=h.len;rw[l6];refine zC (env:=[Ab (.tup (l.map ptD)),Ab (ptD p)]) rfl ?_;rfl';refine PN c hM h nd λS1 p1=>?_;rfl';refine qN (oE c S1 (oP p) (by rw[tX];exact Cp hp)) ?_
 rfl';refine jT ?_;rfl';refine qN (rV l p S1) ⟨_,rfl,λe=>?_,λe=>?_⟩
 .rfl'
  refine jC (by rw[Ak];unfold lim;simp only[AT,Cd];lia) ?_
  rw[show D.tup (l.map ptD++[ptD p])=qT (l++[p]) by unfold qT;rw[Dr];rfl]
  rfl';refine oK (λx hx=>?_) (by rw[Aw,Dz];lia) λS2 p2=>?_
  .rcases Bz.mp hx with hx|hx
   .exact h.box x hx
   .rw[Ci.mp hx];exact hp
  .have:=q S2 (p1.trans p2)
   rw[e,Ou] at this;exact this
 .have:=q S1 p1
  rw[e,Hj] at this;exact this
noncomputable def zY (l:Aa Pt):Aa Pt->Aa Pt
 |[]=>l
 |p::ps=>zY (if unl (l++[p]) then l++[p] else l) ps
theorem RB {P:Out->Prop}{d:D}{fe:DE}(e:env[i]? = Ab (Ab (.tup xs)))(h1:fe env S=.ok (.tup [d]) S)(hl:xs.length<=100)(h:Wo P (.nx (env.set i (Ab (.tup (xs++[d])))) S)):Wo P (b8 i uA fe env S):=by
 have:b8 i uA fe env S=.nx (env.set i (Ab (.tup (xs++[d])))) S:=by
  unfold b8;rw[e];show ((fe env S).toS env λy S1=>(uA (.tup xs) y S1).toS env λz S2=>.nx (env.set i (Ab z)) S2)=_;rw[h1];show ((uA (.tup xs) (.tup [d]) S).toS env λz S2=>Out.nx (env.set i (Ab z)) S2)=_;have:uA (.tup xs) (.tup [d]) S=.ok (.tup (xs++[d])) S:=Bd (by unfold lim;simp only[AT,Cd];lia)
  rw[this];rfl
 rw[this];exact h
theorem rX (c:Cl){W H:An}(hw:1<=W/\W<=6)(hh:1<=H/\H<=6){S:Sto}(q:∀ S',S<+:S'->Q (qT (zY [] (qU W.toNat H.toNat))) S'):Ok (S_filled c [.int W,.int H] S) Q:=by
 have hbl:(qU W.toNat H.toNat).length<=36:=by
  rw[vN];exact Hn (show W.toNat<=6 by lia) (show H.toNat<=6 by lia)
 rw[bY];refine zC (env:=[Ab (.int W),Ab (.int H),none,none]) rfl ?_;rfl';refine qN (bQ c S li) ?_;rfl';refine qN (bQ c S li) ?_;rfl';refine qN (aL li li S) ?_;rfl';refine wX (λr env S'=>∃ l e3 done,env=[Ab (.int W),Ab (.int H),Ab (.tup (l.map ptD)),e3]/\S<+:S'/\done++r=qU W.toNat H.toNat/\(∀ x∈l,x∈done)/\l.length<=done.length/\zY l r=zY [] (qU W.toNat H.toNat)) ?_ ?_ ⟨[],_,[],rfl,Be _,rfl,λ_ h=>h,Av _,rfl⟩
 .rintro p r _ S' ⟨l,e3,done,rfl,hp,hd,hin,hle,hf⟩
  have hdl:done.length<=36:=by
   have:=congrArg Fy hd;rw[Aw,AT] at this
   lia
  have hm:∀ x∈l++[p],x∈qU W.toNat H.toNat:=λx hx=>by
   rw[<- hd];rcases Bz.mp hx with hx|hx
   .exact Dc _ (hin x hx)
   .rw[Ci.mp hx];exact Bu _ (.head _)
  rfl';refine jC (by rw[Ak];unfold lim;simp only[AT,Cd];lia) ?_
  rw[show D.tup (l.map ptD++[ptD p])=qT (l++[p]) by unfold qT;rw[Dr];rfl]
  rfl';refine oK (λx hx=>uV li li (hm x hx)) (by rw[Aw,Dz];lia) λS1 p1=>?_
  cases e:unl (l++[p]) with
  |true =>
   rfl';refine RB (d:=ptD p) rfl rfl (by rw[Ak];lia) ?_
   rw[show l.map ptD++[ptD p]=(l++[p]).map ptD by rw[Dr];rfl]
   rfl';refine yL ⟨l++[p],_,done++[p],rfl,hp.trans p1,by rw[<- hd];simp,λx hx=>?_,by rw[Aw,Aw];simpa using hle,?_⟩
   .rcases Bz.mp hx with hx|hx
    .exact Dc _ (hin x hx)
    .exact Bu _ hx
   .rw[<- hf]
    conv=>rhs;unfold zY
    rw[e];rfl
  |false =>
   rfl';refine yL ⟨l,_,done++[p],rfl,hp.trans p1,by rw[<- hd];simp,λx hx=>Dc _ (hin x hx),by rw[Aw];lia,?_⟩
   rw[<- hf]
   conv=>rhs;unfold zY
   rw[e];rfl
 .rintro _ S' ⟨l,e3,done,rfl,hp,hd,hin,hle,hf⟩
  rfl';have:=q S' hp;rw[<- hf] at this;exact this
theorem bP (p:Pt):ltP p p=false:=_S.vD.irr _
theorem X3 {p q r:Pt}(h1:ltP p q=true)(h2:ltP q r=true):ltP p r=true:=_S.vD.tr h1 h2
theorem X2 {p q:Pt}(h:ltP p q=true):p≠q:=λe=>by subst e;rw[bP] at h;cases h
theorem rS {p q:Pt}(h:ltP p q=true):ltP q p=false:=by
 cases hh:ltP q p with
 |false=>rfl
 |true =>
  have:=X3 h hh;rw[bP] at this;cases this
theorem sF (n:Ai)(p:Pt):Tr (n+1) (ptD p):=.tup n _ λx hx=>by
 simp only[Az,Dm,Hd] at hx;rcases hx with rfl|rfl <;> exact .int _ _
theorem vT (n:Ai)(p:Pt):trb (n+1) (ptD p)=true:=by cases n <;> rfl
theorem rR (p q:Pt):ltN (ptD p) (ptD q)=ltP p q:=by
 have h1:=@vQ 0 0 (.int p.1) (.int q.1) [.int p.2] [.int q.2] (.int _ _) (.int _ _) rfl;have h2:=@vQ 0 0 (.int p.2) (.int q.2) [] [] (.int _ _) (.int _ _) rfl;unfold ptD;rw[nE,h1,h2,nD,nD];unfold ltP;rw[_H.lexLt_cons,_H.lexLt_cons];show (if (p.1 == q.1)=true then if (p.2 == q.2)=true then _ else _ else _)=_
 simp only[Wm];rfl
noncomputable def ltQ (x y:PP):Ar:=if x.1=y.1 then (if x.2=y.2 then false else ltP x.2 y.2) else ltP x.1 y.1
theorem NP (x y:PP):ltN (prD x) (prD y)=ltQ x y:=by
 unfold prD ltQ;rw[nE,vQ (sF 0 x.1) (sF 0 y.1) rfl,vQ (sF 0 x.2) (sF 0 y.2) rfl,pT,pT,rR,rR];simp only[Cq];rfl
theorem c8:∀ {l:Aa Pt},Up l->(qS l).Pairwise λx y=>ltQ x y=true
 |[],_=>.nil
 |p::l,h=>by
  obtain⟨h1,h2⟩:=Dw.mp h;show (l.map (λq=>(p,q))++qS l).Pairwise _;refine Dn.mpr ⟨?_,c8 h2,λx hx y hy=>?_⟩
  .rw[Ga]
   refine h2.imp λ{a b} hab=>?_;show (if p=p then (if a=b then false else ltP a b) else ltP p p)=true
   rw[Bd rfl,Bf (X2 hab),hab]
  .obtain⟨q,hq,rfl⟩:=Br.mp hx
   have:=h1 _ (uT hy).1;show (if p=y.1 then _ else ltP p y.1)=true
   rw[Bf (X2 this),this]
theorem NQ {x y:PP}(h:ltQ x y=true):ltQ y x=false:=by
 unfold ltQ at h ⊢;by_cases e:x.1=y.1
 .rw[Bd e] at h
  rw[Bd e.symm];by_cases e2:x.2=y.2
  .rw[Bd e2] at h;cases h
  .rw[Bf e2] at h
   rw[Bf (Fb e2)];exact rS h
 .rw[Bf e] at h
  rw[Bf (Fb e)];exact rS h
theorem X1 (p q:Pt)(S:Sto):gF (ptD p) (ptD q) S=.ok (.bl (ltP p q)) S:=by
 unfold gF;rw[Bd,rR];rw[vT 7,vT 7];rfl
theorem PF (x y:PP)(S:Sto):gF (prD x) (prD y) S=.ok (.bl (ltQ x y)) S:=by
 unfold gF;rw[Bd,NP];have t:∀ x:PP,trb 8 (prD x)=true:=λx=>by
  show (trb 7 (ptD x.1)&&(trb 7 (ptD x.2)&&true))=true;rw[vT 6,vT 6];rfl
 rw[t,t];rfl
theorem JS (c:Cl){l:Aa Pt}{M:Ai}(hM:M<=40)(h:Lot M l){a b e d:Pt}(ha:a∈l)(hb:b∈l)(he:e∈l)(hd:d∈l)(h1:ltP a b=true)(h2:ltP e d=true){S:Sto}(q:Q (.bl (ltQ (a,b) (e,d)&&decide (far a b=far e d))) S):Ok (S_is_likeness c [qT l,.tup [ptD a,ptD b,ptD e,ptD d]] S) Q:=by
 have hbx:=h.box;rw[uN];refine zC (env:=[Ab (.tup (l.map ptD)),Ab (.tup [ptD a,ptD b,ptD e,ptD d]),none,none,none,none]) rfl ?_;rfl';refine qN (jZ c S (t8 l) (gK hM h)) ?_;rfl';refine uD ?_;rfl';refine qN (d:=.bl true) (S:=S) (by kernel_rfl!) ?_
 rfl';refine⟨λz=>(by cases z),λ_=>?_⟩
 rfl';refine vB (λ_=>?_) λz=>absurd rfl z;rfl';refine wU (enc:=ptD) (o:=none) [a,b,e,d] (λ_=>.bl true) (λenv S'=>S'=S/\∃ z,env=[z,Ab (.tup (l.map ptD))]) (o8 rfl) ⟨rfl,none,rfl⟩ (Oy rfl) (λ_ _ _=>trivial) (λx hx env S' ⟨e1,z,e2⟩=>?_) λenv S' ⟨e1,_⟩=>?_
 .subst e1 e2
  have hxl:x∈l:=by
   simp only[Az,Dm,Hd] at hx;rcases hx with rfl|rfl|rfl|rfl <;> assumption
  rfl';refine jT ?_;rfl';refine qN (gV (oP x) S') ?_;rw[tX,Cp (hbx x hxl)];refine⟨_,rfl,λ_=>?_,λz=>(by cases z)⟩
  rfl';refine qN (dU l x S') ?_;rw[Cp hxl];exact⟨rfl,rfl,_,rfl⟩
 .subst e1
  rfl';refine mV ?_;rw[show ([a,b,e,d].all λ_=>true)=true from rfl]
  rfl';refine jT ?_;rfl';refine qN (X1 a b S') ?_;rw[h1];refine⟨_,rfl,λ_=>?_,λz=>(by cases z)⟩
  refine jT ?_;rfl';refine qN (X1 e d S') ?_;rw[h2];refine⟨_,rfl,λ_=>?_,λz=>(by cases z)⟩
  refine jT ?_;rfl';refine qN (PF (a,b) (e,d) S') ⟨_,rfl,λz=>?_,λz=>?_⟩
  .rfl'
   refine oG (hbx a ha) (hbx b hb) ?_;rfl';refine oG (hbx e he) (hbx d hd) ?_;rfl';rw[z,Ou] at q;exact q
  .rw[z,Hj] at q
   exact q
theorem nY {α:Type}[Qu α](w:α->Ai):∀ (L G:Aa α),L.Nodup->(∀ s∈L,w s≠0->s∈G)->(L.map w).sum<=(G.map w).sum
 |[],G,_,_=>Fh _
 |s::L,G,nd,h=>by
  obtain⟨n1,n2⟩:=Il.mp nd;rw[De,WF];by_cases z:w s=0
  .rw[z,Hg]
   exact nY w L G n2 λx hx=>h x (.tail _ hx)
  .have hm:=h s (.head _) z
   have ih:=nY w L (G.erase s) n2 λx hx hz=>(Pg (λ(e:x=s)=>n1 (e▸hx))).mpr (h x (.tail _ hx) hz);have:=((List.perm_cons_erase hm).map w).sum_nat;rw[De,WF] at this
   lia
theorem jA {α:Type}[Qu α] : ∀ {L G:Aa α},L.Nodup->(∀ s∈L,s∈G)->L.length<=G.length
 |L,G,nd,h=>by
  have:=nY (λ_:α=>1) L G nd λs hs _=>h s hs;have e:∀ l:Aa α,(l.map λ_=>1).sum=l.length:=λl=>by
   induction l with
   |nil=>rfl
   |cons a l ih=>rw[De,WF,ih,AT,Ts]
  rwa [e,e] at this
theorem JQ {α:Type}[Qu α] : ∀ {l L:Aa α},L.Nodup->(∀ x∈L,x∈l)->L.length=l.length->l.Nodup
 |[],L,_,_,_=>Hl
 |x::l,L,nd,hs,hl=>by
  have hx:x ∉ l:=λhx=>by
   have:=jA (G:=l) nd λs hm=>by
    rcases Az.mp (hs s hm) with rfl|h
    .exact hx
    .exact h
   rw[AT] at hl
   lia
  have h2:∀ s∈L.erase x,s∈l:=λs hm=>by
   rcases Az.mp (hs s (List.mem_of_mem_erase hm)) with rfl|h
   .exact absurd hm nd.not_mem_erase
   .exact h
  have h3:=jA (nd.erase x) h2;have h4:L.length<=(L.erase x).length+1:=by rw[List.length_erase];split <;> lia
  rw[AT] at hl;exact Il.mpr ⟨hx,JQ (nd.erase x) h2 li⟩
theorem L0 (c:Cl){l:Aa Pt}{M:Ai}(hM:M<=40)(h:Lot M l){S:Sto}(q:∀ S',S<+:S'->Q (.int ((kys (fars l)).length:Ai)) S'):Ok (S_many_fars c [qT l] S) Q:=by
 rw[kK];refine zC (env:=[Ab (qT l)]) rfl ?_;rfl';refine XF c hM h λS1 p1=>?_;rfl';rw[Ak,Ak,show (tbl (fars l)).length=(kys (fars l)).length from (_S.xG _).length_eq.trans (Ak _)]
 exact q _ p1
noncomputable def sg (fs:Aa An):Ai:=((tbl fs).filter λk=>decide (k.getD 1 0=1)).length
theorem XJ (c:Cl){l:Aa Pt}{M:Ai}(hM:M<=40)(h:Lot M l){S:Sto}(q:∀ ns:Aa An,∀ S',ns.length=sg (fars l)->S<+:S'->Q (.lst (ns.map D.int)) S'):Ok (S_singles c [qT l] S) Q:=by
 have hll:=h.len;obtain⟨_,S1,e1,rfl,hp⟩:=aH (S:=S) (Q:=λd S'=>d=.lst ((tbl (fars l)).map tpD)/\S<+:S') c hM h λS' p=>⟨rfl,p⟩;have hi:dIt (qE 1 (S_far_table c) (q8 (q9 0) (qA))) [Ab (qT l)] S=.ok (none,(tbl (fars l)).map tpD) S1:=by
  unfold dIt;rw[(kY (f1:=q9 0) (env:=[Ab (qT l)]) (S:=S) rfl).trans e1];rfl
 have hlen:(tbl (fars l)).length<=1600:=by
  have h1:(tbl (fars l)).length=(kys (fars l)).length:=(_S.xG _).length_eq.trans (Ak _);have h2:=uY (ks:=fars l) (l:=[]);have h3:(fars l).length=(qS l).length:=Ak _;have h4:(qS l).length<=1600:=Df (uS l) (Hn (show l.length<=40 by lia) (show l.length<=40 by lia))
  unfold kys at h1;simp only[Cd] at h2
  lia
 rw[pM];refine zC (env:=[Ab (qT l)]) rfl ?_;rfl';obtain⟨S2,e2,p2⟩:=QQ (enc:=tpD) (cap:=[none,none]) (g:=gTp 2 (qX (gNm 0) (qX (gNm 1) (xJ)))) (t:=wG (dTr (d2 gEq (q9 1) (dC (.int 1)))) (zW)) (fe:=q9 0) hi trivial (λk=>decide (k.getD 1 0=1)) (λk=>.int (k.headD 0)) (λenv=>∃ a b,env=[a,b]) ⟨none,none,rfl⟩ (by unfold lim;lia) (λk hk env S' ⟨a,b,e⟩ _=>by
  subst e;obtain⟨f,_,rfl⟩:=Br.mp ((_S.xG _).mem_iff.mp hk);exact⟨[Ab (.int f),Ab (.int ((fars l).count f:An))],S',rfl,⟨_,_,rfl⟩,bD (xK (by rfl';exact rfl)),Be _,λ_=>⟨S',rfl,Be _⟩⟩)
 refine qN e2 ?_;rfl';have:=q (((tbl (fars l)).filter λk=>decide (k.getD 1 0=1)).map λk=>k.headD 0) S2 (Ak _) (hp.trans p2);rw[Eh] at this;exact this
theorem HS (fs:Aa An):sg fs=fs.length↔fs.Nodup:=by
 have e1:sg fs=((kys fs).filter λf=>decide ((fs.count f:An)=1)).length:=by
  have p:((tbl fs).filter λk=>decide (k.getD 1 0=1)).Perm ((tbK fs).filter λk=>decide (k.getD 1 0=1)):=(_S.xG _).filter _;unfold sg;rw[p.length_eq];unfold tbK;rw[wP,Ak];rfl
 have kn:(kys fs).Nodup:=tS _ _ Hl;have h2:(kys fs).length<=fs.length:=jA kn λs hs=>yT.mp hs;have h3:=Ib (λf=>decide ((fs.count f:An)=1)) (kys fs);rw[e1];constructor
 .intro e
  exact JQ kn (λx hx=>yT.mp hx) li
 .intro nd
  rw[Kq.mpr λf hf=>by
   have h1:=Xr.mpr (yT.mp hf);have h2:=Wa.mp nd f;exact Cp li]
  exact Lh h2 (jA nd λs hs=>yT.mpr hs)
theorem a9 {fs:Aa An}(nd:fs.Nodup):(kys fs).length=fs.length:=Lh (jA (tS _ _ Hl) λs hs=>yT.mp hs) (jA nd λs hs=>yT.mpr hs)
theorem c9:∀ l:Aa Pt,2*(qS l).length+l.length=l.length*l.length
 |[]=>rfl
 |a::r=>by
  have:=c9 r;show 2*(r.map (λb=>(a,b))++qS r).length+(r.length+1)=(r.length+1)*(r.length+1);rw[Aw,Ak,Zw,Nat.mul_add]
  lia
theorem tL (l:Aa Pt):(l.length:An)*((l.length:An)-1)/2=((fars l).length:An):=by
 have:((2*(qS l).length+l.length:Ai):An)=((l.length*l.length:Ai):An):=congrArg _ (c9 l);have e:(fars l).length=(qS l).length:=Ak _;rw[Int.natCast_mul] at this;rw[Int.mul_sub,e]
 lia
noncomputable def nxt (pts:Aa Pt)(L:Aa (Aa Pt)):Aa (Aa Pt):=(grow pts L).filter unl
noncomputable def fN (pts:Aa Pt):Ai->Aa (Aa Pt)
 |0=>pts.map λp=>[p]
 |k+1=>nxt pts (fN pts k)
noncomputable def rH (pts:Aa Pt):Ai->Aa (Aa Pt)->Ai->Al Ai
 |0,_,_=>none
 |n+1,L,k=>if L.isEmpty then Ab k else if L.length<=5000 then rH pts n (nxt pts L) (k+1) else none
set_option tactic.hygienic true in
theorem iX {t:Ai}:∀ (n k:Ai),rH pts n (fN pts k) k=Ab t->(∀ j,k<=j->j<t->fN pts j≠[]/\(fN pts j).length<=5000)/\fN pts t=[]/\k<=t
 |0,k,h=>by cases h
 |n+1,k,h=>by
  unfold rH at h
  split at h
  .rename_i e
   injection h with h
   subst h;exact⟨λj h1 h2=>by lia,Zy.mp e,Av _⟩
  .rename_i e
   split at h
   .rename_i l
    obtain⟨h1,h2,h3⟩:=iX n (k+1) h;refine⟨λj a b=>?_,h2,by lia⟩
    by_cases z:j=k
    .subst z
     exact⟨λz=>e (by rw[z];rfl),l⟩
    .exact h1 j li b
   .cases h
noncomputable def UU (w h:Ai):Al Ai:=rH (qU w h) 9 (fN (qU w h) 0) 0
noncomputable def tpN (w h:Ai):Ai:=(UU w h).getD 0
noncomputable def okB (w h:Ai):Ar:=(UU w h).isSome&&decide (tpN h w=tpN w h)&&decide ((zY [] (qU w h)).length<=tpN w h)
theorem II:∀ w<4,∀ h<4,okB (w+1) (h+1)=true:=kd
theorem rP (pts:Aa Pt):∀ L:Aa (Aa Pt),(grow pts L).length<=L.length*pts.length
 |[]=>Fh _
 |l::L=>by
  have ih:=rP pts L;have h:=Ib (λp=>ltP (vL l) p) pts;show ((pts.filter λp=>ltP (vL l) p).map (λp=>l++[p])++grow pts L).length<=_;rw[Aw,Ak,AT,Zw]
  lia
theorem kL:∀ (k:Ai) {l:Aa Pt},l∈fN pts k->l.length=k+1/\(∀ x∈l,x∈pts)/\(fars l).Nodup/\Up l
 |0,l,h=>by
  obtain⟨p,hp,rfl⟩:=Br.mp h;exact⟨rfl,λx hx=>by rw[Ci.mp hx];exact hp,Hl,Hi _ _⟩
 |k+1,l,h=>by
  obtain⟨h1,h2⟩:=Jp.mp h;obtain⟨l0,hl,hx⟩:=Pa.mp h1;obtain⟨p,hp,rfl⟩:=Br.mp hx;obtain⟨hp,hlt⟩:=Jp.mp hp;obtain⟨i1,i2,i3,i4⟩:=kL k hl;refine⟨by rw[Aw,i1];rfl,λx hx=>?_,Ct h2,?_⟩
  .rcases Bz.mp hx with hx|hx
   .exact i2 x hx
   .rw[Ci.mp hx];exact hp
  .refine Dn.mpr ⟨i4,Hi _ _,λx hx y hy=>?_⟩
   rw[Ci.mp hy];obtain⟨r,z,rfl⟩:∃ r z,l0=r++[z]:=by
    rcases List.eq_nil_or_concat l0 with z|⟨l',z,e⟩
    .rw[z] at i1;cases i1
    .exact⟨l',z,by rw[e,List.concat_eq_append]⟩
   have hz:vL (r++[z])=z:=by simp[vL]
   rw[hz] at hlt;rcases Bz.mp hx with hx|hx
   .exact X3 ((Dn.mp i4).2.2 x hx z (.head _)) hlt
   .rw[Ci.mp hx];exact hlt
structure Tp (w h:Ai):Prop where
 gof:rH (qU w h) 9 (fN (qU w h) 0) 0=Ab (tpN w h)
 sym:tpN h w=tpN w h
 fil:(zY [] (qU w h)).length<=tpN w h
theorem tpT {w h:Ai}(hw:1<=w/\w<=4)(hh:1<=h/\h<=4):Tp w h:=by
 have:=II (w-1) li (h-1) li;rw[show w-1+1=w by lia,show h-1+1=h by lia] at this
 unfold okB at this;simp only[Bq,Cq] at this;refine⟨?_,this.1.2,this.2⟩;have h1:=this.1.1;unfold tpN;cases e:UU w h with
 |none=>rw[e] at h1;cases h1
 |some t=>exact e
theorem L5 (c:Cl){W H:An}(hw:1<=W/\W<=4)(hh:1<=H/\H<=4){S:Sto}(q:∀ S',S<+:S'->tpN W.toNat H.toNat≠0->Q (.lst ((fN (qU W.toNat H.toNat) (tpN W.toNat H.toNat-1)).map qT)) S'):Ok (S_unlike_lots c [.int W,.int H] S) Q:=by
 have T:=tpT (w:=W.toNat) (h:=H.toNat) li li;obtain⟨g1,g2,g3⟩:=iX 9 0 T.gof;have hbl:(qU W.toNat H.toNat).length<=16:=by
  rw[vN];exact Hn (show W.toNat<=4 by lia) (show H.toNat<=4 by lia)
 have hbp:0<(qU W.toNat H.toNat).length:=by
  rw[vN];exact Nat.mul_pos li li
 have hin:∀ x∈qU W.toNat H.toNat,InB 1000 x:=λx hx=>uV li li hx;have ht0:tpN W.toNat H.toNat≠0:=λz=>by
  rw[z] at g2;have:=congrArg Fy g2;rw[show (fN (qU W.toNat H.toNat) 0).length=(qU W.toNat H.toNat).length from Ak _] at this
  simp only[Cd] at this
  lia
 have ht8:tpN W.toNat H.toNat<=16:=by
  refine Sy λz=>?_;obtain⟨n1,_⟩:=g1 16 li z;cases hx:fN (qU W.toNat H.toNat) 16 with
  |nil=>exact n1 hx
  |cons l r =>
   obtain⟨i1,i2,_,i4⟩:=kL 16 (l:=l) (by rw[hx];exact .head _)
   have:=jA (G:=qU W.toNat H.toNat) (sG i4) i2
   lia
 generalize htt:tpN W.toNat H.toNat=t at *;generalize hbb:qU W.toNat H.toNat=pts at *;rw[uR];refine zC (env:=[Ab (.int W),Ab (.int H),none,none,none]) rfl ?_;rfl';refine qN (bQ c S li) ?_;rfl';refine qN (bQ c S li) ?_;rfl';refine qN (aL li li S) ?_;rw[hbb];rfl';refine wU (enc:=ptD) (o:=none) pts (λp=>qT [p]) (λenv S'=>S'=S/\∃ a,env=[a]) (o7 rfl) ⟨rfl,none,rfl⟩ (by unfold lim;lia) (λ_ _ _=>trivial) (λx hx env S' ⟨e1,a,e2⟩=>?_) λenv S' ⟨e1,_⟩=>?_
 .subst e1 e2
  rfl';exact⟨_,rfl⟩
 subst e1;rw[show pts.map (λp=>qT [p])=(fN pts 0).map qT by unfold fN;rw[Eh];rfl]
 rfl';refine FI (λn env S''=>∃ (i:Ai) (lots:Aa (Aa Pt)),env=[Ab (.int W),Ab (.int H),Ab (.lst (pts.map ptD)),Ab (.lst (lots.map qT)),Ab (.lst ((fN pts i).map qT))]/\n=t-i/\i<=t/\(i=0\/lots=fN pts (i-1))/\S'<+:S'') ?_ (n:=t) (by rw[M8];lia) ⟨0,[],rfl,rfl,Fh _,.inl rfl,Be _⟩
 rintro n _ S2 ⟨i,lots,rfl,rfl,hi,hl,hp⟩;rfl';refine⟨λhb=>?_,λhb=>?_⟩
 .have hit:i<t:=by
   rcases Nat.lt_or_eq_of_le hi with h|h
   .exact h
   .rw[h,g2] at hb
    cases hb
  obtain⟨n1,n2⟩:=g1 i (Fh _) hit;have hgl:(grow pts (fN pts i)).length<=80000:=Df (rP _ _) (Df (Hn n2 hbl) li);have hg:=BW pts (fN pts i) S2 (λl hl=>by
   have:=(kL i hl).1;exact⟨λz=>(by rw[z] at this;cases this),by lia⟩) (by unfold lim;lia)
  have hit2:dIt (qE 2 S_grown (q8 (q9 3) (q8 (q9 2) (qA)))) [Ab (.int W),Ab (.int H),Ab (.lst (pts.map ptD)),Ab (.lst ((fN pts i).map qT)),Ab (.lst ((fN pts i).map qT))] S2=.ok (none,(grow pts (fN pts i)).map qT) S2:=by
   unfold dIt;rw[(JA (a:=.lst ((fN pts i).map qT)) (b:=.lst (pts.map ptD)) rfl rfl).trans hg];rfl
  rfl';obtain⟨S3,e3,p3⟩:=QQ (enc:=qT) (cap:=[none]) (g:=gNm 0) (t:=wG (dTr (qE 1 (okO S_are_unlike) (q8 (q9 0) (qA)))) (zW)) (fe:=q9 0) hit2 trivial unl qT (λenv=>∃ a,env=[a]) ⟨none,rfl⟩ (by unfold lim;lia) (λl hl env S' ⟨a,e⟩ _=>by
   subst e;obtain⟨l0,h0,hx⟩:=Pa.mp hl;obtain⟨p,hp,rfl⟩:=Br.mp hx;obtain⟨f1,f2,_,_⟩:=kL i h0;obtain⟨_,S1,e1,rfl,p1⟩:=oK (l:=l0++[p]) (S:=S') (Q:=λd S1=>d=.bl (unl (l0++[p]))/\S'<+:S1) (λx hx=>by
    rcases Bz.mp hx with hx|hx
    .exact hin x (f2 x hx)
    .rw[Ci.mp hx];exact hin p (Jp.mp hp).1) (by rw[Aw,f1];simp;lia) λS1 p1=>⟨rfl,p1⟩
   have e2:qE 1 (okO S_are_unlike) (q8 (q9 0) (qA)) [Ab (qT (l0++[p]))] S'=.ok (.bl (unl (l0++[p]))) S1:=(kY (f1:=q9 0) rfl).trans (by unfold okO;rw[e1])
   exact⟨[Ab (qT (l0++[p]))],S1,rfl,⟨_,rfl⟩,bD e2,p1,λ_=>⟨S1,rfl,Be _⟩⟩)
  refine qN e3 ?_;rfl';exact RD (t-(i+1)) li ⟨i+1,fN pts i,rfl,rfl,hit,.inr rfl,hp.trans p3⟩
 .have hit:i=t:=by
   refine Lh hi (Sy λz=>?_);obtain⟨n1,_⟩:=g1 i (Fh _) z;cases hx:fN pts i with
   |nil=>exact n1 hx
   |cons a r=>rw[hx] at hb;cases hb
  subst hit;rcases hl with z|rfl
  .exact absurd z ht0
  rfl';exact q S2 hp ht0
theorem XH (c:Cl){W H:An}(hw:1<=W/\W<=4)(hh:1<=H/\H<=4){S:Sto}(q:∀ S',S<+:S'->Q (.int (tpN W.toNat H.toNat:Ai)) S'):Ok (S_most_unlike c [.int W,.int H] S) Q:=by
 have T:=tpT (w:=W.toNat) (h:=H.toNat) li li;obtain⟨g1,g2,g3⟩:=iX 9 0 T.gof;rw[uO];refine zC (env:=[Ab (.int W),Ab (.int H)]) rfl ?_;rfl';refine L5 c hw hh λS1 p1 t0=>?_;cases hx:fN (qU W.toNat H.toNat) (tpN W.toNat H.toNat-1) with
 |nil=>exact absurd hx (g1 _ (Fh _) li).1
 |cons l r =>
  have hl:=(kL _ (l:=l) (by rw[hx];exact .head _)).1
  rfl';refine oH (d:=qT l) (by rw[De];exact fK (a:=0) (by simp)) ?_
  unfold qT;rfl';rw[Ak,hl,show tpN W.toNat H.toNat-1+1=tpN W.toNat H.toNat by lia]
  exact q S1 p1
def Bx (w:An)(x:Pt):Prop:=-w<=x.1/\x.1<=w /\ -w<=x.2/\x.2<=w
theorem bR {p:Ai}{w:An}(hw:1<=w/\w<=1000){S:Sto}(h:yG S p)(q:∀ x S1,Kp p S S1->Bx w x->Q (ptD x) S1):Ok (S__law_point [.loc p,.int w] S) Q:=by
 rw[jK];refine zC (env:=[Ab (.loc p),Ab (.int w)]) rfl ?_;rfl';refine yE h li λr S1 k1 h1=>?_;rfl';refine yE k1.pen li λt S2 k2 h2=>?_;rfl';exact q ((r:An)-w,(t:An)-w) S2 (k1.trans k2) ⟨by dsimp only;lia,by dsimp only;lia,by dsimp only;lia,by dsimp only;lia⟩
structure Pts (n:Ai)(ps:Aa Pt):Prop where
 ne:ps≠[]
 len:ps.length<=n
 box:∀ x∈ps,InB 1000 x
theorem kR:∀ {ds:Aa D},(∀ d∈ds,∃ x,d=ptD x/\InB 1000 x)->∃ ps:Aa Pt,ds=ps.map ptD/\∀ x∈ps,InB 1000 x
 |[],_=>⟨[],rfl,λ_ h=>by cases h⟩
 |d::ds,h=>by
  obtain⟨x,rfl,hx⟩:=h d (.head _);obtain⟨ps,rfl,hp⟩:=kR λd hd=>h d (.tail _ hd);exact⟨x::ps,rfl,λy hy=>by
   rcases Az.mp hy with rfl|hy
   .exact hx
   .exact hp y hy⟩
theorem QU (xs:Aa D)(n:Ai):xO xs none (Ab (n:An))=xs.take n:=by
 unfold xO;have h1:_H.sIx xs.length 0 none=0:=rfl;have h2:_H.sIx xs.length xs.length (Ab (n:An))=min n xs.length:=by
  show (if (n:An)<0 then ((n:An)+(xs.length:An)).toNat else min (n:An).toNat xs.length)=_
  rw[Bf li,Gq]
 rw[h1,h2,Nat.sub_zero,List.drop_zero];rcases Nat.le_total n xs.length with h|h
 .rw[Uo h]
 .rw[Tg h,Gn h,Gn (Av _)]
theorem nM {fe:DE}(g:Pt->Pt)(e:env[8]? = Ab (Ab (.lst (ps.map ptD))))(hl:ps.length<=100)(step:∀ x:Pt,Ok (fe [Ab (.int x.1),Ab (.int x.2)] S) λd S3=>d=ptD (g x)/\S3=S)(q:Q (.lst ((ps.map g).map ptD)) S):Ok (zA false [none,none] (dIt (q9 8)) (gTp 2 (qX (gNm 0) (qX (gNm 1) (xJ)))) (zW) (zB fe) env S) Q:=by
 refine wU (enc:=ptD) (o:=none) ps (λx=>ptD (g x)) (λenv S'=>S'=S/\∃ a b,env=[a,b]) (o7 e) ⟨rfl,none,none,rfl⟩ (by unfold lim;lia) (λ_ _ _=>trivial) (λx hx env S' ⟨e1,a,b,e2⟩=>?_) λenv S' ⟨e1,_⟩=>?_
 .subst e1 e2
  obtain⟨d,S3,e3,rfl,rfl⟩:=step x;exact⟨_,_,rfl,_,_,rfl,rfl,_,_,e3,rfl,rfl,_,_,rfl⟩
 .subst e1
  rw[Eh] at q;exact q
theorem EK {p:Ai}(h:yG S p)(q:∀ (l:Aa Pt) S',yG S' p->Lot 16 l->Q (qT l) S'):Ok (S__law_lot [.loc p,.int 16] S) Q:=by
 rw[pC];refine zC (env:=[Ab (.loc p),Ab (.int 16),none,none,none,none,none,none,none]) rfl ?_;rfl';refine yE h li λway S1 k1 h1=>?_;rfl';refine yE k1.pen li λm S2 k2 h2=>?_;obtain⟨many,em,hm⟩:∃ many:An,1+(m:An)=many/\1<=many/\many<=16:=⟨_,rfl,by lia,by lia⟩
 rfl';rw[em];refine yE k2.pen li λr S3 k3 h3=>?_;refine EJ (show r<5 by lia) λd hd=>?_
 obtain⟨wide,rfl,hw⟩:∃ w:An,d=.int w/\1<=w/\w<=1000:=by
  simp only[Az,Dm,Hd] at hd;rcases hd with rfl|rfl|rfl|rfl|rfl <;> exact⟨_,rfl,by lia⟩
 rfl';refine bR (w:=400) li k3.pen λa S4 k4 ha=>?_;rfl';refine yE k4.pen li λst S5 k5 h5=>?_;rfl';have hst:1<=1+(st:An)/\1+(st:An)<=9:=by lia
 generalize 1+(st:An)=st at hst;have pp:=k5.pen;clear k1 k2 k3 k4 k5 h1 h2 h3 h5 hd em;refine aF (enc:=λ(i:Ai)=>D.int (i:An)) (o:=none) (Cz many.toNat) (λd=>∃ x,d=ptD x/\InB 1000 x) (λenv S'=>yG S' p/\∃ z,env=[z,Ab (.loc p),Ab (.int wide)]) (mO rfl li) ⟨pp,none,rfl⟩ (by rw[Fk];unfold lim;lia) (λ_ _ _=>trivial) (λx hx env S' ⟨e1,z,e2⟩=>?_) λds env S6 hl hR ⟨pp,_⟩=>?_
 .subst e2
  rfl';refine bR (w:=wide) li e1 λy S7 k7 hy=>?_;unfold Bx at hy;exact⟨⟨y,rfl,by unfold InB;lia⟩,k7.pen,_,rfl⟩
 obtain⟨ps,rfl,hb⟩:=kR hR;rw[Ak,Fk] at hl;have P0:Pts 80 ps:=⟨λz=>(by rw[z] at hl;simp only[Cd] at hl;lia),by lia,hb⟩
 clear hR hl hb;unfold Bx at ha;have hmn:many.toNat<=16:=by lia
 array_get_dec;array_get_dec;refine Q5 (λenv S'=>S'=S6/\∃ qs e8,env=[Ab (.loc p),Ab (.int 16),Ab (.int way),Ab (.int many),Ab (.int wide),Ab (ptD a),Ab (.int st),Ab (.lst (qs.map ptD)),e8]/\Pts 80 qs) (λP' hP=>?_) ?_
 .rfl'
  refine vB (λz=>?_) λz=>?_
  .rfl'
   refine wU (enc:=λ(i:Ai)=>D.int (i:An)) (o:=none) (Cz many.toNat) (λ(i:Ai)=>ptD (a.1+(i:An) % 4,a.2+(i:An)/4)) (λenv S'=>S'=S6/\∃ z,env=[z,Ab (ptD a)]) (mO rfl li) ⟨rfl,none,rfl⟩ (by rw[Fk];unfold lim;lia) (λ_ _ _=>trivial) (λx hx env S' ⟨e1,z,e2⟩=>?_) λenv S' ⟨e1,_⟩=>?_
   .subst e1 e2
    rfl';exact⟨_,rfl⟩
   .subst e1
    rfl';refine hP _ _ ⟨rfl,(Cz many.toNat).map λ(i:Ai)=>(a.1+(i:An) % 4,a.2+(i:An)/4),_,by rw[Eh];rfl,⟨λz=>?_,by rw[Ak,Fk];lia,λx hx=>?_⟩⟩
    .have:=congrArg Fy z
     rw[Ak,Fk] at this;simp only[Cd] at this
     lia
    .obtain⟨i,hi,rfl⟩:=Br.mp hx
     have hi:=Do.mp hi;unfold InB;dsimp only
     lia
  .rfl'
   exact hP _ _ ⟨rfl,ps,_,rfl,P0⟩
 clear P0;rintro _ S' ⟨rfl,ps,e8,rfl,P0⟩;refine Q5 (λenv S''=>S''=S'/\∃ qs e8,env=[Ab (.loc p),Ab (.int 16),Ab (.int way),Ab (.int many),Ab (.int wide),Ab (ptD a),Ab (.int st),Ab (.lst (qs.map ptD)),e8]/\Pts 80 qs) (λP' hP=>?_) ?_
 .rfl'
  refine vB (λz=>?_) λz=>?_
  .rfl'
   refine wU (enc:=λ(i:Ai)=>D.int (i:An)) (o:=none) (Cz many.toNat) (λ(i:Ai)=>ptD (a.1+st*(i:An),a.2-(i:An))) (λenv S''=>S''=S'/\∃ z,env=[z,Ab (ptD a),Ab (.int st)]) (mO rfl li) ⟨rfl,none,rfl⟩ (by rw[Fk];unfold lim;lia) (λ_ _ _=>trivial) (λx hx env S'' ⟨e1,z,e2⟩=>?_) λenv S'' ⟨e1,_⟩=>?_
   .subst e1 e2
    rfl';exact⟨_,rfl⟩
   .subst e1
    rfl';refine hP _ _ ⟨rfl,(Cz many.toNat).map λ(i:Ai)=>(a.1+st*(i:An),a.2-(i:An)),_,by rw[Eh];rfl,⟨λz=>?_,by rw[Ak,Fk];lia,λx hx=>?_⟩⟩
    .have:=congrArg Fy z
     rw[Ak,Fk] at this;simp only[Cd] at this
     lia
    .obtain⟨i,hi,rfl⟩:=Br.mp hx
     have hi:=Do.mp hi;have h1:=Int.mul_le_mul (show st<=9 by lia) (show (i:An)<=16 by lia) li li
     have h2:=Int.mul_nonneg (show 0<=st by lia) (show 0<=(i:An) by lia)
     unfold InB;dsimp only
     lia
  .rfl'
   exact hP _ _ ⟨rfl,ps,_,rfl,P0⟩
 clear P0;rintro _ S' ⟨rfl,ps,e8,rfl,P0⟩;refine Q5 (λenv S''=>S''=S'/\∃ qs e8,env=[Ab (.loc p),Ab (.int 16),Ab (.int way),Ab (.int many),Ab (.int wide),Ab (ptD a),Ab (.int st),Ab (.lst (qs.map ptD)),e8]/\Pts 80 qs) (λP' hP=>?_) ?_
 .rfl'
  refine vB (λz=>?_) λz=>?_
  .rfl'
   obtain⟨kk,hk,hk2⟩:∃ kk:Ai,1+many/4=((kk:Ai):An)/\1<=kk/\kk<=5:=⟨(1+many/4).toNat,by lia,by lia,by lia⟩
   rw[hk,QU,<- Wz];have hts:(ps.take kk).length<=5:=by rw[Eu];lia
   have htb:∀ x∈ps.take kk,InB 1000 x:=λx hx=>P0.box x (Ph hx);have htn:ps.take kk≠[]:=λz=>by
    have:=congrArg Fy z;rw[Eu] at this;have:=Ko.mpr P0.ne;simp only[Cd] at *
    lia
   generalize ps.take kk=ts at hts htb htn;rfl';refine nM (λx=>(0-x.2,x.1)) rfl li (λx=>by rfl';exact rfl) ?_
   refine mU (by rw[Ak,Ak,Ak];unfold lim;lia) ?_
   rw[<- Dr];rfl';refine nM (λx=>(0-x.1,0-x.2)) rfl li (λx=>by rfl';exact rfl) ?_
   refine mU (by simp only[Ak,Aw];unfold lim;lia) ?_
   rw[<- Dr];rfl';refine nM (λx=>(x.2,0-x.1)) rfl li (λx=>by rfl';exact rfl) ?_
   refine mU (by simp only[Ak,Aw];unfold lim;lia) ?_
   rw[<- Dr];rfl';refine hP _ _ ⟨rfl,_,_,rfl,⟨λz=>?_,by simp only[Ak,Aw];lia,λx hx=>?_⟩⟩
   .have:=congrArg Fy z
    have:=Ko.mpr htn;simp only[Ak,Aw,Cd] at *
    lia
   .simp only[Bz,Br] at hx
    rcases hx with ((hx|⟨y,hy,rfl⟩)|⟨y,hy,rfl⟩)|⟨y,hy,rfl⟩
    .exact htb x hx
    all_goals
     have:=htb y hy;unfold InB at *;dsimp only
     lia
  .rfl'
   exact hP _ _ ⟨rfl,ps,_,rfl,P0⟩
 clear P0;rintro _ S' ⟨rfl,ps,e8,rfl,P0⟩;obtain⟨kk,rfl,hk2⟩:∃ kk:Ai,many=((kk:Ai):An)/\1<=kk/\kk<=16:=⟨many.toNat,by lia,by lia,by lia⟩
 rfl';refine L4 ?_;rfl';rw[QU,<- Wz];have hts:(ps.take kk).length<=16:=by rw[Eu];lia
 have htb:∀ x∈ps.take kk,InB 1000 x:=λx hx=>P0.box x (Ph hx);have htn:ps.take kk≠[]:=λz=>by
  have:=congrArg Fy z;rw[Eu] at this;have:=Ko.mpr P0.ne;simp only[Cd] at *
  lia
 generalize ps.take kk=ts at hts htb htn;refine⟨ts,rfl,by lia,?_⟩
 rfl';refine q (vZ ts) S' pp ⟨λz=>?_,Df (UR ts) hts,nW ts,λx hx=>htb x ((fY ts x).mp hx)⟩;obtain⟨x,r,rfl⟩:=List.exists_cons_of_ne_nil htn;have:=(fY (x::r) x).mpr (.head _);rw[z] at this;cases this
theorem N4 (C:An->An->Ar)(f:An->An->D)(i j:An)(S:Sto):i2 C f (.int i) (.int j) S=if C i j=true then .ok (f i j) S else .bad:=rfl
theorem YV (i j:An)(S:Sto):zH (.int i) (.int j) S=.ok (.int (i+j)) S:=rfl
theorem VD (xs:Aa D)(S:Sto):zT [.tup xs] S=.ok (.int xs.length) S:=rfl
theorem YW {ys:Aa D}(h:xs.length+ys.length<=lim)(S:Sto):zH (.lst xs) (.lst ys) S=.ok (.lst (xs++ys)) S:=Bd h
theorem C6 (h:S[j]? = Ab (.lst xs)):tyD (.loc j) S=Ab "list":=by
 show (match S[j]? with|some (.lst _)=>Ab "list" | some (.dct _)=>Ab "dict" | _=>none)=_
 rw[h]
theorem M6 (h:S[j]? = Ab (.lst xs))(hl:xs.length<lim)(d:D):xQ (.loc j) [d] S=.ok .non (S.set j (.lst (xs++[d]))):=by
 show (match S[j]? with|some (.lst xs)=>(if xs.length<lim then Res.ok D.non (S.set j (.lst (xs++[d]))) else .bad)|_=>.bad)=_
 rw[h];exact Bd hl
theorem YX {ys:Aa D}(h:xs.length+ys.length<=lim)(S:Sto):zH (.tup xs) (.tup ys) S=.ok (.tup (xs++ys)) S:=Bd h
theorem GV {k:An}{d:D}(h:_L.atI xs k=Ab d)(S:Sto):gIx (.tup xs) (.int k) S=.ok d S:=by
 show _D.yO (_L.atI xs k) S=_;rw[h];rfl
noncomputable def iD (n:Ai):D:=.int (n:An)
theorem HK (n:Ai)(h:n<=1000000):jE [.int (n:An)]=Ab (xS 0 (n:An).toNat):=by
 unfold jE;have : -(2 ^ 62)<=(n:An)/\(n:An)<2 ^ 62:=⟨by omega,by omega⟩
 exact Bd this
theorem UF (n:Ai):xS 0 (n:An).toNat=(Cz n).map iD:=by
 unfold xS;rw[Gq]
 congr 1
 funext i
 unfold iD;rw[Int.zero_add]
theorem BZ (n:Ai)(h:n<=1000000):jE [.int (n:An)]=Ab ((Cz n).map iD):=by
 rw[HK n h,UF]
theorem W2 {β:Type}(b:β)(S:Sto):_D.yO (Ab b) S=.ok b S:=rfl
def sJ (p:Pt):Prop:=-2000<=p.1/\p.1<=2000 /\ -2000<=p.2/\p.2<=2000
theorem BB {p:Pt}(h:InB 1000 p):sJ p:=by
 unfold InB at h;unfold sJ
 lia
theorem ZQ (p:Pt)(S:Sto):gIx (ptD p) (.int 0) S=.ok (.int p.1) S:=rfl
theorem ZR (p:Pt)(S:Sto):gIx (ptD p) (.int 1) S=.ok (.int p.2) S:=rfl
theorem KC (xs:Aa D)(i:Ai):xO xs (Ab ((i:An)+1)) none=xs.drop (i+1):=by
 unfold xO;have e1:_H.sIx xs.length 0 (Ab ((i:An)+1))=min (i+1) xs.length:=by
  have:((i:An)+1)=((i+1:Ai):An):=by omega
  rw[this,_H.sIx_nat]
 rw[e1,_H.sIx_none];by_cases h:i+1<=xs.length
 .rw[Uo h,Gn (by simp)]
 .have:xs.drop (i+1)=[]:=Lb om
  rw[this,Tg om];simp
theorem JI (i:An)(h:i.natAbs<2 ^ 64)(S:Sto):gG (.int i) (.int 2) S=.ok (.int (i*i)) S:=by
 unfold gG;rw[N4,Bd (by unfold MA;exact Cp ⟨by omega,by omega,h⟩)]
 show Res.ok (D.int (i ^ (0+1+1))) S=_;rw[Int.pow_succ,Int.pow_succ,Int.pow_zero,Int.one_mul]
theorem SO (p q:Pt)(S:Sto)(hp:sJ p)(hq:sJ q):S__law_far [ptD p,ptD q] S=.ok (.int (far p q)) S:=by
 obtain⟨a1,a2,a3,a4⟩:=hp;obtain⟨b1,b2,b3,b4⟩:=hq;rw[pB];have sub:∀ (i j:An),xY (.int i) (.int j) S=.ok (.int (i-j)) S:=λ_ _=>rfl;have k1:d2 gG (d2 xY (d2 gIx (q9 0) (dC (.int 0))) (d2 gIx (q9 1) (dC (.int 0)))) (dC (.int 2)) [Ab (ptD p),Ab (ptD q)] S=.ok (.int ((p.1-q.1)*(p.1-q.1))) S:=
  (wF ((wF ((wF (a:=ptD p) (b:=.int 0) rfl rfl).trans (ZQ p S)) ((wF (a:=ptD q) (b:=.int 0) rfl rfl).trans (ZQ q S))).trans (sub _ _)) rfl).trans (JI _ om S)
 have k2:d2 gG (d2 xY (d2 gIx (q9 0) (dC (.int 1))) (d2 gIx (q9 1) (dC (.int 1)))) (dC (.int 2)) [Ab (ptD p),Ab (ptD q)] S=.ok (.int ((p.2-q.2)*(p.2-q.2))) S:=
  (wF ((wF ((wF (a:=ptD p) (b:=.int 1) rfl rfl).trans (ZR p S)) ((wF (a:=ptD q) (b:=.int 1) rfl rfl).trans (ZR q S))).trans (sub _ _)) rfl).trans (JI _ om S)
 exact F2 (env:=[Ab (ptD p),Ab (ptD q)]) rfl ((wF k1 k2).trans (YV _ _ S))
inductive IvP (l:Aa Pt)(S0:Sto)(ds:Aa D)(env:qB)(S:Sto):Prop
 |mk (i m:Ai) (e2:Al D) (done:Aa (Pt × Pt)) (h_0:env=[Ab (.tup (l.map ptD)),Ab (.lst (done.map prD)),e2]) (h_1:ds=(List.range' i m).map iD) (h_2:i+m=l.length) (h_3:done++qS (l.drop i)=qS l) (h_4:S=S0):IvP l S0 ds env S
theorem UD (l:Aa Pt)(S:Sto)(hl:l.length<=41):S__law_pairs [.tup (l.map ptD)] S=.ok (.lst ((qS l).map prD)) S:=by
 have hA:=oD hl;have key:Rt (b__law_pairs [Ab (.tup (l.map ptD)),none,none] S) λd S'=>d=.lst ((qS l).map prD)/\S'=S:=by
  unfold b__law_pairs;refine tB (nJ (d:=.lst []) (S1:=S) rfl rfl ?_);have hr:wC (q8 (qR zT (q8 (q9 0) (qA))) (qA)) [Ab (.tup (l.map ptD)),Ab (.lst []),none] S=.ok ((List.range' 0 l.length).map iD) S:=by
   have e1:qR zT (q8 (q9 0) (qA)) [Ab (.tup (l.map ptD)),Ab (.lst []),none] S=.ok (.int (l.length:An)) S:=by
    rw[MB (a:=.tup (l.map ptD)) rfl,VD,Ak]
   unfold wC;rw[MM e1,Res.bind_ok,BZ l.length om,W2,List.range_eq_range']
  refine tB (XE hr ?_);refine nK (IvP l S) ?_ ?_ ⟨0,l.length,none,[],rfl,rfl,by omega,rfl,rfl⟩
  .rintro d ds env S' ⟨i,m,e2,done,rfl,hds,hm,hall,rfl⟩
   cases m with
   |zero=>cases hds
   |succ m =>
    rw[List.range'_succ,De] at hds;injection hds with h1 h2
    subst h1 h2;have hi:i<l.length:=by omega
    have hdr:l.drop i=l[i]::l.drop (i+1):=Gr hi;rw[hdr] at hall;refine⟨[Ab (.tup (l.map ptD)),Ab (.lst (done.map prD)),Ab (iD i)],S',rfl,?_⟩;have hsl:dIt (dSl (q9 0) (xA (d2 zH (q9 2) (dC (.int 1)))) (xX)) [Ab (.tup (l.map ptD)),Ab (.lst (done.map prD)),Ab (iD i)] S'=.ok (none,(l.drop (i+1)).map ptD) S':=by
     have e1:gSl (.tup (l.map ptD)) (Ab ((i:An)+1)) none S'=.ok (.tup ((l.drop (i+1)).map ptD)) S':=by
      show Res.ok (D.tup (xO (l.map ptD) (Ab ((i:An)+1)) none)) S'=_;rw[KC,<- Sg]
     unfold iD;have e2:dSl (q9 0) (xA (d2 zH (q9 2) (dC (.int 1)))) (xX) [Ab (.tup (l.map ptD)),Ab (.lst (done.map prD)),Ab (.int (i:An))] S'=.ok (.tup ((l.drop (i+1)).map ptD)) S':=by
      exact e1
     unfold dIt;rw[e2];rfl
    have hat:_L.atI (l.map ptD) (i:An)=Ab (ptD l[i]):=_L.K7 (by rw[Dy,Ao hi];rfl)
    have hc:=cG (enc:=ptD) (cap:=[none,Ab 2,Ab 0]) (g:=gNm 0) (t:=zW) (fe:=zP (q8 (d2 gIx (q9 2) (q9 1)) (q8 (q9 0) (qA)))) hsl trivial (λ_=>true) (λq=>prD (l[i],q)) (λenv=>∃ a,env=[a,Ab (iD i),Ab (.tup (l.map ptD))]) ⟨none,rfl⟩ (by rw[Kj];unfold lim;omega)
     (λq hq env ⟨a,z⟩=>by
      subst z;exact⟨[Ab (ptD q),Ab (iD i),Ab (.tup (l.map ptD))],rfl,⟨_,rfl⟩,rfl,λ_=>W7 (r0 ((wF (a:=.tup (l.map ptD)) (b:=.int (i:An)) rfl rfl).trans (GV hat S')) rfl) (by show 2<=lim;decide)⟩)
    rw[ZC] at hc;have hlen:done.length+(l.drop (i+1)).length<=lim:=by
     have:=congrArg Fy hall;simp only[qS,Aw,Ak] at this;unfold lim;omega
    refine nJ ((wF (a:=.lst (done.map prD)) rfl hc).trans (YW (by rw[Ak,Ak];exact hlen) S')) rfl ?_
    refine⟨i+1,m,Ab (iD i),done++(l.drop (i+1)).map λq=>(l[i],q),?_,rfl,by omega,?_,rfl⟩
    .rw[Dr,Eh]
     rfl
    .rw[Ch]
     exact hall
  .rintro env S' ⟨i,m,e2,done,rfl,hds,hm,hall,rfl⟩
   have hm0:m=0:=by
    have:=congrArg Fy hds;simpa using this.symm
   rw[Li om,qS,Fq] at hall;subst hall;exact SQ (qN (S:=S') rfl ⟨rfl,rfl⟩)
 obtain⟨d,S',e,rfl,rfl⟩:=key;rw[jJ];exact W5 rfl e
noncomputable def lw (acc:Aa PP):Aa PP->Aa (PP × PP)
 |[]=>[]
 |x::xs=>(match acc.find? (λy=>qH y == qH x) with|some y=>[(y,x)]|none=>[])++lw (acc++[x]) xs
theorem iR:∀ {R:PP->PP->Prop} {xs:Aa PP} {a b:PP},xs.Pairwise R->fl xs=Ab (a,b)->R a b/\qH a=qH b/\a∈xs/\b∈xs
 |R,[],a,b,_,h=>by cases h
 |R,x::xs,a,b,u,h=>by
  obtain⟨u1,u2⟩:=Dw.mp u;unfold fl at h;cases q:xs.find? (λy=>qH y == qH x) with
  |some y =>
   rw[q] at h;have e:x=a/\y=b:=by simpa using h
   obtain⟨rfl,rfl⟩:=e;have hy:=Jz q;have e2:qH y=qH x:=by simpa using Ps q
   exact⟨u1 y hy,e2.symm,.head _,.tail _ hy⟩
  |none =>
   rw[q] at h;obtain⟨h1,h2,h3,h4⟩:=iR u2 h;exact⟨h1,h2,.tail _ h3,.tail _ h4⟩
theorem bC {l:Aa Pt}(h:Up l){x:Pt × Pt}(hx:x∈qS l):ltP x.1 x.2=true:=by
 induction l with
 |nil=>cases hx
 |cons p l ih =>
  obtain⟨h1,h2⟩:=Dw.mp h;rcases Bz.mp (show x∈l.map (λq=>(p,q))++qS l from hx) with hx|hx
  .obtain⟨q,hq,rfl⟩:=Br.mp hx
   exact h1 q hq
  .exact ih h2 hx
theorem HZ (z:PP × PP):trb 6 (qD z)=true:=by
 show (trb 5 (ptD z.1.1)&&(trb 5 (ptD z.1.2)&&(trb 5 (ptD z.2.1)&&(trb 5 (ptD z.2.2)&&true))))=true;rw[vT 4,vT 4,vT 4,vT 4];rfl
theorem X4:∀ (xs acc:Aa PP),lw acc xs=[]↔(∀ x∈xs,∀ a∈acc,qH a≠qH x)/\(xs.map qH).Nodup
 |[],acc=>by simp[lw]
 |x::xs,acc=>by
  show (match acc.find? (λy=>qH y == qH x) with|some y=>[(y,x)]|none=>[])++lw (acc++[x]) xs=[]↔_
  rw[List.append_eq_nil_iff,X4 xs (acc++[x]),De,Il];have e:(match acc.find? (λy=>qH y == qH x) with|some y=>[(y,x)]|none=>[])=([]:Aa (PP × PP))↔∀ a∈acc,qH a≠qH x:=by
   cases q:acc.find? (λy=>qH y == qH x) with
   |some y=>exact⟨λh=>(by cases h),λh=>absurd (by simpa using Ps q) (h y (Jz q))⟩
   |none=>exact⟨λ_ a ha=>by simpa using Kw.mp q a ha,λ_=>rfl⟩
  rw[e];constructor
  .rintro⟨h1,h2,h3⟩
   refine⟨λy hy a ha=>?_,λhm=>?_,h3⟩
   .rcases Az.mp hy with rfl|hy
    .exact h1 a ha
    .exact h2 y hy a (Dc _ ha)
   .obtain⟨y,hy,e⟩:=Br.mp hm
    exact h2 y hy x (by simp) e.symm
  .rintro⟨h1,h2,h3⟩
   refine⟨h1 x (.head _),λy hy a ha=>?_,h3⟩;rcases Bz.mp ha with ha|ha
   .exact h1 y (.tail _ hy) a ha
   .rw[Ci.mp ha]
    exact λe=>h2 (Br.mpr ⟨y,hy,e.symm⟩)
theorem EE {fnd:Aa (PP × PP)}(hS:S[n]? = Ab (.lst (fnd.map qD))):∃ d,mnD [.loc n] .non S=.ok d S/\gIs d .non S=.ok (.bl fnd.isEmpty) S:=by
 have e0:lsD (.loc n) S=Ab (fnd.map qD):=by
  show (match S[n]? with|some (.lst xs)=>Ab xs|_=>none)=_
  rw[hS]
 cases fnd with
 |nil =>
  refine⟨.non,?_,rfl⟩;show (match lsD (.loc n) S with|some [] => Res.ok D.non S|some (x::xs)=>if mOk (x::xs)=true then Res.ok (fV (x::xs)) S else Res.bad|none=>Res.bad)=_
  rw[e0];rfl
 |cons z zs =>
  have hk:mOk ((z::zs).map qD)=true:=by
   refine Cf.mpr λu hu=>?_;obtain⟨u,_,rfl⟩:=Br.mp hu;rw[HZ,Ou];refine Cf.mpr λv hv=>?_;obtain⟨v,_,rfl⟩:=Br.mp hv;rfl
  obtain⟨m,_,em⟩:=Br.mp (X8 (xs:=(z::zs).map qD) (Nm _)).1;refine⟨qD m,?_,rfl⟩;show (match lsD (.loc n) S with|some [] => Res.ok D.non S|some (x::xs)=>if mOk (x::xs)=true then Res.ok (fV (x::xs)) S else Res.bad|none=>Res.bad)=_
  rw[e0];show (if mOk ((z::zs).map qD)=true then Res.ok (fV ((z::zs).map qD)) S else .bad)=_
  rw[Bd hk,<- em]
theorem SV (h:S[j]? = Ab (.dct kvs))(hl:kvs.length<lim)(n:An)(d:D):y9 (.loc j) (.int n) d S=.ok () (S.set j (.dct (w6 kvs (.inl n) d))):=by
 show (match S[j]? with|some (.dct kvs)=>(match yC (.int n) with|some k=>(if kvs.length<lim then Res.ok () (S.set j (.dct (w6 kvs k d))) else .bad)|none=>.bad)|_=>fR (.loc j) (.int n) d S)=_
 rw[h];exact Bd hl
theorem RI {ty:Ek}{g:D->Aa D->Sto->Res D}{fo:DE}{fa:DA}{S1 S2:Sto}{o:D}{ds:Aa D}(h1:fo env S=.ok o S1)(ht:tyD o S1=Ab ty)(h2:fa env S1=.ok ds S2):dBm ty g fo fa env S=g o ds S2:=by
 unfold dBm;rw[h1,Res.bind_ok,ht,Bd (by simp),h2,Res.bind_ok]
theorem HN {f o i:DE}{h:G3}{S1 S2 S3 S4:Sto}{d a b:D}(h1:f env S=.ok d S1)(h2:o env S1=.ok a S2)(h3:i env S2=.ok b S3)(h4:h a b d S3=.ok () S4):z0 f (gSb o i h) env S=.nx env S4:=by
 simp only[z0,gSb,h1,h2,h3,h4,Res.toS,Res.bind]
theorem r8 (h:S[n]? = Ab (.dct kvs)):bJ (.loc n) S=Ab kvs:=by
 show (match S[n]? with|some (.dct kvs)=>Ab kvs|_=>none)=_
 rw[h]
theorem N5 (h:S[n]? = Ab (.dct kvs))(f:An):fQ (.int f) (.loc n) S=.ok (.bl (zZ kvs (.inl f)).isSome) S:=by
 unfold fQ;rw[r8 h];rfl
theorem NB (h:S[n]? = Ab (.dct kvs))(f:An){d:D}(hd:zZ kvs (.inl f)=Ab d):pW (.loc n) (.int f) S=.ok d S:=by
 unfold pW;rw[r8 h];show (match zZ kvs (.inl f) with|some d=>Res.ok d S|none=>.bad)=_
 rw[hd]
theorem FG (kvs:Aa (_L.Key × D))(f g:An)(d:D):zZ (kvs++[(.inl f,d)]) (.inl g)=(zZ kvs (.inl g)).or (if f=g then Ab d else none):=by
 unfold zZ;rw[Sh];cases q:kvs.find? λkv=>decide (kv.1=Ho g) with
 |some z=>rfl
 |none =>
  by_cases h:f=g
  .subst h;simp
  .have:(Ho f:_L.Key)≠Ho g:=λe=>h (by injection e)
   simp[h]
def fb (l:Aa Pt):DS:=qM (z0 (qE 2 S__law_far (q8 (q9 3) (q8 (q9 4) (qA)))) (gNm 5)) (sIf (dTr (d2 fQ (q9 5) (q9 1))) (xM (dBm "list" xQ (q9 2) (q8 (d2 zH (d2 pW (q9 1) (q9 5)) (zP (q8 (q9 3) (q8 (q9 4) (qA))))) (qA)))) (z0 (zP (q8 (q9 3) (q8 (q9 4) (qA)))) (gSb (q9 1) (q9 5) y9)))
structure IvF (l:Aa Pt)(S:Sto)(ds:Aa D)(env:qB)(S':Sto):Prop where
 ex:∃ (e3 e4 e5:Al D) (done rest:Aa PP) (kvs:Aa (_L.Key × D)) (fnd:Aa (PP × PP)),env=[Ab (.tup (l.map ptD)),Ab (.loc S.length),Ab (.loc (S.length+1)),e3,e4,e5]/\ds=rest.map prD/\done++rest=qS l/\S'[S.length]? = Ab (.dct kvs)/\S'[S.length+1]? = Ab (.lst (fnd.map qD))/\(∀ m,m<S.length->S'[m]? = S[m]?)/\fnd++lw done rest=lw [] (qS l)/\(∀ f:An,zZ kvs (.inl f)=(done.find? λy=>qH y == f).map prD)/\kvs.length<=done.length/\fnd.length<=done.length
theorem Q0 {l:Aa Pt}(hl:l.length<=40)(hok:∀ p∈l,sJ p){S:Sto}{d:D}{ds:Aa D}{env:qB}{S':Sto}(h:IvF l S (d::ds) env S'):∃ env1 S1,gTp 2 (qX (gNm 3) (qX (gNm 4) (xJ))) d env S'=.ok env1 S1/\Nx (fb l env1 S1) (IvF l S ds):=by
 obtain⟨e3,e4,e5,done,rest,kvs,fnd,rfl,hds,hdr,hk,hf,hm,hw,hv,h1,h2⟩:=h.ex;cases rest with
 |nil=>cases hds
 |cons x rest =>
  rw[De] at hds;injection hds with hd hds
  subst hd hds;refine⟨[Ab (.tup (l.map ptD)),Ab (.loc S.length),Ab (.loc (S.length+1)),Ab (ptD x.1),Ab (ptD x.2),e5],S',rfl,?_⟩;have hx:x∈qS l:=by rw[<- hdr];simp
  obtain⟨x1,x2⟩:=uT hx;have hz:done.length<4000:=by
   have:=oD (l:=l) om;rw[<- hdr,Aw,AT] at this;omega
  unfold fb;refine NV (nJ ((JA (a:=ptD x.1) (b:=ptD x.2) rfl rfl).trans (SO x.1 x.2 S' (hok _ x1) (hok _ x2))) rfl ?_);show Nx (sIf _ _ _ [Ab (.tup (l.map ptD)),Ab (.loc S.length),Ab (.loc (S.length+1)),Ab (ptD x.1),Ab (ptD x.2),Ab (.int (qH x))] S') _;have hpr:∀ S1:Sto,zP (q8 (q9 3) (q8 (q9 4) (qA))) [Ab (.tup (l.map ptD)),Ab (.loc S.length),Ab (.loc (S.length+1)),Ab (ptD x.1),Ab (ptD x.2),Ab (.int (qH x))] S1=.ok (prD x) S1:=λS1=>W7 (r0 (a:=ptD x.1) (b:=ptD x.2) rfl rfl) (show 2<=lim by decide)
  refine EH (K4 ((wF (a:=.int (qH x)) (b:=.loc S.length) rfl rfl).trans (N5 hk (qH x)))) ?_;have hv0:=hv (qH x);have hlw:lw done (x::rest)=(match done.find? (λy=>qH y == qH x) with|some y=>[(y,x)]|none=>[])++lw (done++[x]) rest:=rfl
  cases q:done.find? (λy=>qH y == qH x) with
  |some y =>
   rw[q] at hv0 hlw;have hv1:zZ kvs (.inl (qH x))=Ab (prD y):=hv0;rw[hv1];show Nx (xM _ _ S') _;have ht:tyD (.loc (S.length+1)) S'=Ab "list":=C6 hf;refine PL (qN ((RI (o:=.loc (S.length+1)) rfl ht (RM ((wF ((wF (a:=.loc S.length) (b:=.int (qH x)) rfl rfl).trans (NB hk _ hv1)) (hpr S')).trans (YX (xs:=[ptD y.1,ptD y.2]) (ys:=[ptD x.1,ptD x.2]) (show 2+2<=lim by decide) S')) rfl)).trans (M6 hf (by rw[Ak];unfold lim;omega) _)) ?_)
   refine⟨_,_,_,done++[x],rest,kvs,fnd++[(y,x)],rfl,rfl,by rw[<- hdr];simp,?_,?_,λm hm'=>?_,?_,λf=>?_,?_,?_⟩
   .rw[Ce om];exact hk
   .rw[Ed (Bi.mp hf).1,Dr];rfl
   .rw[Ce om];exact hm m hm'
   .rw[<- hw,hlw];simp
   .rw[hv f,Sh]
    cases q2:done.find? (λy=>qH y == f) with
    |some z=>rfl
    |none =>
     have:(qH x == f)=false:=by
      cases e:qH x == f with
      |false=>rfl
      |true =>
       have e':qH x=f:=by simpa using e
       rw[e'] at q;rw[q] at q2;cases q2
     rw[Jr,this];rfl
   .rw[Aw];omega
   .rw[Aw,Aw];simp only[Dz];omega
  |none =>
   rw[q] at hv0 hlw;have hv1:zZ kvs (.inl (qH x))=none:=hv0;rw[hv1];show Nx (z0 _ _ _ S') _;have hput:w6 kvs (.inl (qH x)) (prD x)=kvs++[(.inl (qH x),prD x)]:=by
    unfold w6;rw[Bf];intro z;obtain⟨kv,h3,h4⟩:=Th.mp z;exact eT hv1 kv h3 (Ct h4)
   refine oF (HN (hpr S') (a:=.loc S.length) (b:=.int (qH x)) rfl rfl (SV hk (by unfold lim;omega) (qH x) (prD x))) ?_
   rw[hput];refine⟨_,_,_,done++[x],rest,kvs++[(.inl (qH x),prD x)],fnd,rfl,rfl,by rw[<- hdr];simp,?_,?_,λm hm'=>?_,?_,λf=>?_,?_,?_⟩
   .rw[Ed (Bi.mp hk).1]
   .rw[Ce om];exact hf
   .rw[Ce om];exact hm m hm'
   .rw[<- hw,hlw];rfl
   .rw[FG,hv f,Sh]
    cases q2:done.find? (λy=>qH y == f) with
    |some z=>rfl
    |none =>
     by_cases e:qH x=f
     .rw[Bd e];simp[e]
     .rw[Bf e];simp[e]
   .rw[Aw,Aw];simp only[Dz];omega
   .rw[Aw];omega
theorem UC (l:Aa Pt)(h:Lot 40 l)(S:Sto):∃ d S',S__law_first_like [.tup (l.map ptD)] S=.ok d S'/\S<+:S'/\gIs d .non S'=.ok (.bl (unl l)) S':=by
 have hl:=h.len;have key:Rt (b__law_first_like [Ab (.tup (l.map ptD)),none,none,none,none,none] S) λd S'=>S<+:S'/\gIs d .non S'=.ok (.bl (unl l)) S':=by
  unfold b__law_first_like;refine tB (NU (a:=.loc S.length) (b:=.loc (S.length+1)) (S1:=S++[.dct []]) (S2:=S++[.dct []] ++ [.lst []]) rfl ?_ ?_)
  .show Res.ok (D.loc (S++[MO.dct []]).length) (S++[MO.dct []] ++ [MO.lst []]) = _
   rw[Aw];rfl
  show Rt (qM (wV _ _ (fb l)) _ [Ab (.tup (l.map ptD)),Ab (.loc S.length),Ab (.loc (S.length+1)),none,none,none] _) _;have hi:w9 (qE 1 S__law_pairs (q8 (q9 0) (qA))) [Ab (.tup (l.map ptD)),Ab (.loc S.length),Ab (.loc (S.length+1)),none,none,none] (S++[.dct []] ++ [.lst []]) = .ok ((qS l).map prD) (S++[.dct []] ++ [.lst []]):=by
   unfold w9;rw[kY (a:=.tup (l.map ptD)) rfl,UD l _ om,Res.bind_ok];rfl
  refine tB (XE hi (nK (IvF l S) (λd ds env S' hI=>Q0 hl (λp hp=>BB (h.box p hp)) hI) (λenv S' hI=>?_) ⟨none,none,none,[],qS l,[],[],rfl,rfl,rfl,?_,?_,λm hm=>?_,rfl,λf=>rfl,Av _,Av _⟩))
  .obtain⟨e3,e4,e5,done,rest,kvs,fnd,rfl,hds,hdr,hk,hf,hm,hw,hv,h1,h2⟩:=hI.ex
   have hr:rest=[]:=List.map_eq_nil_iff.mp hds.symm;subst hr;have hw':fnd=lw [] (qS l):=by rw[<- hw];simp[lw]
   obtain⟨d,e1,e2⟩:=EE hf;have ee:fnd.isEmpty=unl l:=by
    rw[Js,Zy,hw',X4];unfold unl;rw[Xs];exact⟨λh=>h.2,λh=>⟨λ_ _ _ h=>(by cases h),h⟩⟩
   rw[ee] at e2;refine HL (d:=d) (S:=S') ?_ ⟨t9 hm,e2⟩;show (mF (q8 (q9 2) (qA)) (dC .non) [Ab (.tup (l.map ptD)),Ab (.loc S.length),Ab (.loc (S.length+1)),e3,e4,e5] S').toS _ _=_;have:mF (q8 (q9 2) (qA)) (dC .non) [Ab (.tup (l.map ptD)),Ab (.loc S.length),Ab (.loc (S.length+1)),e3,e4,e5] S'=mnD [.loc (S.length+1)] .non S':=rfl;rw[this,e1];rfl
  .simp
  .simp
  .rw[Ch,Bl hm]
 obtain⟨d,S',e,hp⟩:=key;refine⟨d,S',?_,hp⟩;rw[yW];exact W5 rfl e
theorem YQ (p q:Pt):far p q=far q p:=by
 unfold far
 grind
theorem lL:∀ {l m:Aa Pt},l.Perm m->(fars l).Perm (fars m):=by
 have key:∀ {l m:Aa Pt},l.Perm m->∀ p:Pt,(l.map λq=>far p q).Perm (m.map λq=>far p q):=λh p=>h.map _;have cons:∀ (p:Pt) (l:Aa Pt),fars (p::l)=(l.map λq=>far p q)++fars l:=λp l=>by
  show ((l.map λq=>(p,q))++qS l).map qH=_;rw[Dr,Eh];rfl
 intro l m h
 induction h with
 |nil=>exact .refl _
 |cons x h ih =>
  rw[cons,cons];exact(key h x).append ih
 |swap x y l =>
  rw[cons,cons,cons,cons];show ((far y x::l.map λq=>far y q)++((l.map λq=>far x q)++fars l)).Perm ((far x y::l.map λq=>far x q)++((l.map λq=>far y q)++fars l));rw[YQ y x];refine List.Perm.cons _ ?_;show ((l.map λq=>far y q)++((l.map λq=>far x q)++fars l)).Perm ((l.map λq=>far x q)++((l.map λq=>far y q)++fars l));rw[<- Ch,<- Ch];exact Jl.append_right _
 |trans _ _ i1 i2=>exact i1.trans i2
theorem jQ (p:Pt)(l:Aa Pt):fars (p::l)=(l.map λq=>far p q)++fars l:=by
 show ((l.map λq=>(p,q))++qS l).map qH=_;rw[Dr,Eh];rfl
theorem YR:∀ {a b:Aa Pt},a.Sublist b->(fars a).Sublist (fars b):=by
 intro a b h
 induction h with
 |slnil=>exact .refl _
 |cons x h ih =>
  rw[jQ];exact ih.trans (Si _ _)
 |cons_cons x h ih =>
  rw[jQ,jQ];exact(h.map _).append ih
theorem uK (l:Aa Pt):unl l=true↔(fars l).Nodup:=by unfold unl;exact Xs
theorem L3 (l:ps.length<=100000)(h:Q (.lst ((u3 ps).map ptD)) S):Ok (uG [.tup (ps.map ptD)] S) Q:=by
 refine⟨_,_,?_,h⟩;show (match (Ab (ps.map ptD)).bind vM with|some ys=>Res.ok (D.lst ys) S|none=>.bad)=_
 rw[Tf,UP ps l]
theorem rK (z:Al (PP × PP))(S:Sto):gIs (flD z) .non S=.ok (.bl z.isNone) S:=by cases z <;> rfl
theorem GR (z:Al (PP × PP))(S:Sto):pV (flD z) .non S=.ok (.bl (!z.isNone)) S:=by cases z <;> rfl
theorem NZ (hb:∀ x∈ps,InB 1000 x)(hl:ps.length<=7)(hne:ps≠[]){S:Sto}(q:∀ l S',S<+:S'->Lot 7 l->(fars l).Nodup->Q (qT l) S'):Ok (S__law_kept [.lst (ps.map ptD)] S) Q:=by
 rw[kG];refine zC (env:=[Ab (.lst (ps.map ptD)),none,none,none]) rfl ?_;rfl';refine wX (λr env S'=>∃ l e2 e3 done,env=[Ab (.lst (ps.map ptD)),Ab (.tup (l.map ptD)),e2,e3]/\S<+:S'/\done++r=ps/\l.length<=done.length/\(∀ x∈l,InB 1000 x)/\Up l/\(fars l).Nodup/\(done≠[]->l≠[])) ?_ ?_ ⟨[],_,_,[],rfl,Be _,rfl,Av _,(λ_ h=>by cases h),.nil,Hl,λz=>absurd rfl z⟩
 .rintro p r _ S' ⟨l,e2,e3,done,rfl,hp,hd,hle,hbx,hu,hn,hz⟩
  have hdl:done.length<7:=by
   have:=congrArg Fy hd;rw[Aw,AT] at this
   lia
  have hpb:InB 1000 p:=hb p (by rw[<- hd];exact Bu _ (.head _))
  have hab:∀ x∈l++[p],InB 1000 x:=λx hx=>by
   rcases Bz.mp hx with hx|hx
   .exact hbx x hx
   .rw[Ci.mp hx];exact hpb
  rfl';refine jC (by rw[Ak];unfold lim;simp only[AT,Cd];lia) ?_
  rw[show l.map ptD++[ptD p]=(l++[p]).map ptD by rw[Dr];rfl]
  rfl';refine L3 (by rw[Aw,Dz];lia) ?_
  rfl';refine NW ?_;rfl';refine qN (rV l p S') ?_;rfl';refine⟨λe=>?_,λe=>?_⟩
  .have hpl:p ∉ l:=by simpa using e
   have nd:(l++[p]).Nodup:=Jw.mpr ⟨sG hu,Hi _ _,λa ha b hb z=>hpl (by rw[Ci.mp hb] at z;rw[<- z];exact ha)⟩
   have L:Lot 40 (u3 (l++[p])):=EB (by simp) (by rw[Aw,Dz];lia) nd hab
   obtain⟨_,S1,e1,p1,e2⟩:=UC _ L S';rfl';refine qN e1 ?_;rfl';refine qN e2 ?_;cases hf:unl (u3 (l++[p])) with
   |true =>
    rfl';refine yL ⟨u3 (l++[p]),_,_,done++[p],rfl,hp.trans p1,by rw[<- hd];simp,?_,L.box,L.up,(uK _).mp hf,λ_=>L.ne⟩
    rw[(jU _).length_eq,Aw,Aw];simpa using hle
   |false =>
    rfl';refine yL ⟨l,_,_,done++[p],rfl,hp.trans p1,by rw[<- hd];simp,by rw[Aw];lia,hbx,hu,hn,λ_ z2=>?_⟩
    subst z2;have:unl (u3 ([] ++ [p]))=true:=(uK _).mpr ((lL (jU _)).nodup_iff.mpr Hl);rw[this] at hf;cases hf
  .have hpl:p∈l:=by simpa using e
   rfl';exact yL ⟨l,_,_,done++[p],rfl,hp,by rw[<- hd];simp,by rw[Aw];lia,hbx,hu,hn,λ_ z=>by rw[z] at hpl;cases hpl⟩
 .rintro _ S' ⟨l,e2,e3,done,rfl,hp,hd,hle,hbx,hu,hn,hz⟩
  have hd:done=ps:=by simpa using hd
  subst hd;rfl';exact q l S' hp ⟨hz hne,Df hle hl,hu,hbx⟩ hn
theorem ZE:∀ {A B:Aa PP} {x y:PP},fl (A++B)=Ab (x,y)->x∈A\/fl B=Ab (x,y)
 |[],B,x,y,h=>.inr h
 |a::A,B,x,y,h=>by
  have h:(match (A++B).find? (λz=>qH z == qH a) with|some z=>Ab (a,z)|none=>fl (A++B))=Ab (x,y):=h
  cases q:(A++B).find? (λz=>qH z == qH a) with
  |some z =>
   rw[q] at h;injection h with h
   injection h with h _
   exact .inl (by rw[h];exact .head _)
  |none =>
   rw[q] at h;rcases ZE h with h|h
   .exact .inl (.tail _ h)
   .exact .inr h
theorem rO:∀ {l:Aa Pt} {x y:PP},Up l->fl (qS l)=Ab (x,y)->fl (qS (l.filter λp=>!ltP p x.1))=Ab (x,y)
 |[],x,y,_,h=>by cases h
 |p::r,x,y,u,h=>by
  obtain⟨u1,u2⟩:=Dw.mp u;rcases ZE (A:=r.map λq=>(p,q)) (B:=qS r) h with hx|hx
  .obtain⟨q,hq,rfl⟩:=Br.mp hx
   rw[Kq.mpr λz hz=>?_]
   .exact h
   .rcases Az.mp hz with rfl|hz
    .rw[bP];rfl
    .rw[rS (u1 z hz)];rfl
  .have hm:=(iR (R:=λ_ _=>Pc) (List.pairwise_of_forall λ_ _=>trivial) hx).2.2.1
   have:=u1 _ (uT hm).1;rw[List.filter_cons_of_neg (by rw[this];simp)]
   exact rO u2 hx
theorem bL:∀ (ps l:Aa Pt),∃ t,zY l ps=l++t/\t.Sublist ps/\((fars l).Nodup->(fars (zY l ps)).Nodup)/\∀ p∈ps,p∈zY l ps\/unl (zY l ps++[p])=false
 |[],l=>⟨[],(Fq _).symm,.refl _,id,λ_ h=>by cases h⟩
 |p::ps,l=>by
  unfold zY;cases e:unl (l++[p]) with
  |true =>
   obtain⟨t,h1,h2,h3,h4⟩:=bL ps (l++[p]);refine⟨p::t,by rw[Bd rfl,h1];simp,h2.cons₂ _,λ_=>h3 ((uK _).mp e),λx hx=>?_⟩
   rcases Az.mp hx with rfl|hx
   .left
    rw[Bd rfl,h1];simp
   .exact h4 x hx
  |false =>
   obtain⟨t,h1,h2,h3,h4⟩:=bL ps l;refine⟨t,h1,h2.cons _,h3,λx hx=>?_⟩;rcases Az.mp hx with rfl|hx
   .right
    show unl (zY l ps++[x])=false;rw[h1,Bool.eq_false_iff];intro z;have s:(l++[x]).Sublist (l++t++[x]):=by
     rw[Ch];exact List.Sublist.append (.refl _) (Si _ _)
    have:=(uK _).mpr (((uK _).mp z).sublist (YR s));rw[this] at e;cases e
   .exact h4 x hx
theorem WN {w h:Ai}(hw:1<=w)(hh:1<=h):∃ r,qU w h=(0,0)::r:=by
 obtain⟨w,rfl⟩:∃ k,w=k+1:=⟨w-1,by lia⟩
 obtain⟨h,rfl⟩:∃ k,h=k+1:=⟨h-1,by lia⟩
 unfold qU;rw[Ja (n:=w),Ja (n:=h)];exact⟨_,rfl⟩
theorem YS {w h:Ai}(hw:1<=w/\w<=6)(hh:1<=h/\h<=6):Lot 36 (zY [] (qU w h))/\(∃ t,zY [] (qU w h)=(0,0)::t)/\(fars (zY [] (qU w h))).Nodup/\∀ p∈qU w h,p∈zY [] (qU w h)\/unl (zY [] (qU w h)++[p])=false:=by
 obtain⟨t,h1,h2,h3,h4⟩:=bL (qU w h) [];obtain⟨r,hr⟩:=WN hw.1 hh.1;have hd:∃ t,zY [] (qU w h)=(0,0)::t:=by
  rw[hr];have e:zY [] ((0,0)::r)=zY [(0,0)] r:=rfl;rw[e];obtain⟨t,h1,_⟩:=bL r [(0,0)];exact⟨t,h1⟩
 have hs:(zY [] (qU w h)).Sublist (qU w h):=by rw[h1];exact h2
 refine⟨⟨?_,?_,(WO w h).sublist hs,λq hq=>uV li li (hs.subset hq)⟩,hd,h3 Hl,h4⟩
 .obtain⟨t,e⟩:=hd
  rw[e];simp
 .refine Df hs.length_le ?_
  rw[vN];exact Hn hw.2 hh.2
theorem EF (a b:Ar)(S:Sto):gNe (.bl a) (.bl b) S=.ok (.bl (a != b)) S:=by cases a <;> cases b <;> kernel_rfl!
theorem JD (a b:Ar)(S:Sto):gEq (.bl a) (.bl b) S=.ok (.bl (a == b)) S:=by cases a <;> cases b <;> kernel_rfl!
theorem AE (z:PP × PP)(S:Sto):gEq (qD z) (qD z) S=.ok (.bl true) S:=by
 have e:eqD (qD z) (qD z)=true:=by
  show (eqD (ptD z.1.1) (ptD z.1.1)&&(eqD (ptD z.1.2) (ptD z.1.2)&&(eqD (ptD z.2.1) (ptD z.2.1)&&(eqD (ptD z.2.2) (ptD z.2.2)&&true))))=true;simp[pT]
 unfold gEq;show (if (pl zS (qD z)&&pl zS (qD z))=true then Res.ok (D.bl (eqD (qD z) (qD z))) S else .bad)=_
 rw[e];exact Bd rfl
theorem E2 (p q:Pt)(S:Sto):rG (ptD p) (ptD q) S=.ok (.bl (!ltP p q)) S:=rfl
theorem F6 (l:Aa Pt):decide (((sg (fars l):Ai):An)=(l.length:An)*((l.length:An)-1)/2)=(fl (qS l)).isNone:=by
 rw[tL,Js,Cq,Sj,pU,<- HS]
 lia
theorem aG (c:Cl){l:Aa Pt}(h:Lot 16 l){p:Ai}{S:Sto}(pp:yG S p)(q:∀ S',yG S' p->Q (.bl true) S'):Ok (S__law_like_right c [.loc p,qT l] S) Q:=by
 have hl:=h.len;have sq:=F6 l;rw[yX];refine zC (env:=[Ab (.loc p),Ab (.tup (l.map ptD)),none,none,none,none]) rfl ?_;rfl';refine b0 c li h λS1 p1=>?_;rfl';refine qN (rK _ S1) ?_;rfl';refine XJ c li h λns S2 hns p2=>?_;rfl';rw[Ak,Ak,hns];rfl';refine qN (EF _ _ S2) ?_;rw[sq,Za];have pp2:=yA (yA pp p1) p2;rfl';refine qN (rK _ S2) ?_;cases hf:fl (qS l) with
 |none =>
  have nd:=(pU l).mp hf;rw[Xt];rfl';refine bR (w:=30) li pp2 λx S3 k3 hx=>?_;have hxb:InB 1000 x:=by unfold Bx at hx;unfold InB;lia
  have hab:∀ z∈l++[x],InB 1000 z:=λz hz=>by
   rcases Bz.mp hz with hz|hz
   .exact h.box z hz
   .rw[Ci.mp hz];exact hxb
  rfl';refine L4 ?_;rfl';refine jC (by rw[Ak];unfold lim;simp only[AT,Cd];lia) ?_
  rw[show l.map ptD++[ptD x]=(l++[x]).map ptD by rw[Dr];rfl]
  refine⟨l++[x],rfl,by rw[Aw,Dz];lia,?_⟩
  rfl';refine XG c li h nd hxb λS4 p4=>?_;rfl';refine jT ?_;rfl';refine qN (rV l x S4) ⟨_,rfl,λe=>?_,λe=>?_⟩
  .have hxl:x ∉ l:=by simpa using e
   have ndl:(l++[x]).Nodup:=Jw.mpr ⟨sG h.up,Hi _ _,λa ha b hb z=>hxl (by rw[Ci.mp hb] at z;rw[<- z];exact ha)⟩
   have pm:(vZ (l++[x])).Perm (l++[x]):=(Rc (sG (nW _)) ndl).mpr λz=>fY _ z;have L:Lot 17 (vZ (l++[x])):=⟨λz=>(by have:=pm.length_eq;rw[z] at this;simp at this),by rw[pm.length_eq,Aw,Dz];lia,nW _,λz hz=>hab z (pm.mem_iff.mp hz)⟩
   have eu:(fl (qS (vZ (l++[x])))).isNone=unl (l++[x]):=by
    rw[Js,Sj,pU,uK];exact(lL pm).nodup_iff
   rfl';refine b0 c li L λS5 p5=>?_;rfl';refine qN (rK _ S5) ?_;rw[eu];refine qN (JD _ _ S5) ?_;rw[e,Ou,Gk];rfl';exact q S5 (yA (yA k3.pen p4) p5)
  .rw[e,Hj]
   refine qN (JD _ _ S4) ?_;rfl';exact q S4 (yA k3.pen p4)
 |some z =>
  obtain⟨a,b⟩:=z;obtain⟨hq,hfar,ma,mb⟩:=iR (c8 h.up) hf;have a1:=uT ma;have b1:=uT mb;have hfar:far a.1 a.2=far b.1 b.2:=hfar;rw[Option.isNone_some];rfl';refine uD ?_;rfl';refine JS c li h a1.1 a1.2 b1.1 b1.2 (bC h.up ma) (bC h.up mb) ?_;rw[show ltQ (a.1,a.2) (b.1,b.2)=true from hq,hfar,Cp rfl]
  rfl';refine qN (d:=.bl false) (S:=S2) rfl ?_;rfl';refine⟨λe=>(by cases e),λ_=>?_⟩
  rfl';refine qN (d:=.tup [ptD b.1,ptD b.2]) (S:=S2) rfl ?_;rfl';refine qN (d:=.tup [ptD a.1,ptD a.2]) (S:=S2) rfl ?_;refine jC (Oy rfl) ?_;rfl';refine JS c li h b1.1 b1.2 a1.1 a1.2 (bC h.up mb) (bC h.up ma) ?_;rw[show ltQ (b.1,b.2) (a.1,a.2)=false from NQ hq,Hj]
  rfl';refine qN (d:=.bl false) (S:=S2) rfl ?_;rfl';refine qN (cG (xs:=l) (enc:=ptD) (o:=none) (o8 rfl) trivial (λx=>!ltP x a.1) ptD (λenv=>∃ w,env=[w,Ab (qD (a,b))]) ⟨none,rfl⟩ (by unfold lim;lia) λx hx env ⟨w,e⟩=>?_) ?_
  .subst e
   refine⟨_,rfl,⟨_,rfl⟩,bD (xK ?_),λ_=>rfl⟩;unfold qD;rfl';refine oI (d:=ptD a.1) (fK (a:=0) (by simp)) ?_
   exact qN (E2 x a.1 S2) ⟨rfl,rfl⟩
  .have hle:=rO h.up hf
   have hm:a.1∈l.filter λx=>!ltP x a.1:=Jp.mpr ⟨a1.1,by rw[bP];rfl⟩
   have L:Lot 16 (l.filter λx=>!ltP x a.1):=⟨λz=>(by rw[z] at hm;cases hm),Df (Ib _ _) hl,h.up.sublist List.filter_sublist,λx hx=>h.box x (Jp.mp hx).1⟩
   rfl';refine b0 c li L λS5 p5=>?_;rw[hle];rfl';refine qN (AE (a,b) S5) ?_;rfl';exact q S5 (yA pp2 p5)
theorem VP (c:Cl){W H:An}(hw:1<=W/\W<=6)(hh:1<=H/\H<=6){S:Sto}(q:∀ S',S<+:S'->Q (.bl true) S'):Ok (S__law_board_right c [.int W,.int H] S) Q:=by
 obtain⟨L,⟨t,ht⟩,nd,hno⟩:=YS (w:=W.toNat) (h:=H.toNat) li li;have hin:∀ p∈qU W.toNat H.toNat,InB 1000 p:=λp hp=>uV li li hp;generalize hfl:zY [] (qU W.toNat H.toNat)=l at *;have h0:_L.atI (l.map ptD) 0=Ab (ptD (0,0)):=by
  rw[ht,De];exact fK (a:=0) (by simp)
 rw[yQ];refine zC (env:=[Ab (.int W),Ab (.int H),none,none,none]) rfl ?_;rfl';refine rX c hw hh λS1 p1=>?_;rw[hfl];unfold qT;rfl';refine uD ?_;rfl';refine qN (eB (t8 l) S1) ?_;rw[gK (M:=36) li L];rfl';refine qN (d:=.bl false) (S:=S1) rfl ?_;rfl';refine⟨λe=>(by cases e),λ_=>?_⟩
 refine uD ?_;rfl';refine oI h0 ?_;rfl';refine qN (d:=.bl false) (S:=S1) (by kernel_rfl!) ?_
 rfl';refine⟨λe=>(by cases e),λ_=>?_⟩
 rfl';refine b0 c (M:=36) li L λS2 p2=>?_;rw[(pU l).mpr nd];rfl';refine qN (GR none S2) ?_;rw[Xt];rfl';refine⟨by lia,by lia,?_⟩
 refine wX (λr env S'=>S<+:S'/\(∀ i∈r,i<W.toNat)/\∃ e3 e4,env=[Ab (.int W),Ab (.int H),Ab (.tup (l.map ptD)),e3,e4]) ?_ ?_ ⟨p1.trans p2,λi hi=>Do.mp hi,_,_,rfl⟩
 .rintro i r _ S3 ⟨p3,hi,e3,e4,rfl⟩
  have hiw:=hi i (.head _);rfl';refine⟨by lia,by lia,?_⟩
  refine wX (λr2 env S'=>S<+:S'/\(∀ j∈r2,j<H.toNat)/\∃ e4,env=[Ab (.int W),Ab (.int H),Ab (.tup (l.map ptD)),Ab (.int (i:An)),e4]) ?_ ?_ ⟨p3,λj hj=>Do.mp hj,_,rfl⟩
  .rintro j r2 _ S4 ⟨p4,hj,e4,rfl⟩
   have hjh:=hj j (.head _);have hb:((i:An),(j:An))∈qU W.toNat H.toNat:=lC.mpr ⟨by dsimp only;lia,by dsimp only;lia,by dsimp only;lia,by dsimp only;lia⟩
   have hz:(!decide (((i:An),(j:An))∈l)&&unl (l++[((i:An),(j:An))]))=false:=by
    rcases hno _ hb with h|h
    .rw[Cp h];rfl
    .rw[h,Qk]
   rfl';refine XG c (M:=36) li L nd (p:=((i:An),(j:An))) (hin _ hb) λS5 p5=>?_;rw[hz];rfl';refine qN (d:=.bl false) (S:=S5) rfl ?_;rfl';exact yL ⟨p4.trans p5,λk hk=>hj k (.tail _ hk),_,rfl⟩
  .rintro _ S4 ⟨p4,_,e4,rfl⟩
   exact yL ⟨p4,λk hk=>hi k (.tail _ hk),_,_,rfl⟩
 .rintro _ S3 ⟨p3,_,e3,e4,rfl⟩
  rfl';exact q S3 p3
theorem HY:∀ w<4,∀ h<4,tpN (w+1) (h+1)<=9:=kd
def IvL (ns:Aa An)(_:Aa An)(env:qB)(_:Sto):Prop:=∃ e1 e2 e3 e4 e5 e6 e7 e8,env=[Ab (.lst (ns.map D.int)),e1,e2,e3,e4,e5,e6,e7,e8]
theorem VC (c:Cl)(nd:(iK c).Nodup)(ns:Aa An)(hl:ns.length<=63):∃ S,qL 9 (b_law c) [.lst (ns.map D.int)] [] = .ok (.bl true) S:=by
 have key:Ok (qL 9 (b_law c) [.lst (ns.map D.int)] []) λd _=>d=.bl true:=by
  refine zC (env:=[Ab (.lst (ns.map D.int)),none,none,none,none,none,none,none,none]) rfl ?_;unfold b_law;array_get_dec;refine C8 (BV ns hl 4 rfl λms=>?_);refine wX (IvL ns) ?_ ?_ ⟨_,_,_,_,_,_,_,_,rfl⟩
  .rintro y xs _ S ⟨e1,e2,e3,e4,e5,e6,e7,e8,rfl⟩
   rfl';refine EM λp S0 p0=>?_;rfl';refine EK p0 λl S1 pp1 L=>?_;rfl';refine aG c L pp1 λS2 pp2=>?_;rfl';refine aF (enc:=λ(i:Ai)=>D.int (i:An)) (o:=none) (Cz 7) (λd=>∃ x,d=ptD x/\InB 1000 x) (λenv S'=>yG S' p/\∃ z,env=[z,Ab (.loc p)]) (AM li) ⟨pp2,none,rfl⟩ (by rw[Fk];unfold lim;lia) (λ_ _ _=>trivial) (λx hx env S' ⟨e1,z,e2⟩=>?_) λds env S3 hds hR ⟨pp3,_⟩=>?_
   .subst e2
    rfl';refine bR (w:=9) li e1 λy S7 k7 hy=>?_;unfold Bx at hy;exact⟨⟨y,rfl,by unfold InB;lia⟩,k7.pen,_,rfl⟩
   obtain⟨ps,rfl,hb⟩:=kR hR;rw[Ak,Fk] at hds;rfl';refine NZ hb li (λz=>by rw[z] at hds;cases hds) λl2 S4 p4 Lq nd2=>?_
   have hl2:=Lq.len;have L16:Lot 16 l2:=⟨Lq.ne,by lia,Lq.up,Lq.box⟩
   have pp4:=yA pp3 p4;unfold qT;rfl';refine uD ?_;rfl';refine L0 c (M:=16) li L16 λS5 p5=>?_;rfl';rw[Ak];rfl';rw[a9 nd2,tL];refine⟨λe=>(by simp at e),λ_=>?_⟩
   rfl';refine aG c L16 (yA pp4 p5) λS6 pp6=>?_;rfl';refine yE pp6 li λa S7 k7 h7=>?_;rfl';refine yE k7.pen li λb S8 k8 h8=>?_;rfl';refine VP c (W:=1+(a:An)) (H:=1+(b:An)) li li λS9 p9=>?_;rfl';refine yE (yA k8.pen p9) li λw S10 k10 h10=>?_;rfl';refine yE k10.pen li λh S11 k11 h11=>?_;rfl';obtain⟨W,eW,hW⟩:∃ W:An,1+(w:An)=W/\1<=W/\W<=4:=⟨_,rfl,by lia,by lia⟩
   obtain⟨H,eH,hH⟩:∃ H:An,1+(h:An)=H/\1<=H/\H<=4:=⟨_,rfl,by lia,by lia⟩
   rw[eW,eH];have T:=tpT (w:=W.toNat) (h:=H.toNat) li li;have T8:tpN W.toNat H.toNat<=9:=by
    have:=HY (W.toNat-1) li (H.toNat-1) li
    rwa [show W.toNat-1+1=W.toNat by lia,show H.toNat-1+1=H.toNat by lia] at this
   refine L5 c hW hH λS12 p12 t0=>?_;rfl';refine XH c hW hH λS13 p13=>?_;rfl';refine uD ?_;rfl';refine rX c li li λS14 p14=>?_;unfold qT;rfl';rw[Ak];have hfil:=T.fil;refine⟨λe=>absurd (Ct e) li,λ_=>?_⟩;rfl';refine XH c hH hW λS15 p15=>?_;rw[T.sym];rfl';refine vB (λ_=>?_) λz=>absurd rfl z;rfl';refine wX (enc:=qT) (λr env S'=>(∀ l∈r,l∈fN (qU W.toNat H.toNat) (tpN W.toNat H.toNat-1))/\∃ e8,env=[Ab (.lst (ns.map D.int)),Ab (.int y),Ab (.loc p),Ab (.tup (l2.map ptD)),Ab (.int W),Ab (.int H),Ab (.lst ((fN (qU W.toNat H.toNat) (tpN W.toNat H.toNat-1)).map λl=>D.tup (l.map ptD))),Ab (.int (tpN W.toNat H.toNat:Ai)),e8]) ?_ ?_ ⟨λ_ h=>h,_,rfl⟩
   .rintro l r _ S16 ⟨hr,e8,rfl⟩
    obtain⟨f1,f2,f3,f4⟩:=kL _ (hr l (.head _));have f1:l.length=tpN W.toNat H.toNat:=by lia
    have hc:((tpN W.toNat H.toNat:Ai):An)*(((tpN W.toNat H.toNat:Ai):An)-1)/2=((fars l).length:An):=by rw[<- f1];exact tL l
    have Ll:Lot 40 l:=⟨λz=>(by rw[z] at f1;simp only[Cd] at f1;lia),by lia,f4,λx hx=>uV li li (f2 x hx)⟩
    unfold qT;rfl';refine uD ?_;rfl';rw[Ak,f1];refine⟨λe=>(by simp at e),λ_=>?_⟩
    rfl';refine XF c (Av _) Ll λS17 p17=>?_;rfl';rw[Ak,Ak,show (tbl (fars l)).length=(kys (fars l)).length from (_S.xG _).length_eq.trans (Ak _),a9 f3,hc]
    refine vB (λ_=>?_) λz=>absurd rfl z;rfl';exact yL ⟨λk hk=>hr k (.tail _ hk),_,rfl⟩
   .rintro _ S16 ⟨_,e8,rfl⟩
    exact yL ⟨_,_,_,_,_,_,_,_,rfl⟩
  .rintro _ S ⟨e1,e2,e3,e4,e5,e6,e7,e8,rfl⟩
   rfl';rfl
 obtain⟨d,S,e,rfl⟩:=key;exact⟨S,e⟩
end _K
namespace _K
open PySem PySem.Spec PyProof.Rows _L _D
theorem P9 {P:Bg}{w:Ca}{K:Aj}{mg:Au->Al Ac}{base:Bw}{c:Cl}(T:Txt K mg c)(nd:(iK c).Nodup)(hT:(NM.all λy=>(Ep K y).isSome)=true):∃ F,sH P w K mg base true 10 "law" ["_law_script"] F/\∀ ns:Aa An,ns.length<=63->∃ S,F [.lst (ns.map D.int)] [] = .ok (.bl true) S:=by
 refine hv (λ_=>?_) (dq (cm:=true) P w base 0 0 T rfl ck (u4) ?_);refine hv (λ_=>?_) (dq (cm:=true) P w base 0 1 T rfl ck (mC) ?_);refine hv (λ_=>?_) (dq (cm:=true) P w base 0 2 T rfl ck (pF) ?_);refine hv (λ_=>?_) (dq (cm:=true) P w base 1 3 T rfl ck (kJ) ?_);refine hv (λ_=>?_) (dq (cm:=true) P w base 0 4 T rfl ck (kI) ?_);refine hv (λ_=>?_) (dq (cm:=true) P w base 2 5 T rfl ck (uQ c) ?_);refine hv (λ_=>?_) (dq (cm:=true) P w base 2 6 T rfl ck (pE) ?_);refine hv (λ_=>?_) (dq (cm:=true) P w base 3 7 T rfl ck (bZ) ?_);refine hv (λ_=>?_) (dq (cm:=true) P w base 3 8 T rfl ck (jN c) ?_);refine hv (λ_=>?_) (dq (cm:=true) P w base 4 9 T rfl ck (pG c) ?_);refine hv (λ_=>?_) (dq (cm:=true) P w base 0 10 T rfl ck (uM) ?_);refine hv (λ_=>?_) (dq (cm:=true) P w base 1 11 T rfl ck (u6) ?_);refine hv (λ_=>?_) (dq (cm:=true) P w base 5 12 T rfl ck (kH c) ?_);refine hv (λ_=>?_) (dq (cm:=true) P w base 6 13 T rfl ck (l5 c) ?_);refine hv (λ_=>?_) (dq (cm:=true) P w base 5 14 T rfl ck (uN c) ?_);refine hv (λ_=>?_) (dq (cm:=true) P w base 5 15 T rfl ck (jM c) ?_);refine hv (λ_=>?_) (dq (cm:=true) P w base 6 16 T rfl ck (uP c) ?_);refine hv (λ_=>?_) (dq (cm:=true) P w base 2 17 T rfl ck (jL) ?_);refine hv (λ_=>?_) (dq (cm:=true) P w base 7 18 T rfl ck (l6 c) ?_);refine hv (λ_=>?_) (dq (cm:=true) P w base 3 19 T rfl ck (bY c) ?_);refine hv (λ_=>?_) (dq (cm:=true) P w base 3 21 T rfl ck (uR c) ?_);refine hv (λ_=>?_) (dq (cm:=true) P w base 4 20 T rfl ck (uO c) ?_);refine hv (λ_=>?_) (dq (cm:=true) P w base 7 22 T rfl ck (kK c) ?_);refine hv (λ_=>?_) (dq (cm:=true) P w base 6 23 T rfl ck (pM c) ?_);refine hv (λ_=>?_) (dq (cm:=true) P w base 0 24 T rfl ck (kE) ?_);refine hv (λ_=>?_) (dq (cm:=true) P w base 0 25 T rfl ck (pD) ?_);refine hv (λ_=>?_) (dq (cm:=true) P w base 0 26 T rfl ck (kF) ?_);refine hv (λ_=>?_) (dq (cm:=true) P w base 1 27 T rfl ck (jK) ?_);refine hv (λ_=>?_) (dq (cm:=true) P w base 2 28 T rfl ck (pC) ?_);refine hv (λ_=>?_) (dq (cm:=true) P w base 0 29 T rfl ck (pB) ?_);refine hv (λ_=>?_) (dq (cm:=true) P w base 0 30 T rfl ck (jJ) ?_);refine hv (λ_=>?_) (dq (cm:=true) P w base 1 31 T rfl ck (yW) ?_);refine hv (λ_=>?_) (dq (cm:=true) P w base 2 32 T rfl ck (kG) ?_);refine hv (λ_=>?_) (dq (cm:=true) P w base 8 33 T rfl ck (yX c) ?_);refine hv (λ_=>?_) (dq (cm:=true) P w base 8 34 T rfl ck (yQ c) ?_);refine⟨_,dqP 9 35 T rfl ck ?_,VC c nd⟩
 all_goals
  intros
  repeat' first
   |with_reducible exact ck
   |((with_reducible show QE _ _ _);with_reducible first|apply aV|apply DH|apply HA|apply DR|apply DN|apply aBt|apply aGi|apply aO|apply aN|(apply aB;first|apply CK|apply CJ|apply CC|apply J2)|(apply aT;first|apply FT|apply CI)|apply aC|apply DU|apply DM|apply BH|apply DJ|apply HB|apply U3|apply HC|apply DB|apply U1|apply DP|apply HD|apply DQ|apply D9|apply BG|apply DD|apply DC|apply hX|apply BI|(apply JX;(case slot=>apply Px);(case' hm=>first|apply J0))|(apply JX;(case slot=>apply PySem.F.slot_list_append);(case' hm=>first|apply UY)))
   |((with_reducible show _=_);first|exact T.nb ck|with_reducible apply Ks|with_reducible apply Tw|with_reducible apply Qf|with_reducible apply Sv|exact pZ _|exact rfl|with_unfolding_all rfl)
   |((with_reducible show ZOp _ _ _);with_reducible first|apply CB|apply CT|apply CO|apply CD|apply CN|apply CQ|apply IS|apply IR|apply IL|apply IK|apply IJ|apply IT|apply UZ|apply IP|apply FR|apply CL|apply CM|apply CF|apply CG|apply CH|apply IM|apply FS)
   |((with_reducible show RoomC _ _ _);first|assumption|exact RoomC.mono (by assumption)|exact RoomC.mono (RoomC.any (by assumption))|exact RoomC.mark (by assumption) _|exact RoomC.mono (RoomC.mark (by assumption) _))
   |((with_reducible show St1 _ _ _ _);exact⟨rfl,rfl⟩)
   |((with_reducible show DfS _ _ _ _ _ _ _ _ _ _);assumption)
   |with_reducible first|apply D8|apply XW|apply aJ|apply BD|apply D7|apply BP|apply BQ|apply BN|apply SC|apply SM|apply SL|apply UA|(apply HG;first|apply aK|apply W0|apply XZ|apply JY)|apply SN|apply aK|apply W0|apply XZ|apply JY|apply aNm|apply DX|apply DW|apply U4|apply BK|apply SA|apply U6|apply SB|apply BL|apply BM|apply U5|apply DZ|apply DY|apply BS|apply UB|apply BO|apply HE|apply SJ|apply HF|apply BR|apply SH|apply U9|apply SG|apply aAu|apply aP2|apply aRs|apply CP|apply IQ|apply FQ|apply CS|apply E4|apply Ks|apply Tw|apply Qf|apply Sv
   |((with_reducible apply aCs);case hsw=>exact rfl)
   |((with_reducible apply aSt);case hs=>exact rfl)
   |with_reducible apply SD
   |exact T.rz (by kernel_rfl)
   |exact T.gi (by kernel_rfl)
   |((with_reducible show ClA _ _ _ _);first|assumption|exact ClA.tr (by assumption))
   |((with_reducible show LmX _ _ _ _ _ _ _ _ _ _);assumption)
   |((with_reducible show DfL _ _ _ _ _ _ _ _ _ _ _ _ _);assumption)
   |((with_reducible show LmK _ _);refine lmK hT (by assumption) ?_ rfl)
   |((with_reducible show ZF _ _ _ _);first|apply aFn|apply aFn0)
   |exact λ_=>⟨rfl,rfl,rfl⟩
   |(intro h;cases h;done)
   |((with_reducible show ZPass _);first|assumption|exact FW)
   |exact⟨rfl,rfl⟩
   |exact⟨rfl,rfl,rfl⟩
   |apply XW
   |apply aJ
   |decide
   |(intros;rfl)
   |(intro _ h;cases h <;> rfl)
   |intro _
end _K
namespace _K
open PySem PySem.Spec PyProof.Rows _L _D
variable {K:Aj}
theorem bdf:BdF top tab:=by
 repeat (refine⟨?_,?_⟩;(intro _ _ _ _ _ _ us h;first|(obtain⟨_,rfl⟩:=us1 h;rfl)|(obtain⟨_,_,rfl⟩:=us2 h;rfl)|(obtain⟨_,_,_,rfl⟩:=us3 h;rfl)))
 exact trivial
theorem RJ {C0 C1 C2 C3 C4:Af}(q0:Et K Di "FarError" = Ab (Ab (.ref C0)))(q1:Et K Di "NoPoint" = Ab (Ab (.ref C1)))(q2:Et K Di "NoLot" = Ab (Ab (.ref C2)))(q3:Et K Di "NoNumber" = Ab (Ab (.ref C3)))(q4:Et K Di "Alike" = Ab (Ab (.ref C4))):i7 K (clt ⟨C0,C1,C2,C3,C4⟩):=⟨q0,q1,q2,q3,q4,trivial⟩
theorem RK {k0 k1 k2 k3 k4:Ti}(g0:Et K Di "LEAST_NUMBER" = Ab (Ab (.int (-1000) k0)))(g1:Et K Di "MOST_NUMBER" = Ab (Ab (.int (1000) k1)))(g2:Et K Di "MOST_POINTS" = Ab (Ab (.int (40) k2)))(g3:Et K Di "MOST_SIDE" = Ab (Ab (.int (4) k3)))(g4:Et K Di "MOST_FILLED_SIDE" = Ab (Ab (.int (12) k4))):i8 K cst:=⟨⟨_,g0⟩,⟨_,g1⟩,⟨_,g2⟩,⟨_,g3⟩,⟨_,g4⟩,trivial⟩
theorem NN {P:Bg}{w:Ca}{mg:Au->Al Ac}{c:Cl}{fa:Af}(T:Txt K mg c)(nd:(iK c).Nodup)(hT:(NM.all λy=>(Ep K y).isSome)=true)(hfa:mg "law" = Ab (.ref fa)) :
  ∃ fd:Fx,(∀ (s:Ag) (v:Ac),Om s fd ⟨[v],[]⟩ [("_law_script",v)])/\∀ base:Bw,K.In base->base.Ns Di mg->FnOk P w K mg base (CXd P w) 10 fa fd ["_law_script"] (sD K):=
 PB (T.src 35 rfl) hfa (λkV doc pm an cdv ct s v=>.of_eq rfl) λbase=>P9 T nd hT
end _K
theorem PySem.W.Fast.tw15460458672236146138 : True := trivial
theorem PySem.W.Fast.tw604631770224459373 : True := trivial
theorem PySem.W.Fast.tw5084621310447265725 : True := trivial
theorem PySem.W.Fast.tw11468988409287639565 : True := trivial
theorem PySem.W.Fast.tw4128748822177798529 : True := trivial
theorem PySem.W.Fast.tw13744862148493736749 : True := trivial
theorem PySem.W.Fast.tw3859987310516500574 : True := trivial
theorem PySem.W.Fast.tw2822550750869867399 : True := trivial
theorem PySem.W.Fast.tw5965486992067564401 : True := trivial
theorem PySem.W.Fast.tw9070659373525210526 : True := trivial
theorem PySem.W.Fast.tw6106858012777328436 : True := trivial
theorem PySem.W.Fast.tw16099766772110893354 : True := trivial
theorem PySem.W.Fast.tw2941993745564129720 : True := trivial
theorem PySem.W.Fast.tw1894882188400294210 : True := trivial
theorem PySem.W.Fast.tw3713826916654075238 : True := trivial
theorem PySem.W.Fast.tw15006400482635100706 : True := trivial
theorem PySem.W.Fast.tw13334256111046542748 : True := trivial
theorem PySem.W.Fast.tw2530353013808680025 : True := trivial
theorem PySem.W.Fast.tw4544009409064573878 : True := trivial
theorem PySem.W.Fast.tw16355889381821504717 : True := trivial
theorem PySem.W.Fast.tw12812896464611021519 : True := trivial
theorem PySem.W.Fast.tw10667877997103685896 : True := trivial
theorem PySem.W.Fast.tw14929369741021691527 : True := trivial
theorem PySem.W.Fast.tw581776977966802656 : True := trivial
theorem PySem.W.Fast.tw11241666969739526772 : True := trivial
theorem PySem.W.Fast.tw12307346904170903999 : True := trivial
theorem PySem.W.Fast.tw1544478337146932533 : True := trivial
theorem PySem.W.Fast.tw8731336489030420082 : True := trivial
theorem PySem.W.Fast.tw1883136782138628688 : True := trivial
theorem PySem.W.Fast.tw10570898393274261937 : True := trivial
theorem PySem.W.Fast.tw7980248783889040634 : True := trivial
theorem PySem.W.Fast.tw2989583163572306200 : True := trivial
theorem PySem.W.Fast.tw6977378150036447062 : True := trivial
theorem PySem.W.Fast.tw7645075723980831302 : True := trivial
theorem PySem.W.Fast.tw8214211765020592052 : True := trivial
theorem PySem.W.Fast.tw7732201065576825409 : True := trivial
theorem PySem.W.Fast.tw1635345337965832245 : True := trivial
theorem PySem.W.Fast.tw13542505711851462381 : True := trivial
theorem PySem.W.Fast.tw17675333737223804391 : True := trivial
theorem PySem.W.Fast.tw9974437146703875574 : True := trivial
theorem PySem.W.Fast.tw9923409218708660630 : True := trivial
theorem PySem.W.Fast.tw14914577644278127238 : True := trivial
theorem PySem.W.Fast.tw11006827667541729130 : True := trivial
theorem PySem.W.Fast.tw7625554826033142094 : True := trivial
theorem PySem.W.Fast.tw4136623562135490487 : True := trivial
theorem PySem.W.Fast.tw12448982591307015022 : True := trivial
theorem PySem.W.Fast.tw283713454192746399 : True := trivial
theorem PySem.W.Fast.tw11887240047793771697 : True := trivial
theorem PySem.W.Fast.tw17734505876609627423 : True := trivial
theorem PySem.W.Fast.tw638954900322934391 : True := trivial
theorem PySem.W.Fast.tw2373938864290204751 : True := trivial
theorem PySem.W.Fast.tw12219493328934897704 : True := trivial
theorem PySem.W.Fast.tw11345965358584075955 : True := trivial
theorem PySem.W.Fast.tw13229315449801620722 : True := trivial
theorem PySem.W.Fast.tw16020133314296595581 : True := trivial
theorem PySem.W.Fast.tw3104138146628770769 : True := trivial
theorem PySem.W.Fast.tw8804598219567416761 : True := trivial
theorem PySem.W.Fast.tw9233836671514335137 : True := trivial
theorem PySem.W.Fast.tw12355247703550857170 : True := trivial
theorem PySem.W.Fast.tw293568329359402141 : True := trivial
theorem PySem.W.Fast.tw8145031170390907593 : True := trivial
theorem PySem.W.Fast.tw16705623727235241820 : True := trivial
theorem PySem.W.Fast.tw13963135643540681166 : True := trivial
theorem PySem.W.Fast.tw2722803699357062314 : True := trivial
theorem PySem.W.Fast.tw12186831664860428368 : True := trivial
theorem PySem.W.Fast.tw14405443759799095271 : True := trivial
theorem PySem.W.Fast.tw15991470862031994821 : True := trivial
theorem PySem.W.Fast.tw5489608987589232375 : True := trivial
theorem PySem.W.Fast.tw10687840810276806523 : True := trivial
theorem PySem.W.Fast.tw8151783220686939097 : True := trivial
theorem PySem.W.Fast.tw7885341162323832475 : True := trivial
theorem PySem.W.Fast.tw17186568332987410422 : True := trivial
theorem PySem.W.Fast.tw9835730505807042061 : True := trivial
theorem PySem.W.Fast.tw14992976345766695501 : True := trivial
theorem PySem.W.Fast.tw5033645335283571691 : True := trivial
theorem PySem.W.Fast.tw305873396398997339 : True := trivial
theorem PySem.W.Fast.tw14294181156288996097 : True := trivial
theorem PySem.W.Fast.tw17055258125133797235 : True := trivial
theorem PySem.W.Fast.tw212675612322905098 : True := trivial
theorem PySem.W.Fast.tw18003500128280347122 : True := trivial
theorem PySem.W.Fast.tw17870470750050004980 : True := trivial
theorem PySem.W.Fast.tw10738086319325809988 : True := trivial
theorem PySem.W.Fast.tw6325682586553426359 : True := trivial
theorem PySem.W.Fast.tw17515446169723013782 : True := trivial
theorem PySem.W.Fast.tw2921302747068560656 : True := trivial
theorem PySem.W.Fast.tw915780940492263288 : True := trivial
open PySem PySem.W PyProof.Rows
set_option maxRecDepth 100000 in
set_option maxHeartbeats 0 in
theorem PySem.Challenge.cw_fewdistances_k33_whole_unlike_lots_holds : PySem.Challenge.rw_fewdistances_k33_whole_unlike_lots.Holds := by
 w_on;o_law;k_head;(case hw=>w_witness2)
 k_fill
 refine _D.CA (l:=PySem.Challenge.rw_fewdistances_k33_whole_unlike_lots) (k:=10) (x:="_law_script") rfl rfl ⟨rfl,by decide,by decide,rfl⟩ (λ_=>by kernel_rfl) (λw h Y=>Y) ?F
 case F =>
  intro w mg fa h KX G hmg
  refine' _K.NN (_D.C5 _K.bdf ?hp rfl KX G ?s ?z (_K.RJ ?q0 ?q1 ?q2 ?q3 ?q4) (_K.RK ?gi0 ?gi1 ?gi2 ?gi3 ?gi4) ?e1 ?e2 ?e3 ?e4 ?e5 ?e6) ?nd ?hT hmg
  (case s=>(repeat (refine' ⟨_D.SrcF.mk ?a ?l ?c ?k,?_⟩;(case a=>k_is);(case l=>k_is);(case c=>k_is);(case k=>k_is)));exact trivial)
  (case z=>rfl)
  (case q0=>k_is)
  (case q1=>k_is)
  (case q2=>k_is)
  (case q3=>k_is)
  (case q4=>k_is)
  (case gi0=>k_is)
  (case gi1=>k_is)
  (case gi2=>k_is)
  (case gi3=>k_is)
  (case gi4=>k_is)
  (case hp=>intro y hy;revert hy;simp;grind)
  (case e1=>rfl)
  (case e2=>rfl)
  (case e3=>rfl)
  (case e4=>rfl)
  (case e5=>rfl)
  (case e6=>rfl)
  (case nd=>decide)
  (case hT=>rfl)
