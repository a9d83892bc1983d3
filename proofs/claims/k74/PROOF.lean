import PyProof.Rows.All
import Wide.All
import OpenK.AllK
import Wide.FinOn
import Lean
import PyProof.EqAt
import PyProof.EqKinds
import PyProof.TupleCall
import KE.KLam
import KE.KTryMore
import KE.KIsAll
import PyProof.NeKinds
import PyProof.Rows.CountFlat
import PyProof.Rows.FStr
import PyProof.ZipIter
import PyProof.EnumMake
import PyProof.EnumStmt
import KE.KDictLaws
import PyProof.DictWalks
import PyProof.Rows.SetFrom
import PyProof.SumWalkG
import PyProof.Rows.SumGenD
import PyProof.SeqI2
import KE.KItemsList
import PyProof.SetKind
import PyProof.TupleKey
import KE.KSortTup
import PyProof.ReprRoads
import PyProof.ReprBulk
import PyProof.TupleOfSeq
import PyProof.WalkInts
import PyProof.SeqI3
import PyProof.Rows.RuleDivmod
import PyProof.ListRange
import KE.KPairComp
import KE.KMinKey
import PyProof.Rows.CallKwBuiltin
import KE.KDictList
import PyProof.DictTruth
import PySem.Challenge.RW_fewdistances_k74_whole_marks
set_option Elab.async false
set_option linter.all false
set_option maxRecDepth 100000
set_option maxHeartbeats 0
set_option tactic.hygienic false
set_option bootstrap.genMatcherCode false
set_option genSizeOf false
set_option compiler.extract_closed false
open Array renaming length_toList->Bg,getElem?_toList->Bk,getElem?_eq_some_iff->Dv,getElem?_eq_getElem->Ec,toList_append->Ed,toList_push->Ei,getD_eq_getD_getElem?->Fb,getD->Ge,size_extract->Iw,toList_extract->IY,toList_reverse->Km,mem_toList_iff->Nw,perm_iff_toList_perm->OP,getElem?_eq_none->Rv,size_map->Ta,append_assoc->Ux,forIn_toList->Vk,toList->Vq,toList_inj->Xq
open BEq renaming rfl->xL
open Bool renaming and_eq_true->Bi,false_eq_true->By,noConfusion->Ee,and_eq_true_iff->Fy,false_and->Gu,true_and->Hn,false_ne_true->Jk,not_true->Js,eq_iff_iff->Lh,not_eq_true'->Mr,and_false->O9,or_eq_true->Rk,not_false->Tc,and_true->Zm,true_or->Zy
open Classical renaming byContradiction->Fk,choose_spec->Jy,choose->Kr
open False renaming elim->Aq
open ForInStep renaming yield->Jp
open Int renaming le_trans->Fn,toNat_natCast->Gx,le_of_lt->Hi,emod_lt_of_pos->Hs,emod_nonneg->IN,le_refl->Lm,not_lt->Ou,eq_ofNat_of_zero_le->Rc,toNat_of_nonneg->Uq,lt_or_gt_of_ne->Vp,emod_eq_of_lt->Wy,zero_add->sK
open List renaming getElem?_eq_getElem->An,length_map->Ao,mem_map->Aw,mem_cons->Ax,length_cons->Bd,size_toArray->Bh,prefix_refl->Bl,getElem?_append_left->Bo,mem_append_right->Bq,getElem?_eq_some_iff->Bw,all_eq_true->Ca,append_assoc->Cc,mem_append->Ce,mem_cons_of_mem->Cg,pairwise_cons->Ch,mem_append_left->Cj,mem_iff_getElem->Cn,getElem?_set_ne->Cs,length_append->Ct,mem_of_getElem?->Cu,mem_singleton->Cw,getElem?_append_right->Dc,range->Dd,map_cons->De,pairwise_map->Di,mem_cons_self->Dl,map_map->Do,pairwise_append->Ds,mem_range->Dt,getElem?_map->Du,not_mem_nil->Eh,getElem?_set_self->Ev,length_take->Fc,length_nil->Fj,map_append->Fl,mem_filter->Fv,filterMap_cons->Fz,length_range->Gf,flatMap_cons->Gy,append_nil->Gz,take_of_length_le->Hd,drop_eq_getElem_cons->Hk,extract_eq_take_drop->Hq,getLastD_cons->Hu,nodup_cons->Hy,find?_cons->Hz,getD->HT,nodup_nil->Iq,length_singleton->Iy,any_cons->IU,pairwise_iff_getElem->IV,getLast_eq_getLastD->Ja,lookup_cons->Je,filter_eq_self->Jg,zip_cons_cons->Jl,range_succ_eq_map->Jq,nil_append->Jv,nodup_append->Jx,perm_append_comm->Kc,length_filter_le->Kh,all_map->Kl,length_drop->Ko,ext_getElem->Ks,mem_flatMap->Kt,reverse_append->Kz,map_drop->Lb,findSome?_cons->Lc,forIn_cons->Lg,foldl_cons->Li,length_zip->Lo,getElem?_take_of_lt->Lq,length_erase_of_mem->Lu,mem_filterMap->Lv,prefix_append->Lw,find?_eq_none->Ly,filter_append->Mb,length_eq_zero_iff->Md,forIn_nil->Ml,drop_eq_nil_of_le->Mz,drop_of_length_le->Nc,lookup->No,all_cons->Nq,take_append_drop->Nv,mem_erase_of_ne->Ny,mem_of_mem_take->Nz,of_mem_zip->Ob,eq_nil_of_length_eq_zero->Oe,map_congr_left->Ov,length_pos_iff->Ow,length->OI,perm_ext_iff_of_nodup->ON,getD_eq_getElem?_getD->OQ,map_id->OR,take_sublist->OX,ext_getElem?->Pe,getElem_take->Pg,getElem_drop->Ph,getElem?_eq_none_iff->Pp,mem_of_find?_eq_some->Pq,getElem_inj->Qe,getElem_mem->Qi,zipIdx_cons->Qk,map_fst_zip->Qn,getElem?_replicate->Qq,any_map->Qt,getElem?_cons_succ->Qw,pairwise_singleton->Ra,find?_cons_of_neg->Rl,pairwise_lt_range->Ro,length_pos_of_mem->Rp,filter_eq_nil_iff->Rx,countP_mono_left->Sk,singleton_append->Sl,pairwise_flatMap->Ss,mem_of_mem_drop->Tl,reverse_reverse->Tp,Nodup->Uf,mem_map_of_mem->Uo,map_take->Ur,sum_cons->Us,lookup_append->Vg,getElem?_drop->Vi,map_filterMap->Vj,map_inj_right->Vn,mergeSort_nil->Vo,map_nil->Vs,foldl_append->Wx,getElem_map->Xl,nodup_range->Xm,filter_cons->Xn,countP_cons->Xp,mem_reverse->Xr,getLast_map->Xv,getLast_mem->Xw,map_flatMap->Xx,zipIdx_nil->Yc,find?_some->Ym,replicate->Yw,take_zero->Za,tail_drop->Zc
open List.Pairwise renaming nil->Mp,imp_of_mem->Pw,filter->wS
open List.Perm renaming append_left->Ho,append_right->Jt,refl->Mn,trans->Og
open Nat renaming le_refl->As,lt_of_lt_of_le->Bc,ne_of_lt->Cq,le_trans->Dh,lt_irrefl->Ek,le_of_lt->Fe,ne_of_gt->Fw,zero_le->Gj,zero_add->Gs,le_add_right->Hm,lt_of_le_of_ne->Ht,lt_trans->Ia,add_le_add_left->Ih,lt_succ_self->Ik,mul_le_mul->Jb,add_sub_cancel_left->Jj,eq_zero_of_not_pos->Ju,le_of_lt_succ->Ka,add_lt_of_lt_sub'->Ke,one_pos->Kg,sub_lt->La,lt_of_le_of_lt->Lx,pos_of_ne_zero->Ma,succ_pos->Me,lt_succ_of_lt->Mv,not_lt->Na,le_antisymm->Oh,mod_lt->Oq,add_right_comm->OG,le_succ->OM,lt_of_succ_lt->Pl,sub_pos_of_lt->Pm,min_self->Qs,add_comm->Qx,add_le_of_le_sub'->Sm,le_of_sub_eq_zero->Sn,add_mul->So,le_of_ble_eq_true->Sr,lt_sub_of_add_lt->Tn,add_le_add_right->To,add_sub_cancel'->Uk,le_of_eq->Vy,sub_self->Vz,add_zero->Wa,lt_trichotomy->Wu,min_eq_right->Xt,mul_add->Xu,min_eq_left->Yl,add_le_add->Yz,add_assoc->Zs,lt_or_ge->f8
open Ne renaming symm->Ft
open Option renaming some->Ab,bind_eq_some_iff->Er,map_eq_some_iff->Ha,isNone_iff_eq_none->Ld,isSome_iff_exists->Lp,getD_some->Qg,bind_some->Qo,map_some->Rq,isSome_some->Vd,getD_none->Xc,none->v6
open Option.some renaming inj->Cz
open Or renaming inr->Ut,inl->Xe
open Prod renaming ext->Yb,fst->t0
open PyProof.Rows renaming wpS_bind->AT,step_dedup->Bb,wpS_pure->Bn,Keyed->Bs,slot_tuple_getitem->Dr,seqObj->Ej,wpS_forRange->Ff,SortSt->Fq,callWith_type1->Fu,envOfC->Gq,wpS_mono->Hc,callWith_builtin1->Hw,wpS_modify->IK,IntsAre->IT,SortKind->Ll,get?_update_seq->Ln,wpS_get->Mf,AllBare->Nh,lt_int->Om,entry_tuple_getitem->On,IsTup->Oy,slicePart_none->O1,assignInOrder_cons->OE,args_tuple_getitem->OF,wpS_lift->OS,subscriptTail_builtinR->Rj,gallopOf->Rw,tupleItemsOf_->T0,subscriptTail->TW,assignInOrder_nil->Wd,entry_list_sort->Yj,Subscript_->Yp,step_dedup->Yt
open PyProof.Rows.F renaming plain_set_update_loop->Ip,entry_set_update_loop->Lj
open PyProof.Rows.IntsAre renaming int_at->OC
open PyProof.Rows.IsTup renaming new->We
open PyProof.Rows.SortSt renaming mk'->Dj
open PySem renaming Value->Ac,wpAny_bind->Ad,Addr->Af,Shared->Ag,wpAny_pure->Al,wpAny->Ap,model->Au,Str->Av,Program->Be,intKind->Bf,starEach->Bm,Heap->Br,Expr->Bt,tupleKeyHash->Bu,Around->Bv,World->Bx,Obj->Ci,compareOp->Co,mainGlobals->Df,Comprehension->Dg,wpAny_newObj_type->Dp,wpAny_callSpecial?_slot->Dy,foldedSetIterable->Dz,wpAny_field->DL,wpAny_call_entry->Ea,cLine->Eg,wpAny_holding->Em,Scope->Eo,Pos->Eu,SetTable->Ex,wpAny_setField_rec->Ey,binaryOp->Fg,FuncData->Fh,sizeLine_eq->Fi,bootBuiltins->Fm,wpAny_setState_of->Fp,Stmt->Fx,mem_of_lookup->Ga,wpAny_pyIter_list->Gd,backTo->Gi,wpAny_pyIter_tuple->Gn,assignEach->Go,wpAny_rule->Gp,wpAny_seqItems->Gv,cellsFrom->Hj,wpAny_Call_Name_kw->Hr,NameKind->Hx,Builtin->Ig,wpAny_askSetting->Il,IsPair->IH,wpAny_mono->II,codeAny_mono->IJ,wpAny_passesOwn->IL,codeAny_builtin->IP,codeAny->IS,Env->IZ,sysModules->Jd,wpAny_standAt->Jm,letOwnedTupleGo->Jn,wpAny_attempt->Jr,Sem->Jw,wpAny_typeOf->Kk,wpAny_forIn_list->Kn,swappedStores->Ku,swapsWithSole->Kv,behindInMarks->Kw,attributeBase->Kx,sliceBounds->Lf,wpAny_comprehension_free->Ls,pyNext->Mi,wpAny_setField->Mm,swapsWith->Mq,ofAClassStatement->Mt,wpAny_storeSet_of->Mu,Operator->Mx,Model->Ni,pyIter->Nj,rawInt->Nk,BindsTo->Nl,getItem->Nn,wpAny_isInstance->Nt,wpAny_updateSeq_pair->Nx,wpAny_execs_nil->Oa,codeAny_of_tree->Od,pickOrder->Of,builtinsNs->Ol,IsTupleKey->Os,recursionLimit->O0,firstArgMember->O7,IsZip->O8,wpAny_newFunctionEnv_cells->OJ,IsPart->OK,hashByValue->OO,PassesOwn->OV,wpAny_sequenceKey->OZ,callerA->Pa,standAt->Pb,wpAny_onRaise->Pc,setSearchFrom->Pi,plainId_quiet->Pj,noFill_tuple_add->Qf,intKind_is->Qm,wpAny_Call_method0_late->Qv,richCompare_meets_room->Rh,wpAny_ite_split->Ru,Tok->Ry,tupleKind->Sa,Arguments->Sb,codeAny_call_function->Sc,wpAny_letGo->Se,IsEnum->Sf,weight_type_call_type->Sh,builtinLookup_eq_fast->Si,wpAny_newTuple->Sw,isSubtype_stop->Sy,newFunctionEnv->Sz,wpAny_runValue->Td,isSubtype_type->Te,wpAny_loadName_local->Tf,codeAny_call_builtin->Tk,wpAny_loadName_cell->Ts,assignInOrder->Tt,CmpOp->Tu,bindL->Tw,bindC->Tx,seq_tuple_add->Tz,evalPart_none->TD,valueAt->Ub,wpAny_call->Uc,evalArgs_none->Ud,setsByText->Uh,wpAny_setEntries_of->Uj,wpAny_newList->Ul,setState->Uv,setAdd->Uw,concat_meets->Vr,call_meetsIn->Vv,wpAny_assign_Name->Wc,wpAny_truthy_bool->Wf,slot_list_getitem->Wi,list_append->Wj,atKey->Wk,lastMarks->Wl,ClassData->Wm,pushCells->Wp,wpAny_pyIter_enum->Wq,searchCouldBeSeen->Wt,wpAny_pyIter_slot->Wv,wpAny_collect_seq->Ww,wpAny_eqBool_int->Wz,wpAny_execs_cons->WF,unaryOp->WP,seqIndex_of->Xb,wpAny_of_eq->Xf,wpAny_pyIter_zip->Xi,wpAny_alloc->Xj,argsOk->Xk,check_set_init_1->Xo,GenState->Xy,bindName->Xz,bindArgs->Ya,compTurn->Yd,pushCells_keeps->Ye,wpAny_stack_any->Yf,wpAny_specialOf->Yg,typeLookup_type->Yh,wpAny_updateSeq->Yi,wpAny_Name->Yn,call->Yq,closureFor->Yr,Result->Zd,storeName->Zi,setItem->Zj,Keyword->Zn,seqItems?->Zo,IsEnumOut->Zq,scanBound->Zt,Within->Zw,isTrue->Zz
open PySem.Around renaming under_plainId->IX,frames_deeper->Tg,under_plain->Vm
open PySem.AutoSeq1 renaming wpAny_loadPart'->Gm,sub_tuple_tuple->Pr
open PySem.Builtin.Frozenset renaming updateFrom->Ot,sizeOf->Px,newClass->Zf,oneOther->Zg,addrOf->Zv
open PySem.Builtin.List renaming listLengthHint->OA,listExtendWith->OB,listSameRef->Py,listUpdate->sB
open PySem.Builtin.Range renaming rangeSize->Zx
open PySem.Builtin.Slice renaming sliceAdjust->Gb,slicePlaces->Gc,sliceApplied->Ix,sliceFields->OY,slicePartIndex->Yo
open PySem.Builtin.SmallTypes renaming nextOf->Eb,ownedTupleIsFree->En,ownedTupleHandOut->Gk
open PySem.Builtin.Tuple renaming tupleExact->EQ,tupleItemsOf->Kq,tupleCompareSizes->Nm,tupleIsExact->Ze
open PySem.Calls renaming spliced_cons->Iu,spliced_nil->IR,callWith_builtin->Nb,Name_function_global->OH,call_function_entry->Po,evalArgs_plain->Tj
open PySem.Challenge renaming pw_fewdistances_k74_whole_marks->Pz,rw_fewdistances_k74_whole_marks->Qc
open PySem.Code renaming quiet_builtin->Vl,compLoop->Zp
open PySem.F renaming called_set->Dq,slot_tuple_iterator_next->IG,plainAttrs_dict->Jh,slot_enumerate_next->Jz,args_tuple_add_2->Lr,entry_tuple_add->Mc,slot_tuple_add->My,slot_zip_next->Oc,args_tuple_iterator_next_1->Oo,slot_dict_setdefault->Op,type_dict_setdefault->Ox,entry_tuple_iterator_next->O6,excBase_ValueError->OL,slot_dict_values->Pu,type_list_append->Qb,args_tuple_lt_2->Qr,args_enumerate_next_1->Qu,entry_type_call->Qy,plain_list_iadd->Qz,slot_dict_items->Rb,plainAttrs_list->Re,entry_tuple_lt->Ri,entry_enumerate_next->Rm,typeCall_set_1->Rr,entry_set_init->Rt,slot_tuple_lt->Sd,plain_set_new->Sg,slot_set_iter->Sj,args_list_append_2->Ti,entry_list_append->Ua,slot_list_append->Vc,args_zip_next_1->Wn,entry_zip_next->Xh
open PySem.Heap renaming get?_push_of_some->Ah,lt_size->Az,get?_push_size->Ba,get?_update_other->Dk,size_push->Dw,SameBut->Ep,get?_update_self->Fo,get?_none_of_le->IW,FlyingW->Vt,IsTuple->Vu,IsList->Xg,MadeExcOf->Yx,ExtBut->wP
open PySem.Heap.IsSliceOf renaming new->Vb
open PySem.Heap.SameBut renaming update->Hb,refl->Pd
open PySem.IsL renaming update->Xd
open PySem.NameKind renaming free->Hl,cell->Np
open PySem.Obj renaming mapSeq->Ew,mapFields->Ui,data_mapFields->Vh,putSet->Yu
open PySem.SeqAt renaming EqAt->Ys
open PySem.SeqAt.EqAt renaming same->Zl,int_int->ZB,of_refs->dL
open PySem.SetTable renaming insertAt->Bz,below->Cd,sizeAbove->Ez,grown->Gw,runEnd->He,insertAt_perm->Im,fill->Ky,Probe->Ms,toList_insertAt->Pv,tooFull->Ql,laid->Ue,fits->Ug,has->Vw,layClean->Ws,slot->Zr
open PySem.SetTable.below renaming go->Wr
open PySem.SetTable.layClean renaming free->Io
open PySem.SetTable.probe renaming go->Kb
open PySem.Shared renaming heap->Nr,TypeIs->Pk
open PySem.Str renaming ofString->Hg,empty->Zk
open PySem.Value renaming ref->Dm,none->Dn,bool->Hv,type->Ic,int->OT,notImplemented->Th,str->Wb,isStrOf->Zh,isInt->u8,float->v4
open PySem.W renaming Frag->Aj,tabIn->El,nsIn->Es,kia_one->Fa,fnOf->Gg,keepIn->Gh,cellsFrom_some->Jo,kitOne->Ki,codeIn->Kj,findIn->Mj,hideAll->NE,tabObj->OD,methodObj->OU,kitx_list->OW,nsMap_none_of_in->Ps,instObj->Rg,lookIn->Sv,hideAll_get->Tq,mroIn->Tv,mg_of->Um,of_hideAll->Uy,kitx_tuple->Uz,codeRec_of->Va,callWith_K->Ve,isNs_of_in->Vf,specialIn->Wg,kitx_dict->Wh,plainGet->Xa,takesIn->XV,OpenLaw->Yk,CodeHd->Yv,nsOkIn->Yy,exmOne->Zb,WalkO->Zu
open PySem.W.WShape renaming has->wT
open PySem.Walks renaming tuple->wE,list->x0
open PySem.pickOrder renaming go->Vx
open Sum renaming inl->Ir,inr->Rf
open Sum.inl renaming inj->Rz
open True renaming intro->Ie
open _root_ renaming List->Aa,Nat->Ai,Int->Ak,Option->Am,Bool->Ar,Array->Ay,if_neg->Bj,if_pos->Bp,decide_eq_true_eq->Cb,of_decide_eq_true->Cf,decide_eq_true->Cp,decide_eq_false->Cy,if_true->Dx,if_false->Ef,String->Et,False->Fd,beq_self_eq_true->Gr,decide_eq_false_iff_not->Ib,or_false->IM,Decidable->IQ,beq_eq_false_iff_ne->Jc,decide_true->Jf,decide_false->Ji,bne_self_eq_false->Mw,DecidableEq->Nd,True->Ng,StateT->Nu,beq_iff_eq->Qh,bne_iff_ne->Qj,Unit->Su,not_or->Uu,decide_eq_decide->Xs
noncomputable section
theorem om {p:Prop}(h:p:=by omega):p:=h
theorem li {p:Prop}(h:p:=by lia):p:=h
theorem kd {p:Prop}[IQ p](h:p:=by decide +kernel):p:=h
section
namespace _L
open PySem PySem.Spec PyProof.Rows
abbrev Key:=Sum Ak Av
noncomputable def kA:Key->Ac->Ar
 |.inl k,v=>u8 k v
 |.inr x,v=>Zh x v
noncomputable def HP (w:Bx):Key->Ak
 |.inl k=>hashInt k
 |.inr x=>hashStr w x
theorem zW:∀ {k:Key} {v:Ac},kA k v=true->(∃ i t,k=Ir i/\v=OT i t)\/(∃ x t,k=Rf x/\v=Wb x t)
 |.inl i,v,h=>by
  obtain⟨t,e⟩:=Value.isInt_shape (k:=i) (v:=v) h;exact .inl ⟨i,t,rfl,e⟩
 |.inr x,v,h=>by
  obtain⟨t,e⟩:=Value.isStrOf_shape (x:=x) (v:=v) h;exact .inr ⟨x,t,rfl,e⟩
theorem Q8 (i:Ak)(t:Ry):kA (.inl i) (.int i t)=true:=by simp[kA,u8]
theorem Q9 (x:Av)(t:Ry):kA (.inr x) (.str x t)=true:=by simp[kA,Zh]
theorem MM (a b:Ak):decide ((Ir a:Key)=Ir b)=(a == b):=by
 by_cases e:a=b
 .subst e;simp
 .have h:¬ (Ir a:Key)=Ir b:=λq=>e (Rz q)
  rw[Cy h];exact(Jc.mpr e).symm
theorem MQ (a b:Av):decide ((Rf a:Key)=Rf b)=decide (a=b):=by
 by_cases e:a=b
 .subst e;simp
 .have h:¬ (Rf a:Key)=Rf b:=λq=>e (Sum.inr.inj q)
  rw[Cy h,Cy e]
theorem MN (a:Ak)(b:Av):decide ((Ir a:Key)=Rf b)=false:=Cy (λq=>nomatch q)
theorem MP (a:Av)(b:Ak):decide ((Rf a:Key)=Ir b)=false:=Cy (λq=>nomatch q)
noncomputable def zD (prog:Be)(w:Bx):PySem.KeyKind prog w Key where
 is:=kA
 hash:=HP w
 inj:=λv a b ha hb=>by
  rcases zW ha with⟨i,t,rfl,rfl⟩|⟨x,t,rfl,rfl⟩
  .rcases zW hb with⟨j,u,rfl,e⟩|⟨y,u,rfl,e⟩
   .injection e with e1 _;rw[e1]
   .exact nomatch e
  .rcases zW hb with⟨j,u,rfl,e⟩|⟨y,u,rfl,e⟩
   .exact nomatch e
   .injection e with e1 _;rw[e1]
 byValue:=λk v h=>by
  rcases zW h with⟨i,t,rfl,rfl⟩|⟨x,t,rfl,rfl⟩ <;> rfl
 pyHash:=λhv h=>by
  rcases zW hv with⟨i,t,rfl,rfl⟩|⟨x,t,rfl,rfl⟩
  .exact wpAny_pyHash_int h
  .exact wpAny_pyHash_str h
 eqBool:=λhu hv h=>by
  rcases zW hu with⟨i,t,rfl,rfl⟩|⟨x,t,rfl,rfl⟩
  .rcases zW hv with⟨j,u,rfl,rfl⟩|⟨y,u,rfl,rfl⟩
   .rw[MM] at h;exact Wz h
   .rw[MN] at h;exact SeqAt.EqAt.int_str i t y u _ _ _ _ h
  .rcases zW hv with⟨j,u,rfl,rfl⟩|⟨y,u,rfl,rfl⟩
   .rw[MP] at h;exact SeqAt.EqAt.str_int x t j u _ _ _ _ h
   .rw[MQ] at h;exact wpAny_eqBool_str h
 «strs»:=λk x t v h=>by
  rcases zW h with⟨i,u,rfl,e⟩|⟨y,u,rfl,e⟩
  .exact nomatch e
  .injection e with e1 _
   subst e1;cases v <;> rfl
theorem rN (prog:Be)(w:Bx)(i:Ak)(t:Ry):(zD prog w).is (.inl i) (.int i t)=true:=Q8 i t
theorem rO (prog:Be)(w:Bx)(x:Av)(t:Ry):(zD prog w).is (.inr x) (.str x t)=true:=Q9 x t
end _L
namespace _L
open PySem PySem.Spec PyProof.Rows
inductive V where
 |non|bl (b:Ar)|int (i:Ak)|str (x:Av)|byt (b:Ay UInt8)|flt (b:UInt64)|ref (a:Af)|ty (n:Et)
 deriving Nd
def qF:V->Ac->Prop
 |.non,u=>u=Dn
 |.bl b,u=>u=Hv b
 |.int i,u=>∃ t,u=OT i t
 |.str x,u=>∃ t,u=Wb x t
 |.byt b,u=>∃ t,u=Value.bytes b t
 |.flt b,u=>∃ t,u=v4 b t
 |.ref a,u=>u=Dm a
 |.ty n,u=>u=Ic n
abbrev qI:Aa V->Aa Ac->Prop:=Paired qF
theorem qI.length {xs:Aa V}{us:Aa Ac}(r:qI xs us):xs.length=us.length:=Paired.length r
theorem qI.get:∀ {xs:Aa V} {us:Aa Ac} {i:Ai} {x:V},qI xs us->xs[i]? = Ab x->∃ u,us[i]? = Ab u/\qF x u
 |_,_,_,_,.nil,e=>by simp at e
 |_,_,0,_,.cons r _,e=>by simp at e;subst e;exact⟨_,rfl,r⟩
 |_,_,i+1,x,.cons _ t,e=>by
  obtain⟨u,h1,h2⟩:=qI.get (i:=i) (x:=x) t (by simpa using e)
  exact⟨u,by simpa using h1,h2⟩
theorem qI.set {x:V}{u:Ac}(r:qF x u):∀ {xs:Aa V} {us:Aa Ac} (i:Ai),qI xs us->qI (xs.set i x) (us.set i u)
 |_,_,_,.nil=>.nil
 |_,_,0,.cons _ t=>.cons r t
 |_,_,i+1,.cons q t=>.cons q (qI.set r i t)
theorem qI.append {xs ys:Aa V}{us ws:Aa Ac}(h:qI xs us)(s:qI ys ws):qI (xs++ys) (us++ws):=by
 induction h with
 |nil=>exact s
 |cons r t ih=>exact .cons r ih
theorem qI.take:∀ {xs:Aa V} {us:Aa Ac} (n:Ai),qI xs us->qI (xs.take n) (us.take n)
 |_,_,0,_=>.nil
 |_,_,_+1,.nil=>.nil
 |_,_,n+1,.cons r t=>.cons r (qI.take n t)
theorem qI.drop:∀ {xs:Aa V} {us:Aa Ac} (n:Ai),qI xs us->qI (xs.drop n) (us.drop n)
 |_,_,0,r=>r
 |_,_,_+1,.nil=>.nil
 |_,_,n+1,.cons _ t=>qI.drop n t
def jP:Am V->Am Ac->Prop
 |some v,Ab u=>qF v u
 |none,none=>Ng
 |_,_=>Fd
def KV {κ : Type}:Aa (κ × V)->Aa (κ × Ac)->Prop:=Paired λ(p:κ × V) (q:κ × Ac)=>p.1=q.1/\qF p.2 q.2
noncomputable def kV:Key->V
 |.inl i=>.int i
 |.inr x=>.str x
inductive HO where
  |lst (xs:Aa V)
  |tup (xs:Aa V)
  |dK (kvs:Aa (Key × V))|dT (kvs:Aa (Aa Key × V))
  |set (S:Ak->Ar) (n:Ai)
  |ins (C dx:Af) (fs:Aa (Av × V))
  |own (x:Af)
  |xd (fs:Aa (Av × V))
  |met (f x:Af)
  |rng (lo hi:Ak)
  |frz (o:Ci) (u:HO)
  |tbl (ps:Ay Ac)
  |ext (φ : Br->Prop)
abbrev Hp:=Af->Am HO
noncomputable def upd (H:Hp)(a:Af)(o:HO):Hp:=λb=>if b=a then Ab o else H b
theorem qX {H:Hp}{a:Af}{o:HO}:upd H a o a=Ab o:=by unfold upd;rw[Bp rfl]
theorem qO {H:Hp}{a b:Af}{o:HO}(h:b≠a):upd H a o b=H b:=by unfold upd;rw[Bj h]
theorem SV {H:Hp}{a b:Af}{o u:HO}(h:H a=Ab o)(h':H b=Ab u)(d:o≠u):a≠b:=by
 intro e;subst e;rw[h] at h';exact d (Cz h')
theorem z9 {H:Hp}{a b:Af}{o:HO}(h:H a=Ab o)(h':H b=none):a≠b:=by
 intro e;subst e;rw[h] at h';cases h'
section
variable (P:Be)(w:Bx)
def zG (H:Hp)(h:Br)(a:Af):HO->Prop
 |.lst xs=>xs.length<=sizeLine/\∃ (its:Aa Ac) (n:Ai),qI xs its/\h.get? a=Ab { cls:=.type "list",data:=.seq its.toArray n }
 |.tup xs=>xs.length<=sizeLine/\∃ its:Aa Ac,qI xs its/\Oy h a its.toArray
 |.dK kvs=>kvs.length<=sizeLine/\(a == Jd)=false/\∃ vs,KV kvs vs/\h.DictOf (zD P w) a vs
 |.dT kvs=>kvs.length<=sizeLine/\(a == Jd)=false/\∃ xs:Aa (Aa Key × Af × Ac),
   Paired (λ(p:Aa Key × V) (q:Aa Key × Af × Ac)=>p.1=q.1/\H q.2.1=Ab (.tup (p.1.map kV))/\qF p.2 q.2.2) kvs xs /\
   ∃ o es ep,h.get? a=Ab o/\o.ExactDict/\o.data=.dict es ep/\es.toList=xs.map (entryOfKey (Sa (zD P w)))/\(xs.map (·.1)).Nodup
 |.set S n=>h.SetOf (Bf P w) a S n
 |.ins C dx fs=>H dx=Ab (.own a)/\fs.length<=1000/\dx≠a/\h.get? a=Ab (Rg C dx) /\
   ∃ mA,h.Ns1 dx mA/\(∀ f,jP (fs.lookup f) (mA f))/\Zw mA (fs.map (·.1))
 |.own _=>∃ o,h.get? a=Ab o
 |.xd fs=>∃ mA,h.Ns1 a mA/\∀ f,jP (fs.lookup f) (mA f)
 |.rng lo hi=>∃ t u v,h.get? a=Ab { cls:=.type "range",data:=.fields #[.int lo t,.int hi u,.int 1 v] }
 |.frz o u=>h.get? a=Ab o/\zG H h a u
 |.tbl ps=>h.get? a=Ab { cls:=.none,data:=.fields ps }
 |.met f x=>h.get? a=Ab (OU (.ref f) (.ref x))
 |.ext φ => φ h/\(∃ o,h.get? a=Ab o)/\∀ h1 h2:Br,φ h1->(∀ o,h1.get? a=Ab o->h2.get? a=Ab o)->φ h2
def HOk (H:Hp)(h:Br):Prop:=∀ a o,H a=Ab o->zG P w H h a o
end
section
variable {P:Be}{w:Bx}{H H':Hp}{h h':Br}{a:Af}{o:HO}
theorem zG.lt (x:zG P w H h a o):a<h.objs.size:=by
 cases o with
 |lst xs=>obtain⟨_,_,_,_,e⟩:=x;exact Az e
 |tup xs=>obtain⟨_,_,_,p⟩:=x;exact p.lt
 |dK kvs=>obtain⟨_,_,_,_,o,_,_,e,_⟩:=x;exact Az e
 |dT kvs=>obtain⟨_,_,_,_,o,_,_,e,_⟩:=x;exact Az e
 |set S n=>obtain⟨o,_,_,_,e,_⟩:=x;exact Az e
 |ins C dx fs=>obtain⟨_,_,_,e,_⟩:=x;exact Az e
 |own y=>obtain⟨_,e⟩:=x;exact Az e
 |xd fs=>obtain⟨_,⟨_,_,_,e,_⟩,_⟩:=x;exact Az e
 |rng lo hi=>obtain⟨_,_,_,e⟩:=x;exact Az e
 |frz ob u=>obtain⟨e,_⟩:=x;exact Az e
 |tbl ps=>exact Az (show h.get? a=Ab _ from x)
 |met f y=>exact Az (show h.get? a=Ab _ from x)
 |ext φ => obtain⟨_,⟨_,e⟩,_⟩:=x;exact Az e
theorem Paired.mapP {α β:Type}{F G:α->β->Prop}{l₁:Aa α}{l₂:Aa β}(h:Paired F l₁ l₂)(f:∀ a b,F a b->G a b):Paired G l₁ l₂:=by
 induction h with
 |nil=>exact .nil
 |cons r t ih=>exact .cons (f _ _ r) ih
theorem zG.stay (x:zG P w H h a o)(k:∀ b u,(b=a\/H b=Ab (.own a))->h.get? b=Ab u->h'.get? b=Ab u)
  (ho:∀ b,H b=Ab (.own a)->H' b=Ab (.own a)) (ht:∀ b xs,H b=Ab (.tup xs)->H' b=Ab (.tup xs)):zG P w H' h' a o:=by
 induction o with
 |lst xs=>obtain⟨z,its,n,r,e⟩:=x;exact⟨z,its,n,r,k _ _ (.inl rfl) e⟩
 |tup xs=>obtain⟨z,its,r,ob,e,c⟩:=x;exact⟨z,its,r,ob,k _ _ (.inl rfl) e,c⟩
 |dK kvs=>obtain⟨z,y,vs,r,ob,es,ep,e,c⟩:=x;exact⟨z,y,vs,r,ob,es,ep,k _ _ (.inl rfl) e,c⟩
 |dT kvs =>
  obtain⟨z,y,xs,r,ob,es,ep,e,c⟩:=x;exact⟨z,y,xs,Paired.mapP r λp q z=>⟨z.1,ht _ _ z.2.1,z.2.2⟩,ob,es,ep,k _ _ (.inl rfl) e,c⟩
 |set S n=>obtain⟨ob,es,ep,t,e,c⟩:=x;exact⟨ob,es,ep,t,k _ _ (.inl rfl) e,c⟩
 |ins C dx fs =>
  obtain⟨d,z,ne,e,mA,⟨od,es,ep,e2,c⟩,r⟩:=x;exact⟨ho _ d,z,ne,k _ _ (.inl rfl) e,mA,⟨od,es,ep,k _ _ (.inr d) e2,c⟩,r⟩
 |own y=>obtain⟨ob,e⟩:=x;exact⟨ob,k _ _ (.inl rfl) e⟩
 |xd fs=>obtain⟨mA,⟨od,es,ep,e,c⟩,r⟩:=x;exact⟨mA,⟨od,es,ep,k _ _ (.inl rfl) e,c⟩,r⟩
 |rng lo hi=>obtain⟨t,u,v,e⟩:=x;exact⟨t,u,v,k _ _ (.inl rfl) e⟩
 |frz ob u ih=>obtain⟨e,q⟩:=x;exact⟨k _ _ (.inl rfl) e,ih q⟩
 |tbl ps =>
  have e:h.get? a=Ab { cls:=.none,data:=.fields ps }:=x;show h'.get? a=Ab { cls:=.none,data:=.fields ps };exact k a _ (.inl rfl) e
 |met f y =>
  have e:h.get? a=Ab (OU (.ref f) (.ref y)):=x;show h'.get? a=Ab (OU (.ref f) (.ref y));exact k a _ (.inl rfl) e
 |ext φ => obtain⟨p,⟨o,e⟩,st⟩:=x;exact⟨st _ _ p λo q=>k _ _ (.inl rfl) q,⟨o,k _ _ (.inl rfl) e⟩,st⟩
theorem HOk.lt (x:HOk P w H h)(e:H a=Ab o):a<h.objs.size:=(x a o e).lt
theorem HOk.fresh (x:HOk P w H h)(e:h.objs.size<=a):H a=none:=by
 cases q:H a with
 |none=>rfl
 |some u=>exact absurd (Bc (x.lt q) e) (Ek _)
theorem HOk.kept (x:HOk P w H h)(k:∀ b u,h.get? b=Ab u->h'.get? b=Ab u):HOk P w H h':=λa o e =>
 (x a o e).stay (λb u _ q=>k b u q) (λ_ q=>q) λ_ _ q=>q
theorem HOk.laid (x:HOk P w H h)(k:∀ b u,h.get? b=Ab u->h'.get? b=Ab u)(hp:h.objs.size<=a)(new:zG P w (upd H a o) h' a o):HOk P w (upd H a o) h':=λb u e=>by
 have hn:=x.fresh hp;by_cases hb:b=a
 .subst hb;rw[qX] at e;cases e;exact new
 .rw[qO hb] at e
  exact(x b u e).stay (λc v _ q=>k c v q) (λc q=>by rw[qO (z9 q hn)];exact q) λc xs q=>by rw[qO (z9 q hn)];exact q
end
def Rd (H:Hp)(a:Af)(u:HO):Prop:=H a=Ab u\/∃ o,H a=Ab (.frz o u)
theorem Rd.of {H:Hp}{a:Af}{u:HO}(h:H a=Ab u):Rd H a u:=.inl h
theorem Rd.ok {P:Be}{w:Bx}{H:Hp}{h:Br}{a:Af}{u:HO}(r:Rd H a u)(x:HOk P w H h):zG P w H h a u:=by
 rcases r with r|⟨o,r⟩
 .exact x a u r
 .obtain⟨_,q⟩:=x a _ r
  exact q
def Mut:Am HO->Prop
 |some (.lst _)=>Ng
 |some (.dK _)=>Ng
 |some (.dT _)=>Ng
 |some (.set _ _)=>Ng
 |some (.ins _ _ _)=>Ng
 |some (.ext _)=>Ng
 |_=>Fd
section
variable {P:Be}{w:Bx}{H:Hp}{h h':Br}{x e:Af}{o':HO}
theorem HOk.write (ok:HOk P w H h)(mu:Mut (H x))(he:e=x\/H e=Ab (.own x))(k:∀ b u,b≠e->h.get? b=Ab u->h'.get? b=Ab u)(heo:∃ u,h'.get? e=Ab u)
  (new:zG P w (upd H x o') h' x o'):HOk P w (upd H x o') h':=λb u q=>by
 have nown:∀ c y,H c=Ab (.own y)->c≠x:=λc y r z=>by subst z;rw[r] at mu;exact mu
 have ntup:∀ c xs,H c=Ab (.tup xs)->c≠x:=λc xs r z=>by subst z;rw[r] at mu;exact mu
 by_cases hb:b=x
 .subst hb;rw[qX] at q;cases q;exact new
 .rw[qO hb] at q
  by_cases hbe:b=e
  .have q':H b=Ab (.own x):=by
    rcases he with z|z
    .exact absurd (hbe.trans z) hb
    .rw[hbe];exact z
   rw[q] at q';cases q';obtain⟨v,hv⟩:=heo;exact⟨v,by rw[hbe];exact hv⟩
  .refine(ok b u q).stay (λc v hc r=>k c v ?_ r) (λc r=>by rw[qO (nown c b r)];exact r) λc xs r=>by rw[qO (ntup c xs r)];exact r
   rcases hc with rfl|hc
   .exact hbe
   .rintro rfl
    rcases he with z|z
    .exact nown c b hc z
    .rw[hc] at z;cases z;exact hb rfl
end
structure Un (fs ex:Aa Af)(H H':Hp)(h h':Br):Prop where
 keep:∀ b o,h.get? b=Ab o->H b=none->b ∉ fs->b ∉ ex->h'.get? b=Ab o
 slot:∀ b o,h.get? b=Ab o->H b=none->b∈fs->b ∉ ex->∃ sl,h'.get? b=Ab { o with slots:=sl }
 free:∀ b o,h.get? b=Ab o->H b=none->b ∉ ex->H' b=none
 there:∀ b o,h.get? b=Ab o->b ∉ ex->∃ o',h'.get? b=Ab o'
 tups:∀ b xs,H b=Ab (.tup xs)->H' b=Ab (.tup xs)
 frzs:∀ b o u,H b=Ab (.frz o u)->H' b=Ab (.frz o u)
 tbls:∀ b ps,H b=Ab (.tbl ps)->∃ more,H' b=Ab (.tbl (ps++more))
section
variable {fs fs' ex ex':Aa Af}{H H1 H2:Hp}{h h1 h2 h':Br}{a x e:Af}{o:HO}
theorem Un.any (u:Un fs ex H H1 h h1){b:Af}{ob:Ci}(q:h.get? b=Ab ob)(n:H b=none)(hx:b ∉ ex):∃ sl,h1.get? b=Ab { ob with slots:=sl }:=by
 by_cases hb:b∈fs
 .exact u.slot b ob q n hb hx
 .exact⟨ob.slots,u.keep b ob q n hb hx⟩
theorem Un.trans (a:Un fs ex H H1 h h1)(b:Un fs ex H1 H2 h1 h2):Un fs ex H H2 h h2 where
 keep:=λc ob q n hc hx=>b.keep c ob (a.keep c ob q n hc hx) (a.free c ob q n hx) hc hx
 slot:=λc ob q n hc hx=>by
  obtain⟨sl,e1⟩:=a.slot c ob q n hc hx;obtain⟨sl',e2⟩:=b.slot c _ e1 (a.free c ob q n hx) hc hx;exact⟨sl',e2⟩
 free:=λc ob q n hx=>by
  obtain⟨o',e1⟩:=a.there c ob q hx;exact b.free c o' e1 (a.free c ob q n hx) hx
 there:=λc ob q hx=>by
  obtain⟨o',e1⟩:=a.there c ob q hx;exact b.there c o' e1 hx
 tups:=λc xs q=>b.tups c xs (a.tups c xs q)
 frzs:=λc ob xs q=>b.frzs c ob xs (a.frzs c ob xs q)
 tbls:=λc ps q=>by
  obtain⟨m1,e1⟩:=a.tbls c ps q;obtain⟨m2,e2⟩:=b.tbls c _ e1;exact⟨m1++m2,by rw[e2,Ux]⟩
theorem Un.kept (k:∀ b u,h.get? b=Ab u->h'.get? b=Ab u):Un fs ex H H h h':=
 ⟨λb ob q _ _ _=>k b ob q,λb ob q _ _ _=>⟨ob.slots,k b ob q⟩,λ_ _ _ n _=>n,λb ob q _=>⟨ob,k b ob q⟩,λ_ _ q=>q,λ_ _ _ q=>q,λ_ ps q=>⟨#[],by rw[q];simp⟩⟩
theorem Un.refl:Un fs ex H H h h:=Un.kept λ_ _ q=>q
theorem Un.laid (k:∀ b u,h.get? b=Ab u->h'.get? b=Ab u)(hp:h.objs.size<=a)(hn:H a=none):Un fs ex H (upd H a o) h h' where
 keep:=λb u q _ _ _=>k b u q
 slot:=λb u q _ _ _=>⟨u.slots,k b u q⟩
 free:=λb u q n _=>by rw[qO (Cq (Bc (Az q) hp))];exact n
 there:=λb u q _=>⟨u,k b u q⟩
 tups:=λb xs q=>by rw[qO (z9 q hn)];exact q
 frzs:=λb u xs q=>by rw[qO (z9 q hn)];exact q
 tbls:=λb ps q=>⟨#[],by rw[qO (z9 q hn),q];simp⟩
theorem Un.write (mu:Mut (H x))(he:e=x\/H e=Ab (.own x))(k:∀ b u,b≠e->h.get? b=Ab u->h'.get? b=Ab u)(heo:∃ u,h'.get? e=Ab u):Un fs ex H (upd H x o) h h':=by
 have hx:∀ b,H b=none->b≠x:=λb n z=>by subst z;rw[n] at mu;exact mu
 have hb:∀ b,H b=none->b≠e:=λb n z=>by
  subst z;rcases he with r|r
  .exact hx b n r
  .rw[n] at r;cases r
 have hm:∀ b u,H b=Ab u->¬ Mut (Ab u)->b≠x:=λb u q nm z=>by subst z;rw[q] at mu;exact nm mu
 refine⟨λb u q n _ _=>k b u (hb b n) q,λb u q n _ _=>⟨u.slots,k b u (hb b n) q⟩,λb u q n _=>by rw[qO (hx b n)];exact n,λb u q _=>?_,
  λb xs q=>by rw[qO (hm b _ q λz=>z)];exact q,λb u xs q=>by rw[qO (hm b _ q λz=>z)];exact q,λb ps q=>⟨#[],by rw[qO (hm b _ q λz=>z),q];simp⟩⟩
 by_cases hbe:b=e
 .subst hbe;exact heo
 .exact⟨u,k b u hbe q⟩
end
noncomputable def trk (h:Br)(H:Hp):Aa Af:=(Dd h.objs.size).filter λa=>(H a).isSome
noncomputable def jY (h:Br)(H:Hp):Br:=NE h (trk h H)
theorem Q0 (h:Br)(H:Hp):(jY h H).objs.size=h.objs.size:=PySem.W.hideAll_size _ _
theorem WH {h:Br}{H:Hp}{b:Af}{o:Ci}(e:h.get? b=Ab o)(n:H b=none):(jY h H).get? b=Ab o:=
 Tq _ e λhm=>by
  have q:(H b).isSome=true:=(Fv.mp hm).2;rw[n] at q;simp at q
theorem G8 {h:Br}{H:Hp}{b:Af}{o:Ci}(e:(jY h H).get? b=Ab o):h.get? b=Ab o/\H b=none:=by
 have e':h.get? b=Ab o:=Uy (trk h H) e;refine⟨e',?_⟩;cases q:H b with
 |none=>rfl
 |some x =>
  have hm:b∈trk h H:=Fv.mpr ⟨Dt.mpr (Az e'),by simp[q]⟩
  have z:(jY h H).get? b=none:=PySem.W.hideAll_none (trk h H) hm;rw[z] at e;cases e
noncomputable def UR (g h:Br)(L:Af):Aa (Af × Ci):=(Dd h.objs.size).filterMap λa=>if a=L\/(g.get? a).isSome=true then none else (h.get? a).map λo=>(a,o)
noncomputable def qJ (g h:Br)(L d:Af):Aa (Af × Ci):=(UR g h L).filter λp=>decide (p.1≠d)
end _L
namespace _L
open PySem PySem.Spec PyProof.Rows
variable {ch:Aa Af}{E:Ac->Ag->Prop}{t':Ai}{g':Ay Xy}{d':Drawn}{M:Ni}{Q:Su->Ag->Prop}
noncomputable def yK:Aa Av:=["law","_law_right","by_hull","pair_bound","hub","greatest_often"]
def BR (mg:Av->Am Ac)(h:Br):Prop:=∃ bm o,mg "__builtins__" = Ab (.ref bm)/\bm≠Ol/\h.get? bm=Ab o/\o.cls=.type "module" /\ o.dict=Ab Ol/\o.data=.plain
structure Mod (K:Aj)(mg:Av->Am Ac)(base:Br):Prop where
 kin:K.In base
 glob:base.Ns Df mg
 blt:∃ mb,base.Ns Ol mb/\∀ x:Av,x ≠ "__name__" -> mb x=Fm x
 nolimit:base.NoLimit
 bm:BR mg base
 code:∀ x∈yK,∀ c T,El K x=Ab (c,T)->Yv base c T
 inj:∀ x∈yK,∀ y∈yK,∀ c d T,El K x=Ab (c,T)->El K y=Ab (d,T)->x=y
structure Cx where
 prog:Be
 w:Bx
 K:Aj
 mg:Av->Am Ac
 base:Br
 A:Bv
 N:Aa Av
 s₀:Ag
 H₀:Hp
 env:IZ
 outer:Aa IZ
 stack:Aa IZ
 ex:Aa Af
 fn:Av->Ar
 calm:Ar
 pn:Aa (Af × Ci)
 xe:Ac->Ag->Prop
noncomputable def frs (l:Aa IZ):Aa Af:=l.filterMap (·.frame)
abbrev Cx.fs (X:Cx):Aa Af:=frs X.outer
def Vis (sc:Eo)(x:Av):Prop:=sc.names.lookup x=Ab .local \/ sc.names.lookup x=Ab .cell\/sc.names.lookup x=Ab .free
def Loc (sc:Eo)(x:Av):Prop:=sc.names.lookup x=Ab .local \/ sc.names.lookup x=Ab .cell
def EU (env:IZ)(h:Br)(m:Av->Am Ac)(x:Av)(u:Ac):Prop:=
 (env.kindOf x=Ab .local /\ m x=Ab u)\/((env.kindOf x=Ab .cell\/env.kindOf x=Ab .free)/\∃ c,env.cells.lookup x=Ab c/\h.IsCell c (Ab u))
structure Cx.Ok (X:Cx):Prop where
 mod:Mod X.K X.mg X.base
 kind:X.env.scope.kind=.function
 glob:X.env.globals=Df
 blt:X.env.builtins=Ol
 above:X.s₀.heap.objs.size<=X.env.locals
 inj:∀ x y c,X.env.cells.lookup x=Ab c->X.env.cells.lookup y=Ab c->x=y
 has:∀ x,(X.env.kindOf x=Ab .cell\/X.env.kindOf x=Ab .free)->∃ c,X.env.cells.lookup x=Ab c
 cab:∀ x c,X.fn x=true->X.env.cells.lookup x=Ab c->X.s₀.heap.objs.size<=c
 hd:X.calm=true->X.A.handled=none
 frames:X.A.frames=Ab X.stack
 stk:X.stack=X.outer\/(X.stack=X.env::X.outer/\X.env.frame=Ab X.env.locals)
 exf:∀ b∈X.ex,b≠X.env.locals/\∀ x c,X.env.cells.lookup x=Ab c->c≠b
 bs:∀ b o,X.base.get? b=Ab o->X.s₀.heap.get? b=Ab o/\X.H₀ b=none
 bsz:X.base.objs.size<=X.s₀.heap.objs.size
 noex:∀ b o,X.base.get? b=Ab o->b ∉ X.ex
 exfs:∀ b∈X.ex,b ∉ X.fs
 funs:X.s₀.heap.FunFrames X.base X.outer
 frf:∀ b∈X.fs,X.H₀ b=none
structure Inv (X:Cx)(pins:Aa (Af × Ci))(σ : Aa (Am V))(H:Hp)(s:Ag):Prop where
 ok:X.Ok
 os:s.os=X.s₀.os
 bare:Nh s.gens
 base:Un X.fs X.ex X.H₀ H X.s₀.heap s.heap
 loc:∃ m,s.heap.Ns X.env.locals m/\∀ (i:Ai) (x:Av) (v:V),X.N[i]? = Ab x->σ[i]? = Ab (Ab v)->Vis X.env.scope x->∃ u,qF v u/\EU X.env s.heap m x u
 cell:∀ x c,X.env.cells.lookup x=Ab c->∃ v,s.heap.IsCell c v
 free:H X.env.locals=none
 freeC:∀ x c,X.env.cells.lookup x=Ab c->H c=none
 pin:∀ p∈X.pn++pins,s.heap.get? p.1=Ab p.2/\H p.1=none/\p.1≠X.env.locals/\p.1 ∉ X.fs/\∀ v,p.2.data≠.cell v
 hok:HOk X.prog X.w H s.heap
 len:σ.length=X.N.length
section
variable {X:Cx}{pins:Aa (Af × Ci)}{σ : Aa (Am V)}{H H':Hp}{s:Ag}{h':Br}
theorem Cx.Ok.nofr (ok:X.Ok){b:Af}{o:Ci}(e:X.base.get? b=Ab o):b ∉ X.fs:=λhb=>by
 have:=(ok.funs.mem hb).1;rw[e] at this;cases this
theorem Inv.bs (I:Inv X pins σ H s):∀ b o,X.base.get? b=Ab o->s.heap.get? b=Ab o/\H b=none:=λb o e =>
 ⟨I.base.keep b o (I.ok.bs b o e).1 (I.ok.bs b o e).2 (I.ok.nofr e) (I.ok.noex b o e),I.base.free b o (I.ok.bs b o e).1 (I.ok.bs b o e).2 (I.ok.noex b o e)⟩
theorem Inv.bk (I:Inv X pins σ H s):∀ b o,X.base.get? b=Ab o->s.heap.get? b=Ab o:=λb o e=>(I.bs b o e).1
theorem Inv.mod (I:Inv X pins σ H s):Mod X.K X.mg X.base:=I.ok.mod
theorem Inv.kIn (I:Inv X pins σ H s):X.K.In s.heap:=I.ok.mod.kin.keeps I.bk
theorem Inv.nolimit (I:Inv X pins σ H s):s.heap.NoLimit:=I.ok.mod.nolimit.keeps I.bk
theorem Inv.lt (I:Inv X pins σ H s):X.env.locals<s.heap.objs.size:=let ⟨_,hn,_⟩:=I.loc;hn.lt
theorem Inv.sz (I:Inv X pins σ H s):X.s₀.heap.objs.size<=s.heap.objs.size:=Dh I.ok.above (Fe I.lt)
theorem Inv.nofs (I:Inv X pins σ H s){a:Af}(h:s.heap.objs.size<=a):a ∉ X.fs:=λhb=>by
 obtain⟨_,o,ho,_⟩:=I.ok.funs.mem hb;exact absurd (Bc (Az ho) (Dh I.sz h)) (Ek _)
theorem Inv.cne (I:Inv X pins σ H s):∀ x c,X.env.cells.lookup x=Ab c->c≠X.env.locals:=λx c e z=>by
 obtain⟨v,o,ho,hd⟩:=I.cell x c e;obtain⟨m,⟨o',es,ep,ho',hd',_⟩,_⟩:=I.loc;rw[z,ho'] at ho;cases ho;rw[hd'] at hd;cases hd
theorem Inv.funs (I:Inv X pins σ H s):s.heap.FunFrames X.base X.outer:=by
 have all:∀ (l:Aa IZ),(∀ b∈frs l,b∈X.fs)->X.s₀.heap.FunFrames X.base l->s.heap.FunFrames X.base l:=by
  intro l
  induction l with
  |nil=>intro _ _;trivial
  |cons env r ih =>
   intro hs hl;obtain⟨hk,⟨L,o,hf,hn,ho,hd⟩,hr⟩:=hl;have hL:L∈X.fs:=hs L (by unfold frs;rw[Fz,hf];exact Dl)
   obtain⟨sl,e⟩:=I.base.slot L o ho (I.ok.frf L hL) hL λz=>I.ok.exfs L z hL;exact⟨hk,⟨L,_,hf,hn,e,hd⟩,ih (λb hb=>hs b (by unfold frs;rw[Fz,hf];exact Cg _ hb)) hr⟩
 exact all X.outer (λ_ hb=>hb) I.ok.funs
theorem Inv.stack (I:Inv X pins σ H s):s.heap.FunFrames X.base X.stack:=by
 rcases I.ok.stk with e|⟨e,hf⟩
 .rw[e];exact I.funs
 .rw[e]
  obtain⟨m,hn,_⟩:=I.loc;refine .cons (by rw[I.ok.kind];decide) hf hn ?_ I.funs
  exact IW (Dh I.ok.bsz I.ok.above)
theorem Inv.stkSub (I:Inv X pins σ H s):∀ b∈frs X.stack,b∈X.env.locals::X.fs:=λb hb=>by
 rcases I.ok.stk with e|⟨e,hf⟩
 .rw[e] at hb;exact Cg _ hb
 .rw[e] at hb
  unfold frs at hb;rw[Fz,hf] at hb;exact hb
theorem Inv.stkFree (I:Inv X pins σ H s):∀ b∈frs X.stack,H b=none:=λb hb=>by
 rcases Ax.mp (I.stkSub b hb) with e|hb
 .rw[e];exact I.free
 .obtain⟨_,o,ho,_⟩:=I.ok.funs.mem hb
  exact I.base.free b o ho (I.ok.frf b hb) λz=>I.ok.exfs b z hb
theorem Inv.step {g':Ay Xy}{t':Ai}{d':Drawn}(I:Inv X pins σ H s)
  (hch:∀ b∈ch,(b∈X.ex\/X.s₀.heap.objs.size<=b)/\b≠X.env.locals/\(∀ x c,X.env.cells.lookup x=Ab c->c≠b)/\∀ p∈X.pn++pins,p.1≠b)
  (keep:∀ b o,b≠X.env.locals->b ∉ X.fs->b ∉ ch->s.heap.get? b=Ab o->H b=none->h'.get? b=Ab o)
  (slot:∀ b o,b≠X.env.locals->b∈X.fs->b ∉ ch->s.heap.get? b=Ab o->H b=none->∃ sl,h'.get? b=Ab { o with slots:=sl }) (free:∀ b o,b ∉ ch->s.heap.get? b=Ab o->H b=none->H' b=none)
  (there:∀ b o,b ∉ ch->s.heap.get? b=Ab o->∃ o',h'.get? b=Ab o')
  (tups:∀ b xs,H b=Ab (.tup xs)->H' b=Ab (.tup xs)) (frzs:∀ b o u,H b=Ab (.frz o u)->H' b=Ab (.frz o u)) (tbls:∀ b ps,H b=Ab (.tbl ps)->∃ more,H' b=Ab (.tbl (ps++more)))
  (ns:∀ m,s.heap.Ns X.env.locals m->h'.Ns X.env.locals m) (hok:HOk X.prog X.w H' h') (hg:Nh g') :
  Inv X pins σ H' { s with heap:=h',gens:=g',drawn:=d',toks:=t' }:=by
 have neL:∀ b o,X.s₀.heap.get? b=Ab o->b≠X.env.locals:=λb o e=>Cq (Bc (Az e) I.ok.above);have neC:∀ b o,X.s₀.heap.get? b=Ab o->b ∉ X.ex->b ∉ ch:=λb o e hx hb=>by
  rcases (hch b hb).1 with z|z
  .exact hx z
  .exact absurd (Bc (Az e) z) (Ek _)
 have cellK:∀ x c,X.env.cells.lookup x=Ab c->∀ v,s.heap.IsCell c v->h'.IsCell c v:=λx c e v ⟨o,ho,hd⟩=>by
  have nch:c ∉ ch:=λz=>(hch c z).2.2.1 x c e rfl;by_cases hc:c∈X.fs
  .obtain⟨sl,q⟩:=slot c o (I.cne x c e) hc nch ho (I.freeC x c e)
   exact⟨_,q,hd⟩
  .exact⟨o,keep c o (I.cne x c e) hc nch ho (I.freeC x c e),hd⟩
 refine⟨I.ok,I.os,hg,⟨λb o e n hb hx=>?_,λb o e n hb hx=>?_,λb o e n hx=>?_,λb o e hx=>?_,λb xs e=>tups b xs (I.base.tups b xs e),λb o xs e=>frzs b o xs (I.base.frzs b o xs e),λb ps e=>?_⟩,?_,λx c e=>?_,?_,λx c e=>?_,λp hp=>?_,hok,I.len⟩
 .exact keep b o (neL b o e) hb (neC b o e hx) (I.base.keep b o e n hb hx) (I.base.free b o e n hx)
 .obtain⟨sl,e1⟩:=I.base.slot b o e n hb hx
  obtain⟨sl',e2⟩:=slot b _ (neL b o e) hb (neC b o e hx) e1 (I.base.free b o e n hx);exact⟨sl',e2⟩
 .obtain⟨o',e1⟩:=I.base.there b o e hx
  exact free b o' (neC b o e hx) e1 (I.base.free b o e n hx)
 .obtain⟨o',e1⟩:=I.base.there b o e hx
  exact there b o' (neC b o e hx) e1
 .obtain⟨m1,e1⟩:=I.base.tbls b ps e
  obtain⟨m2,e2⟩:=tbls b _ e1;exact⟨m1++m2,by rw[e2,Ux]⟩
 .obtain⟨m,hn,hl⟩:=I.loc
  refine⟨m,ns m hn,λi x v e1 e2 e3=>?_⟩;obtain⟨u,r,l⟩:=hl i x v e1 e2 e3;refine⟨u,r,?_⟩;rcases l with l|⟨k,c,e,z⟩
  .exact .inl l
  .exact .inr ⟨k,c,e,cellK x c e _ z⟩
 .obtain⟨v,z⟩:=I.cell x c e
  exact⟨v,cellK x c e v z⟩
 .obtain⟨m,⟨o,_,_,ho,_⟩,_⟩:=I.loc
  exact free _ o (λz=>(hch _ z).2.1 rfl) ho I.free
 .obtain⟨v,o,ho,hd⟩:=I.cell x c e
  exact free c o (λz=>(hch c z).2.2.1 x c e rfl) ho (I.freeC x c e)
 .obtain⟨e,n,ne,nf,d⟩:=I.pin p hp
  have nch:p.1 ∉ ch:=λz=>(hch p.1 z).2.2.2 p hp rfl;exact⟨keep p.1 p.2 ne nf nch e n,free p.1 p.2 nch e n,ne,nf,d⟩
theorem Inv.un {t':Ai}(I:Inv X pins σ H s)(u:Un X.fs [] H H' s.heap h')(hok:HOk X.prog X.w H' h'):Inv X pins σ H' { s with heap:=h',toks:=t' }:=by
 obtain⟨m,⟨o,es,ep,ho,r⟩,_⟩:=id I.loc;obtain⟨sl,hL⟩:=u.any ho I.free (by simp)
 exact I.step (g':=s.gens) (d':=s.drawn) (ch:=[]) (λ_ z=>nomatch z) (λb o _ hb _ e n=>u.keep b o e n hb (by simp)) (λb o _ hb _ e n=>u.slot b o e n hb (by simp)) (λb o _ e n=>u.free b o e n (by simp)) (λb o _ e=>u.there b o e (by simp)) u.tups u.frzs u.tbls (λm' hm=>by
  obtain⟨o',es',ep',ho',r'⟩:=hm;rw[ho] at ho';cases ho';exact⟨_,es',ep',hL,r'⟩) hok I.bare
theorem Inv.call {t':Ai}{d':Drawn}(I:Inv X pins σ H s)(u:Un (frs X.stack) ch H H' s.heap h')(hok:HOk X.prog X.w H' h')(hg:Nh g')
  (hch:∀ b∈ch,(b∈X.ex\/X.s₀.heap.objs.size<=b)/\b≠X.env.locals/\(∀ x c,X.env.cells.lookup x=Ab c->c≠b)/\∀ p∈X.pn++pins,p.1≠b) :
  Inv X pins σ H' { s with heap:=h',gens:=g',drawn:=d',toks:=t' }:=by
 obtain⟨m,⟨o,es,ep,ho,r⟩,_⟩:=id I.loc;obtain⟨sl,hL⟩:=u.any ho I.free λz=>(hch _ z).2.1 rfl;exact I.step (ch:=ch) hch (λb o hL hb hc e n=>u.keep b o e n (λz=>(Ax.mp (I.stkSub b z)).elim hL hb) hc) (λb o _ _ hc e n=>u.any e n hc) (λb o hc e n=>u.free b o e n hc) (λb o hc e=>u.there b o e hc) u.tups u.frzs u.tbls (λm' hm=>by
  obtain⟨o',es',ep',ho',r'⟩:=hm;rw[ho] at ho';cases ho';exact⟨_,es',ep',hL,r'⟩) hok hg
theorem Inv.turned {t':Ai}{it:Af}(I:Inv X pins σ H s)(k:∀ b o,b≠it->s.heap.get? b=Ab o->h'.get? b=Ab o)(hn:H it=none)(hL:it≠X.env.locals)
  (h1:it∈X.ex\/X.s₀.heap.objs.size<=it) (h2:∀ x c,X.env.cells.lookup x=Ab c->c≠it) (h3:∀ p∈X.pn++pins,p.1≠it):Inv X pins σ H { s with heap:=h',toks:=t' }:=by
 have nit:∀ b u,H b=Ab u->b≠it:=λb u e z=>by rw[z,hn] at e;cases e
 refine I.step (g':=s.gens) (d':=s.drawn) (ch:=[it]) (λb hb=>?_) (λb o _ _ hc e _=>k b o (λz=>hc (by simp[z])) e) (λb o _ _ hc e _=>⟨o.slots,k b o (λz=>hc (by simp[z])) e⟩) (λ_ _ _ _ n=>n)
  (λb o hc e=>⟨o,k b o (λz=>hc (by simp[z])) e⟩) (λ_ _ e=>e) (λ_ _ _ e=>e) (λb ps e=>⟨#[],by rw[e];simp⟩) (λm hm=>?_) (λb u e=>?_) I.bare
 .have e:b=it:=by simpa using hb
  subst e;exact⟨h1,hL,h2,h3⟩
 .obtain⟨o,es,ep,ho,r⟩:=hm
  exact⟨o,es,ep,k _ o (Ft hL) ho,r⟩
 .refine(I.hok b u e).stay (λc v hc q=>k c v ?_ q) (λ_ q=>q) λ_ _ q=>q
  rcases hc with z|z
  .rw[z];exact nit b u e
  .exact nit c _ z
theorem Inv.tok (I:Inv X pins σ H s)(t:Ai):Inv X pins σ H { s with toks:=t }:=I.un (h':=s.heap) (t':=t) Un.refl I.hok
theorem Inv.kept {t':Ai}(I:Inv X pins σ H s)(k:∀ b u,s.heap.get? b=Ab u->h'.get? b=Ab u):Inv X pins σ H { s with heap:=h',toks:=t' }:=I.un (Un.kept k) (I.hok.kept k)
theorem Inv.laid {a:Af}{o:HO}{t':Ai}(I:Inv X pins σ H s)(k:∀ b u,s.heap.get? b=Ab u->h'.get? b=Ab u)(hp:s.heap.objs.size<=a)(new:zG X.prog X.w (upd H a o) h' a o) :
  Inv X pins σ (upd H a o) { s with heap:=h',toks:=t' }:=I.un (Un.laid k hp (I.hok.fresh hp)) (I.hok.laid k hp new)
theorem Inv.write {x e:Af}{o:HO}{t':Ai}(I:Inv X pins σ H s)(mu:Mut (H x))(he:e=x\/H e=Ab (.own x))(k:∀ b u,b≠e->s.heap.get? b=Ab u->h'.get? b=Ab u)(heo:∃ u,h'.get? e=Ab u)
  (new:zG X.prog X.w (upd H x o) h' x o):Inv X pins σ (upd H x o) { s with heap:=h',toks:=t' }:=I.un (Un.write mu he k heo) (I.hok.write mu he k heo new)
theorem Inv.pins_of {pins':Aa (Af × Ci)}(I:Inv X pins σ H s)(h:∀ p∈pins',s.heap.get? p.1=Ab p.2/\H p.1=none/\p.1≠X.env.locals/\p.1 ∉ X.fs/\∀ v,p.2.data≠.cell v):Inv X pins' σ H s:=
 ⟨I.ok,I.os,I.bare,I.base,I.loc,I.cell,I.free,I.freeC,λp hp=>(Ce.mp hp).elim (λz=>I.pin p (Cj _ z)) (h p),I.hok,I.len⟩
theorem sI {N:Aa Av}(hN:N.Nodup){i j:Ai}{x:Av}(a:N[i]? = Ab x)(b:N[j]? = Ab x):i=j:=by
 obtain⟨h1,e1⟩:=Bw.mp a;obtain⟨h2,e2⟩:=Bw.mp b;exact(Qe hN).mp (e1.trans e2.symm)
theorem lF {A:Bv}{i:Ai}{x:Av}{v:V}{u:Ac}(I:Inv X pins σ H s)(hN:X.N.Nodup)(hi:X.N[i]? = Ab x)(hx:Loc X.env.scope x)(r:qF v u)
  (h:∀ s',Inv X pins (σ.set i (Ab v)) H s'->(∃ a,Ep a s.heap s'.heap/\(a=X.env.locals\/X.env.cells.lookup x=Ab a))->Q () s') (hf:X.fn x=true\/X.env.scope.names.lookup x=Ab .local:=by first|exact .inl rfl|exact .inr rfl|assumption):Ap M A (Zi X.env x u) Q E s:=by
 obtain⟨m,hn,hl⟩:=id I.loc;have hcls:(X.env.scope.kind == .class||(X.env.scope.kind == .module&&X.env.locals != X.env.globals))=false:=by rw[I.ok.kind];rfl
 have hiσ:i<σ.length:=by rw[I.len];exact(Bw.mp hi).1
 have cne:=I.cne;have tracked:∀ {a:Af} {h':Br},(∃ o,s.heap.get? a=Ab o/\H a=none)->Ep a s.heap h'->HOk X.prog X.w H h':=λ{a h'} ha hs b ob e=>by
  obtain⟨_,_,hfree⟩:=ha;refine(I.hok b ob e).stay (λc w' hc q=>(hs.2 c ?_).trans q) (λ_ q=>q) λ_ _ q=>q;rintro rfl;rcases hc with rfl|hc
  .rw[hfree] at e;cases e
  .rw[hfree] at hc;cases hc
 rcases hx with hk|hk
 .refine wpAny_storeName_local hk hn (λh' hn' hs=>?_) hcls
  obtain⟨oL,_,_,hoL,_⟩:=id hn;refine h _ ⟨I.ok,I.os,I.bare,⟨λb o e n hb hx=>?_,λb o e n hb hx=>?_,I.base.free,λb o e hx=>?_,I.base.tups,I.base.frzs,I.base.tbls⟩,⟨_,hn',λj y v' e1 e2 e3=>?_⟩,λy c e=>?_,I.free,I.freeC,λp hp=>?_,tracked ⟨oL,hoL,I.free⟩ hs,by simpa using I.len⟩ ⟨_,hs,.inl rfl⟩
  .exact(hs.2 b (Cq (Bc (Az e) I.ok.above))).trans (I.base.keep b o e n hb hx)
  .obtain⟨sl,e1⟩:=I.base.slot b o e n hb hx
   exact⟨sl,(hs.2 b (Cq (Bc (Az e) I.ok.above))).trans e1⟩
  .obtain⟨o',e1⟩:=I.base.there b o e hx
   exact⟨o',(hs.2 b (Cq (Bc (Az e) I.ok.above))).trans e1⟩
  .by_cases hj:j=i
   .subst hj
    rw[hi] at e1;cases e1;rw[Ev hiσ] at e2;cases e2;exact⟨u,r,.inl ⟨hk,by simp⟩⟩
   .rw[Cs (Ft hj)] at e2
    obtain⟨u',r',q⟩:=hl j y v' e1 e2 e3;refine⟨u',r',?_⟩;rcases q with⟨k,e⟩|⟨k,c,e,z⟩
    .refine .inl ⟨k,?_⟩
     have:y≠x:=λe=>hj (sI hN e1 (e▸hi));simp[this,e]
    .exact .inr ⟨k,c,e,z.sameBut hs (cne y c e)⟩
  .obtain⟨w',z⟩:=I.cell y c e
   exact⟨w',z.sameBut hs (cne y c e)⟩
  .obtain⟨e,n,ne,nf,d⟩:=I.pin p hp
   exact⟨(hs.2 p.1 ne).trans e,n,ne,nf,d⟩
 .have hfn:X.fn x=true:=by
   rcases hf with z|z
   .exact z
   .rw[z] at hk;cases hk
  obtain⟨c,hc⟩:=I.ok.has x (.inl hk);obtain⟨w',z⟩:=I.cell x c hc;refine wpAny_storeName_cell I.ok.kind hk hc z (λh' hc' hs=>?_);obtain⟨oc,hoc,hocd⟩:=id z;refine h { s with heap:=h' } ⟨I.ok,I.os,I.bare,⟨λb o e n hb hx=>?_,λb o e n hb hx=>?_,I.base.free,λb o e hx=>?_,I.base.tups,I.base.frzs,I.base.tbls⟩,⟨m,hn.sameBut hs (Ft (cne x c hc)),λj y v' e1 e2 e3=>?_⟩,λy c' e=>?_,I.free,I.freeC,λp hp=>?_,tracked ⟨oc,hoc,I.freeC x c hc⟩ hs,by simpa using I.len⟩ ⟨c,hs,.inr hc⟩
  .exact(hs.2 b (Cq (Bc (Az e) (I.ok.cab x c hfn hc)))).trans (I.base.keep b o e n hb hx)
  .obtain⟨sl,e1⟩:=I.base.slot b o e n hb hx
   exact⟨sl,(hs.2 b (Cq (Bc (Az e) (I.ok.cab x c hfn hc)))).trans e1⟩
  .obtain⟨o',e1⟩:=I.base.there b o e hx
   exact⟨o',(hs.2 b (Cq (Bc (Az e) (I.ok.cab x c hfn hc)))).trans e1⟩
  .by_cases hj:j=i
   .subst hj
    rw[hi] at e1;cases e1;rw[Ev hiσ] at e2;cases e2;exact⟨u,r,.inr ⟨.inl hk,c,hc,hc'⟩⟩
   .rw[Cs (Ft hj)] at e2
    obtain⟨u',r',q⟩:=hl j y v' e1 e2 e3;refine⟨u',r',?_⟩;rcases q with q|⟨k,c',e,z'⟩
    .exact .inl q
    .refine .inr ⟨k,c',e,z'.sameBut hs ?_⟩
     rintro rfl;exact hj (sI hN e1 (I.ok.inj _ _ _ e hc▸hi))
  .by_cases hcc:c'=c
   .subst hcc;exact⟨_,hc'⟩
   .obtain⟨w2,z2⟩:=I.cell y c' e
    exact⟨w2,z2.sameBut hs hcc⟩
  .obtain⟨e,n,ne,nf,d⟩:=I.pin p hp
   refine⟨(hs.2 p.1 ?_).trans e,n,ne,nf,d⟩;intro q;rw[q,hoc] at e;have q':oc=p.2:=Cz e;exact d w' (by rw[<- q'];exact hocd)
theorem uH {A:Bv}{i:Ai}{x:Av}{v:V}{u:Ac}(I:Inv X pins σ H s)(hN:X.N.Nodup)(hi:X.N[i]? = Ab x)(hx:Loc X.env.scope x)(r:qF v u)
  (h:∀ s',Inv X pins (σ.set i (Ab v)) H s'->Q () s') (hf:X.fn x=true\/X.env.scope.names.lookup x=Ab .local:=by first|exact .inl rfl|exact .inr rfl|assumption):Ap M A (Zi X.env x u) Q E s:=
 lF I hN hi hx r (λs' I' _=>h s' I') hf
theorem Inv.call' {s':Ag}(I:Inv X pins σ H s)(ho:s'.os=s.os)(u:Un (frs X.stack) ch H H' s.heap s'.heap)(hok:HOk X.prog X.w H' s'.heap)(hg:Nh s'.gens)
  (hch:∀ b∈ch,(b∈X.ex\/X.s₀.heap.objs.size<=b)/\b≠X.env.locals/\(∀ x c,X.env.cells.lookup x=Ab c->c≠b)/\∀ p∈X.pn++pins,p.1≠b):Inv X pins σ H' s':=by
 obtain⟨h',g',d',t',o'⟩:=s';have e:o'=s.os:=ho;subst e;exact I.call (g':=g') (t':=t') (d':=d') u hok hg hch
end
abbrev XK:=Ac->Am Af->Hp->Prop
abbrev St:=Aa (Am V)
abbrev VK:=V->Hp->Prop
abbrev TE:=St->Hp->VK->Prop
abbrev TT:=St->Hp->(Ar->Hp->Prop)->Prop
abbrev TA:=St->Hp->(Aa V->Hp->Prop)->Prop
structure Ends where
 nx:St->Hp->Prop
 rt:VK
 bk:St->Hp->Prop:=λ_ _=>Fd
 ct:St->Hp->Prop:=λ_ _=>Fd
abbrev TS:=Ends->St->Hp->Prop
inductive EP (X:Cx)(pins:Aa (Af × Ci))(σ : St)(Q:VK)(u:Ac)(s':Ag):Prop
 |mk (v:V) (H':Hp) (I:Inv X pins σ H' s') (r:qF v u) (q:Q v H'):EP X pins σ Q u s'
inductive TP (X:Cx)(pins:Aa (Af × Ci))(σ : St)(Q:Ar->Hp->Prop)(b:Ar)(s':Ag):Prop
 |mk (H':Hp) (I:Inv X pins σ H' s') (q:Q b H'):TP X pins σ Q b s'
inductive AP (X:Cx)(pins:Aa (Af × Ci))(σ : St)(Q:Aa V->Hp->Prop)(us:Aa Ac)(s':Ag):Prop
 |mk (vs:Aa V) (H':Hp) (I:Inv X pins σ H' s') (r:qI vs us) (q:Q vs H'):AP X pins σ Q us s'
def SP (X:Cx)(pins:Aa (Af × Ci))(D:Ends)(f:Flow)(s':Ag):Prop:=
 match f with
 |.next=>∃ σ' H',Inv X pins σ' H' s'/\D.nx σ' H'
 |.brk=>∃ σ' H',Inv X pins σ' H' s'/\D.bk σ' H'
 |.cont=>∃ σ' H',Inv X pins σ' H' s'/\D.ct σ' H'
 |.ret u=>∃ v σ' H',Inv X pins σ' H' s'/\qF v u/\D.rt v H'
def PE (X:Cx)(e:Bt)(t:TE):Prop:=
 ∀ (pins:Aa (Af × Ci)) (s:Ag) (σ : St) (H:Hp) (Q:VK),Inv X pins σ H s->t σ H Q->Ap (Au X.prog X.w) X.A (eval e X.env) (EP X pins σ Q) X.xe s
def PT (X:Cx)(e:Bt)(t:TT):Prop:=
 ∀ (pins:Aa (Af × Ci)) (s:Ag) (σ : St) (H:Hp) (Q:Ar->Hp->Prop),Inv X pins σ H s->t σ H Q->Ap (Au X.prog X.w) X.A (isTrue e X.env (eval e X.env)) (TP X pins σ Q) X.xe s
def PW (X:Cx)(e:Bt)(t:TT):Prop:=
 ∀ (whole:Jw Ac) (pins:Aa (Af × Ci)) (s:Ag) (σ : St) (H:Hp) (Q:Ar->Hp->Prop),Inv X pins σ H s->t σ H Q->Ap (Au X.prog X.w) X.A (isTrue e X.env whole) (TP X pins σ Q) X.xe s
def PA (X:Cx)(es:Aa Bt)(t:TA):Prop:=
 ∀ (pos:Eu) (pins:Aa (Af × Ci)) (s:Ag) (σ : St) (H:Hp) (Q:Aa V->Hp->Prop),Inv X pins σ H s->t σ H Q->Ap (Au X.prog X.w) X.A (spliced (Gi pos (Bm es X.env))) (AP X pins σ Q) X.xe s
def PS (X:Cx)(st:Fx)(t:TS):Prop:=
 ∀ (pins:Aa (Af × Ci)) (s:Ag) (σ : St) (H:Hp) (D:Ends),Inv X pins σ H s->t D σ H->Ap (Au X.prog X.w) X.A (exec st X.env) (SP X pins D) X.xe s
def PSs (X:Cx)(st:Aa Fx)(t:TS):Prop:=
 ∀ (pins:Aa (Af × Ci)) (s:Ag) (σ : St) (H:Hp) (D:Ends),Inv X pins σ H s->t D σ H->Ap (Au X.prog X.w) X.A (execs st X.env) (SP X pins D) X.xe s
theorem thn {α:Type}{t:Jw α}{Q Q':α->Ag->Prop}{A:Bv}{s:Ag}(h:Ap M A t Q E s)(hQ:∀ a s,Q a s->Q' a s):Ap M A t Q' E s:=II h hQ λ_ _ x=>x
end _L
namespace _L
open PySem PySem.Spec PyProof.Rows
variable {pins:Aa (Af × Ci)}{u:Ac}{E Q:Ac->Ag->Prop}
section
variable {X:Cx}
theorem bin {a b:Bt}{ta tb:TE}(ha:PE X a ta)(hb:PE X b tb){pins:Aa (Af × Ci)}{s:Ag}{σ : St}{H:Hp}{R:V->V->Hp->Prop}(I:Inv X pins σ H s)(h:ta σ H λx H1=>tb σ H1 λy H2=>R x y H2)
  {α:Type} {Q:α->Ag->Prop} {f:Ac->Ac->Jw α}
  (hf:∀ v u s2 x y H2,Inv X pins σ H2 s2->qF x v->qF y u->R x y H2->Ap (Au X.prog X.w) X.A (f v u) Q X.xe s2) :
  Ap (Au X.prog X.w) X.A (eval a X.env) (λv s₁=>Ap (Au X.prog X.w) X.A (eval b X.env) (λu s₂=>Ap (Au X.prog X.w) X.A (f v u) Q X.xe s₂) X.xe s₁) X.xe s:=by
 refine thn (ha pins s σ H _ I h) λv s1 ⟨x,H1,I1,r1,q1⟩=>?_;refine thn (hb pins s1 σ H1 _ I1 q1) λu s2 ⟨y,H2,I2,r2,q2⟩=>?_;exact hf v u s2 x y H2 I2 r1 r2 q2
def LU (i:Ai):TE:=λσ H Q=>∃ v,σ[i]? = Ab (Ab v)/\Q v H
def tC (v:V):TE:=λ_ H Q=>Q v H
theorem N6 {i:Ai}{x:Av}{pos:Eu}(hN:X.N[i]? = Ab x)(hv:Vis X.env.scope x)(hd:(x == ("__debug__" : Av))=false:=by decide)(hcd:(x == ("__classdict__" : Av))=false:=by decide):PE X (.Name x pos) (LU i):=by
 intro pins s σ H Q I h;obtain⟨v,e,h⟩:=h;obtain⟨m,hn,hl⟩:=I.loc;obtain⟨u,r,l⟩:=hl i x v hN e hv;have fin:EP X pins σ Q u s:=⟨v,H,I,r,h⟩;rcases l with⟨hk,hm⟩|⟨hk,c,hc,hcell⟩
 .exact Yn (Tf I.ok.kind hk hn hm fin) hd
 .rcases hk with hk|hk
  .exact Yn (Ts I.ok.kind hk hc hcell fin) hd
  .exact Yn (wpAny_loadName_free I.ok.kind hk hc hcell fin hcd) hd
theorem N1:PE X (.Constant (.int i) j pos) (tC (.int i)):=λ_ _ _ H _ I h=>wpAny_Constant_int ⟨.int i,H,I.tok _,⟨_,rfl⟩,h⟩
theorem RG:PE X (.Constant (.bool b) j pos) (tC (.bl b)):=λ_ _ _ H _ I h=>Constant_bool ⟨.bl b,H,I,rfl,h⟩
theorem N2:PE X (.Constant .none j pos) (tC .non):=λ_ _ _ H _ I h=>Constant_none ⟨.non,H,I,rfl,h⟩
theorem N4:PE X (.Constant (.str x) j pos) (tC (.str x)):=λ_ _ _ H _ I h=>Calls.Constant_str ⟨.str x,H,I.tok _,⟨_,rfl⟩,h⟩
def Gl (X:Cx)(x:Av):Prop:=X.env.kindOf x=Ab .globalImplicit
theorem pM {s:Ag}{σ:St}{H:Hp}{x:Av}{pos:Eu}(I:Inv X pins σ H s)(hg:Gl X x)(hm:X.mg x=Ab u)(h:Q u s)
  (hd:(x == ("__debug__" : Av))=false:=by decide):Ap (Au X.prog X.w) X.A (eval (.Name x pos) X.env) Q E s:=
 OH I.ok.kind hg (Calls.loadGlobal_global (by rw[I.ok.glob];exact I.mod.glob.keeps I.bk) hm h) hd
theorem wI {s:Ag}{σ:St}{H:Hp}{x:Av}{pos:Eu}(I:Inv X pins σ H s)(hg:Gl X x)(hm:X.mg x=none)(hv:Fm x=Ab u)(h:Q u s)
  (hn:x ≠ "__name__":=by decide) (hd:(x == ("__debug__" : Av))=false:=by decide):Ap (Au X.prog X.w) X.A (eval (.Name x pos) X.env) Q E s:=by
 obtain⟨mb,h1,h2⟩:=I.mod.blt;exact OH I.ok.kind hg (Calls.loadGlobal_builtin (by rw[I.ok.glob];exact I.mod.glob.keeps I.bk) hm (by rw[I.ok.blt];exact h1.keeps I.bk) ((h2 x hn).trans hv) h) hd
theorem GD {x:Av}{v:V}{pos:Eu}(hg:Gl X x)(hm:X.mg x=Ab u)(r:qF v u)(hd:(x == ("__debug__" : Av))=false:=by decide):PE X (.Name x pos) (tC v):=
 λ_ _ _ H _ I h=>pM I hg hm ⟨v,H,I,r,h⟩ hd
theorem GC {x:Av}{v:V}{pos:Eu}(hg:Gl X x)(hm:X.mg x=none)(hv:Fm x=Ab u)(r:qF v u)(hn:x ≠ "__name__":=by decide)(hd:(x == ("__debug__" : Av))=false:=by decide):PE X (.Name x pos) (tC v):=
 λ_ _ _ H _ I h=>wI I hg hm hv ⟨v,H,I,r,h⟩ hn hd
variable {a b:Bt}{ta tb:TE}{pos:Eu}
variable {tA tB':TT}{qJ:Aa Bt}
theorem GP (ha:PT X a tA):PW X (.BoolOp .And [a] pos) tA:=by
 intro wh pins s σ H Q I h;refine isTrue_and (thn (ha pins s σ H Q I h) λc s1 e=>?_);cases c with
 |true=>exact isTrue_and_nil e
 |false=>exact e
theorem NH (ha:PT X a tA):PW X (.BoolOp .Or [a] pos) tA:=by
 intro wh pins s σ H Q I h;refine isTrue_or (thn (ha pins s σ H Q I h) λc s1 e=>?_);cases c with
 |false=>exact isTrue_or_nil e
 |true=>exact e
theorem N3 {t:TE}(h:PE X a t):PE X (.BoolOp op [a] pos) t:=λpins s σ H Q I hw=>BoolOp_one (h pins s σ H Q I hw)
end
end _L
namespace _L
open PySem PySem.Spec PyProof.Rows
variable {es:Aa Bt}{i:Ai}{K:Aj}{x:Av}{P:Be}{tg:Bt}{w:Bx}
def SqL (K:Aj)(H:Hp)(a:Af)(xs:Aa V):Prop:=
 Rd H a (.lst xs) \/
  ∃ (o:Ci) (its:Ay Ac) (n:Ai),K.lookup a=Ab o/\o.cls=.type "list" /\ o.dict=none/\o.data=.seq its n/\its.size<=sizeLine/\qI xs its.toList
def SqT (K:Aj)(H:Hp)(a:Af)(xs:Aa V):Prop:=
 Rd H a (.tup xs) \/
  ∃ (o:Ci) (its:Ay Ac) (n:Ai),K.lookup a=Ab o/\o.cls=.type "tuple" /\ o.data=.seq its n/\its.size<=sizeLine/\qI xs its.toList
noncomputable def EY:Ac->Am V
 |.none=>Ab .non
 |.bool b=>Ab (.bl b)
 |.int i _=>Ab (.int i)
 |.str x _=>Ab (.str x)
 |.bytes b _=>Ab (.byt b)
 |.float b _=>Ab (.flt b)
 |.ref a=>Ab (.ref a)
 |.type n=>Ab (.ty n)
 |_=>none
theorem qF.abs {x:V}{u:Ac}(r:qF x u):EY u=Ab x:=by
 cases x with
 |non=>cases r;rfl
 |bl _=>cases r;rfl
 |int _=>obtain⟨t,rfl⟩:=r;rfl
 |str _=>obtain⟨t,rfl⟩:=r;rfl
 |byt _=>obtain⟨t,rfl⟩:=r;rfl
 |flt _=>obtain⟨t,rfl⟩:=r;rfl
 |ref _=>cases r;rfl
 |ty _=>cases r;rfl
theorem qF.inj {x y:V}{u:Ac}(r:qF x u)(q:qF y u):x=y:=Cz (r.abs.symm.trans q.abs)
theorem qI.inj {xs ys:Aa V}{us:Aa Ac}(h:qI xs us)(k:qI ys us):xs=ys:=by
 induction h generalizing ys with
 |nil=>cases k;rfl
 |cons r t ih =>
  cases k with
  |cons r' t'=>rw[r.inj r',ih t']
section
variable {X:Cx}{pins:Aa (Af × Ci)}{σ : St}{H:Hp}{s:Ag}{a:Af}{xs ys:Aa V}
theorem SqL.of (h:H a=Ab (.lst xs)):SqL K H a xs:=.inl (.inl h)
theorem SqT.of (h:H a=Ab (.tup xs)):SqT K H a xs:=.inl (.inl h)
theorem Inv.list (I:Inv X pins σ H s)(h:SqL X.K H a xs):∃ its:Aa Ac,qI xs its/\PlainL s.heap a its.toArray/\xs.length<=sizeLine:=by
 rcases h with h|⟨o,its,n,hk,hc,hd,hs,hz,r⟩
 .obtain⟨z,its,n,r,e⟩:=h.ok I.hok
  exact⟨its,r,⟨_,n,e,rfl,rfl,rfl⟩,z⟩
 .refine⟨its.toList,r,⟨o,n,I.kIn a o hk,hc,hd,by simpa using hs⟩,?_⟩
  have e:=r.length;simp only[Bg] at e;omega
theorem Inv.tuple (I:Inv X pins σ H s)(h:SqT X.K H a xs):∃ its:Aa Ac,qI xs its/\Oy s.heap a its.toArray/\xs.length<=sizeLine:=by
 rcases h with h|⟨o,its,n,hk,hc,hs,hz,r⟩
 .obtain⟨z,its,r,p⟩:=h.ok I.hok
  exact⟨its,r,p,z⟩
 .refine⟨its.toList,r,⟨o,I.kIn a o hk,hc,n,by simpa using hs⟩,?_⟩
  have e:=r.length;simp only[Bg] at e;omega
theorem Inv.list_inj (I:Inv X pins σ H s)(h:SqL X.K H a xs)(h':SqL X.K H a ys):xs=ys:=by
 obtain⟨its,r,⟨o,n,e,_,_,d⟩,_⟩:=I.list h;obtain⟨its',r',⟨o',n',e',_,_,d'⟩,_⟩:=I.list h';rw[e] at e';cases e';rw[d] at d';injection d' with d1 _
 have:its=its':=by simpa using congrArg Vq d1
 subst this;exact r.inj r'
theorem Inv.tuple_inj (I:Inv X pins σ H s)(h:SqT X.K H a xs)(h':SqT X.K H a ys):xs=ys:=by
 obtain⟨its,r,⟨o,e,_,n,d⟩,_⟩:=I.tuple h;obtain⟨its',r',⟨o',e',_,n',d'⟩,_⟩:=I.tuple h';rw[e] at e';cases e';rw[d] at d';injection d' with d1 _
 have:its=its':=by simpa using congrArg Vq d1
 subst this;exact r.inj r'
end
abbrev Cx.wish (X:Cx)(E:Ac->Ag->Prop):Cx:={ X with xe:=E }
abbrev Cx.nox (X:Cx):Cx:=X.wish λ_ _=>Fd
theorem Cx.Ok.wish {X:Cx}(ok:X.Ok)(E:Ac->Ag->Prop):(X.wish E).Ok:=
 ⟨ok.mod,ok.kind,ok.glob,ok.blt,ok.above,ok.inj,ok.has,ok.cab,ok.hd,ok.frames,ok.stk,ok.exf,ok.bs,ok.bsz,ok.noex,ok.exfs,ok.funs,ok.frf⟩
theorem Cx.Ok.unwish {X:Cx}{E:Ac->Ag->Prop}(ok:(X.wish E).Ok):X.Ok:=
 ⟨ok.mod,ok.kind,ok.glob,ok.blt,ok.above,ok.inj,ok.has,ok.cab,ok.hd,ok.frames,ok.stk,ok.exf,ok.bs,ok.bsz,ok.noex,ok.exfs,ok.funs,ok.frf⟩
section
variable {X:Cx}{pins:Aa (Af × Ci)}{σ : St}{H:Hp}{s:Ag}{E:Ac->Ag->Prop}
theorem Inv.wish (I:Inv X pins σ H s)(E:Ac->Ag->Prop):Inv (X.wish E) pins σ H s:=⟨I.ok.wish E,I.os,I.bare,I.base,I.loc,I.cell,I.free,I.freeC,I.pin,I.hok,I.len⟩
theorem Inv.unwish (I:Inv (X.wish E) pins σ H s):Inv X pins σ H s:=⟨I.ok.unwish,I.os,I.bare,I.base,I.loc,I.cell,I.free,I.freeC,I.pin,I.hok,I.len⟩
theorem SP.unwish {D:Ends}{f:Flow}{s':Ag}(h:SP (X.wish E) pins D f s'):SP X pins D f s':=by
 cases f with
 |next=>obtain⟨σ',H',I,q⟩:=h;exact⟨σ',H',I.unwish,q⟩
 |brk=>obtain⟨σ',H',I,q⟩:=h;exact⟨σ',H',I.unwish,q⟩
 |cont=>obtain⟨σ',H',I,q⟩:=h;exact⟨σ',H',I.unwish,q⟩
 |ret u=>obtain⟨v,σ',H',I,r,q⟩:=h;exact⟨v,σ',H',I.unwish,r,q⟩
theorem PE.nox {e:Bt}{t:TE}(h:PE X.nox e t):PE X e t:=λpins s σ H Q I hw =>
 II (h pins s σ H Q (I.wish _) hw) (λ_ _ ⟨v,H',I',r,q⟩=>⟨v,H',I'.unwish,r,q⟩) λ_ _ z=>Aq z
theorem PT.nox {e:Bt}{t:TT}(h:PT X.nox e t):PT X e t:=λpins s σ H Q I hw =>
 II (h pins s σ H Q (I.wish _) hw) (λ_ _ ⟨H',I',q⟩=>⟨H',I'.unwish,q⟩) λ_ _ z=>Aq z
theorem PSs.nox {st:Aa Fx}{t:TS}(h:PSs X.nox st t):PSs X st t:=λpins s σ H D I hw =>
 II (h pins s σ H D (I.wish _) hw) (λ_ _ q=>q.unwish) λ_ _ z=>Aq z
end
section
variable {X:Cx}{st:Fx}{qJ:Aa Fx}{t u:TS}{e:Bt}{te:TE}{pos:Eu}
def E2:TS:=λD σ H=>D.nx σ H
def CB (t u:TS):TS:=λD σ H=>t { D with nx:=u D } σ H
theorem GN:PSs X [] E2:=λ_ _ σ H _ I h=>Oa ⟨σ,H,I,h⟩
theorem YD (h1:PS X st t)(h2:PSs X qJ u):PSs X (st::qJ) (CB t u):=by
 intro pins s σ H D I h;refine WF (thn (h1 pins s σ H { D with nx:=u D } I h) λf s1 q=>?_)
 cases f with
 |next =>
  obtain⟨σ',H',I',q⟩:=q;exact h2 pins s1 σ' H' D I' q
 |ret v=>exact q
 |brk=>exact q
 |cont=>exact q
theorem GO (h1:PS X st t):PSs X [st] t:=by
 intro pins s σ H D I h;refine WF (thn (h1 pins s σ H D I h) λf s1 q=>?_);cases f with
 |next=>exact Oa q
 |ret v=>exact q
 |brk=>exact q
 |cont=>exact q
theorem Inv.quiet {pins:Aa (Af × Ci)}{σ:St}{H:Hp}{s:Ag}(I:Inv X pins σ H s):interactive X.env=false:=by simp[interactive,I.ok.kind]
end
abbrev TG:=V->St->Hp->(St->Hp->Prop)->Prop
abbrev TGs:=Aa V->St->Hp->(St->Hp->Prop)->Prop
def PG (X:Cx)(target:Bt)(t:TG):Prop:=
 ∀ (pins:Aa (Af × Ci)) (s:Ag) (σ : St) (H:Hp) (v:V) (u:Ac) (Q:St->Hp->Prop),Inv X pins σ H s->qF v u->t v σ H Q ->
  Ap (Au X.prog X.w) X.A (assign target X.env u) (λ_ s'=>∃ σ' H',Inv X pins σ' H' s'/\Q σ' H') X.xe s
def PGs (X:Cx)(ts:Aa Bt)(t:TGs):Prop:=
 ∀ (pins:Aa (Af × Ci)) (s:Ag) (σ : St) (H:Hp) (vs:Aa V) (us:Aa Ac) (Q:St->Hp->Prop),Inv X pins σ H s->qI vs us->t vs σ H Q ->
  Ap (Au X.prog X.w) X.A (Tt ((Go ts X.env).map (·.2)) us) (λ_ s'=>∃ σ' H',Inv X pins σ' H' s'/\Q σ' H') X.xe s
abbrev BU:=V->V->V->Hp->(Hp->Prop)->Prop
def d3 (X:Cx)(t:BU):Prop:=
 ∀ (pins:Aa (Af × Ci)) (s:Ag) (σ : St) (H:Hp) (o i v:V) (ov iv u:Ac) (Q:Hp->Prop),Inv X pins σ H s->qF o ov->qF i iv->qF v u->t o i v H Q ->
  Ap (Au X.prog X.w) X.A (Zj ov iv u) (λ_ s'=>∃ H',Inv X pins σ H' s'/\Q H') X.xe s
abbrev TIp:=V->V->Hp->VK->Prop
def PIp (X:Cx)(op:Mx)(t:TIp):Prop:=
 ∀ (pins:Aa (Af × Ci)) (s:Ag) (σ : St) (H:Hp) (x y:V) (v u:Ac) (Q:VK),Inv X pins σ H s->qF x v->qF y u->t x y H Q ->
  Ap (Au X.prog X.w) X.A (inplaceOp op v u) (EP X pins σ Q) X.xe s
section
variable {X:Cx}{pos:Eu}
def SG (i:Ai):TG:=λv σ H Q=>Q (σ.set i (Ab v)) H
theorem GE (hN:X.N.Nodup)(hi:X.N[i]? = Ab x)(hx:Loc X.env.scope x)(hf:X.fn x=true\/X.env.scope.names.lookup x=Ab .local:=by first|exact .inl rfl|exact .inr rfl|assumption):PG X (.Name x pos) (SG i):=by
 intro pins s σ H v u Q I r h;exact Wc (uH I hN hi hx r (λs' I'=>⟨_,H,I',h⟩) hf)
def HI:TGs:=λvs σ H Q=>vs=[]/\Q σ H
def SE (t:TG)(u:TGs):TGs:=λvs σ H Q=>∃ v r,vs=v::r/\t v σ H λσ' H'=>u r σ' H' Q
theorem GF:PGs X [] HI:=by
 intro pins s σ H vs us Q I r h;obtain⟨e,h⟩:=h;subst e;cases r;exact Wd ⟨σ,H,I,h⟩
theorem Y9 {e:Bt}{t:TG}{u:TGs}(h1:PG X e t)(h2:PGs X es u)
  (hs:(Go (e::es) X.env).map (·.2)=assign e X.env::(Go es X.env).map (·.2):=by rfl):PGs X (e::es) (SE t u):=by
 intro pins s σ H vs us Q I r h;obtain⟨v,vr,e1,h⟩:=h;subst e1;cases r with
 |cons r rr =>
  rw[hs];refine OE (thn (h1 pins s σ H _ _ _ I r h) λ_ s1 ⟨σ1,H1,I1,q1⟩=>?_);exact h2 pins s1 σ1 H1 _ _ Q I1 rr q1
def HJ (K:Aj)(n:Ai)(t:TGs):TG:=λv σ H Q=>∃ a xs,v=.ref a/\SqT K H a xs/\xs.length=n/\t xs σ H Q
theorem N7 {k:Ai}{t:TGs}{n:Ai}(hc:X.calm=true)(h:PGs X es t)
  (hn:(Go es X.env).length=n:=by rfl) (hst:(Go es X.env).findIdx? (·.1)=none:=by rfl):PG X (.Tuple es k pos) (HJ X.K n t):=by
 intro pins s σ H v u Q I r hw;obtain⟨a,xs,e1,hq,hl,hw⟩:=hw;subst e1;cases r;obtain⟨its,rv,ht,hz⟩:=I.tuple hq;refine assign_Tuple_tuple (I.ok.hd hc) ht (by simp[hn,<- hl,rv.length]) hst λh' hx=>?_
 have I1:Inv X pins σ H { s with heap:=h' }:=I.kept (t':=s.toks) λb o e=>hx b o (Cq (Az e)) e
 exact h pins _ σ H xs _ Q I1 (by simpa using rv) hw
def CA (i j:Ai)(ta:TA):TS:=λD σ H=>ta σ H λvs H1=>∃ v w,vs=[v,w]/\D.nx ((σ.set i (Ab v)).set j (Ab w)) H1
theorem ND {j:Ai}{y:Av}{a b:Bt}{ta:TA}{px py pt:Eu} {kt k2 pt2} (hc:X.calm=true) (hN:X.N.Nodup) (hi:X.N[i]? = Ab x) (hj:X.N[j]? = Ab y) (hij:i≠j)
  (hx:X.env.scope.names.lookup x=Ab .local) (hy:X.env.scope.names.lookup y=Ab .local) (ha:PA X [a,b] ta)
  (hw:Ku [.Tuple [.Name x px,.Name y py] kt pt] (.Tuple [a,b] k2 pt2) X.env=pure (Ab [x,y]))
  (hs:Kv [.Tuple [.Name x px,.Name y py] kt pt] (.Tuple [a,b] k2 pt2) pos.line X.env=pure false:=by rfl) :
  PS X (.Assign [.Tuple [.Name x px,.Name y py] kt pt] (.Tuple [a,b] k2 pt2) pos) (CA i j ta):=by
 intro pins s σ H D I h;rw[exec_Assign_arm];refine Ad (Jm ?_);rw[hs];refine Ad (Al ?_);rw[Bj (by decide)]
 refine Ad (Tuple_ (thn (ha _ pins s σ H _ I h) λus s1 ⟨vs,H1,I1,r1,q1⟩=>?_));obtain⟨v,w,e1,q1⟩:=q1;subst e1;obtain⟨u1,u2,rfl,rv,rw'⟩:∃ u1 u2,us=[u1,u2]/\qF v u1/\qF w u2:=by
  cases r1 with
  |cons p q =>
   cases q with
   |cons p' q' =>
    cases q';exact⟨_,_,rfl,p,p'⟩
 refine Dp ?_ (by show 2<=sizeLine;decide)
 have I2:Inv X pins σ H1 { s1 with heap:=s1.heap.push { cls:=.type "tuple",data:=.seq [u1,u2].toArray } }:=I1.kept (t':=s1.toks) λb o e=>Ah _ e
 rw[hw];refine Ad (Al ?_);show Ap (Au X.prog X.w) X.A (do rule "assign.swapped-stores";let items <- unpackItems (.ref s1.heap.objs.size) 2 none;Tt [λv=>Xz X.env y v,λv=>Xz X.env x v] items.reverse;pure Flow.next) _ _ _
 refine Ad (Gp (Ad (unpackItems_tuple (items:=#[u1,u2]) (I.ok.hd hc) (We s1.heap _) λh' hx'=>?_)));have I3:=I2.kept (h':=h') (t':=s1.toks) λb o e=>hx' b o (Cq (Az e)) e;show Ap _ _ (Tt [λv=>Xz X.env y v,λv=>Xz X.env x v] [u2,u1] >>= λ_=>pure Flow.next) _ _ _;refine Ad (OE (wpAny_bindName (uH I3 hN hj (.inl hy) rw' (λs2 I4=>?_) (.inr hy))));refine OE (wpAny_bindName (uH I4 hN hi (.inl hx) rv (λs3 I5=>Wd (Al ?_)) (.inr hx)));rw[List.set_comm _ _ (Ft hij)] at I5;exact⟨_,H1,I5,q1⟩
def C5 (i:Ai)(te:TE)(ti:TIp):TS:=λD σ H=>∃ x,σ[i]? = Ab (Ab x)/\te σ H λy H1=>ti x y H1 λz H2=>D.nx (σ.set i (Ab z)) H2
theorem NB {e:Bt}{te:TE}{op:Mx}{ti:TIp}{pos':Eu}(hN:X.N.Nodup)(hi:X.N[i]? = Ab x)(hx:Loc X.env.scope x)(he:PE X e te)(ho:PIp X op ti)(hf:X.fn x=true\/X.env.scope.names.lookup x=Ab .local:=by first|exact .inl rfl|exact .inr rfl|assumption) :
  PS X (.AugAssign (.Name x pos') op e pos) (C5 i te ti):=by
 intro pins s σ H D I h;obtain⟨v,e1,h⟩:=h;obtain⟨m,hn,hl⟩:=I.loc;have vis:Vis X.env.scope x:=by rcases hx with k|k;exact .inl k;exact .inr (.inl k)
 obtain⟨u,r,l⟩:=hl i x v hi e1 vis;refine wpAny_AugAssign_Name ?_;have go:Ap (Au X.prog X.w) X.A (eval e X.env) (λw s₂=>Ap (Au X.prog X.w) X.A (inplaceOp op u w) (λr s₃=>Ap (Au X.prog X.w) X.A (Zi X.env x r) (λ_=>SP X pins D .next) X.xe s₃) X.xe s₂) X.xe s:=by
  refine thn (he pins s σ H _ I h) λw s1 ⟨y,H1,I1,r1,q1⟩=>?_;refine thn (ho pins s1 σ H1 v y u w _ I1 r r1 q1) λz s2 ⟨zv,H2,I2,r2,q2⟩=>?_;exact uH I2 hN hi hx r2 (λs3 I3=>⟨_,H2,I3,q2⟩) hf
 rcases l with⟨hk,hm⟩|⟨hk,c,hc,hcell⟩
 .exact Tf I.ok.kind hk hn hm go
 .rcases hk with hk|hk
  .exact Ts I.ok.kind hk hc hcell go
  .rcases hx with k|k
   .have:X.env.scope.names.lookup x=Ab .free:=hk
    rw[k] at this;cases this
   .have:X.env.scope.names.lookup x=Ab .free:=hk
    rw[k] at this;cases this
def ipI (f:Ak->Ak->Ak):TIp:=λx y H Q=>∃ i j,x=.int i/\y=.int j/\Q (.int (f i j)) H
theorem ME:PIp X .Add (ipI λi j=>i+j):=by
 intro pins s σ H x y v u Q I r1 r2 h;obtain⟨i,j,e1,e2,q⟩:=h;subst e1;subst e2;obtain⟨t,rfl⟩:=r1;obtain⟨t',rfl⟩:=r2;exact iadd_int ⟨.int _,H,I.tok _,⟨_,rfl⟩,q⟩
end
section
variable {X:Cx}{pos:Eu}
def LV (c:TT)(tb:TS):TS:=λD σ H=>∃ W:Ai->St->Hp->Prop,(∃ m,W m σ H)/\∀ m σ H,W m σ H ->
 c σ H λb H1=>if b=true then ∃ N:St->Hp->Prop,(∀ σ' H',N σ' H'->∃ m',m'<m/\W m' σ' H')/\tb { D with nx:=N,ct:=N,bk:=D.nx } σ H1 else D.nx σ H1
theorem YC {c:Bt}{body:Aa Fx}{tc:TT}{tb:TS}(hp:OV (Au X.prog X.w) X.A X.env X.xe)(hc:PT X c tc)(hb:PSs X body tb):PS X (.While c body [] pos) (LV tc tb):=by
 intro pins s σ H D I h;obtain⟨W,⟨m0,w0⟩,turn⟩:=h;refine wpAny_While (codeAny_whileLoop (λn s'=>∃ σ' H',Inv X pins σ' H' s'/\W n σ' H') ?_ m0 ⟨σ,H,I,w0⟩);rintro n s1 ⟨σ1,H1,I1,w1⟩;refine IL hp (thn (hc pins s1 σ1 H1 _ I1 (turn n σ1 H1 w1)) λb s2 ⟨H2,I2,q2⟩=>?_);cases b with
 |true =>
  obtain⟨N,hN,q2⟩:=q2;rw[Bp rfl];refine IL hp (thn (hb pins s2 σ1 H2 _ I2 q2) λf s3 q3=>?_);cases f with
  |next =>
   obtain⟨σ3,H3,I3,n3⟩:=q3;obtain⟨m',hm,w3⟩:=hN σ3 H3 n3;exact⟨m',hm,σ3,H3,I3,w3⟩
  |cont =>
   obtain⟨σ3,H3,I3,n3⟩:=q3;obtain⟨m',hm,w3⟩:=hN σ3 H3 n3;exact⟨m',hm,σ3,H3,I3,w3⟩
  |brk=>exact q3
  |ret v=>exact q3
 |false =>
  rw[Bj Jk];exact Oa ⟨σ1,H2,I2,q2⟩
end
structure It where
 go:Ai->Hp->Prop
 yld:Ai->Hp->V->Hp->Prop
 stop:Ai->Hp->Prop
def x5 (X:Cx)(pins:Aa (Af × Ci))(H:Hp)(b:Af):Prop:=
 H b=none/\b≠X.env.locals/\b ∉ X.fs/\(b∈X.ex\/X.s₀.heap.objs.size<=b)/\(∀ x c,X.env.cells.lookup x=Ab c->c≠b)/\∀ p∈X.pn++pins,p.1≠b
theorem Inv.fpOk {X:Cx}{pins:Aa (Af × Ci)}{σ:St}{H H':Hp}{s:Ag}{b:Af}(I:Inv X pins σ H s)(hb:s.heap.objs.size<=b)(hn:H' b=none):x5 X pins H' b:=by
 refine⟨hn,Fw (Bc I.lt hb),I.nofs hb,.inr (Dh I.sz hb),λx c e z=>?_,λp hp z=>?_⟩
 .obtain⟨v,q⟩:=I.cell x c e
  exact absurd (Bc q.lt (by rw[z];exact hb)) (Ek _)
 .exact absurd (Bc (Az (I.pin p hp).1) (by rw[z];exact hb)) (Ek _)
structure Turn (P:Be)(w:Bx)(K:Aj)(tg:Bt)(J:It)(fp:Aa Af)(it:Af)(tn:Ai->Br->Prop):Prop where
 mem:it∈fp
 obj:∀ i h,tn i h->∀ b∈fp,∃ o,h.get? b=Ab o/\∀ v,o.data≠.cell v
 keep:∀ i h h',tn i h->(∀ b∈fp,∀ o,h.get? b=Ab o->h'.get? b=Ab o)->tn i h'
 item:∀ (X:Cx),X.prog=P->X.w=w->X.K=K->X.calm=true->∀ (i:Ai) (pins:Aa (Af × Ci)) (s:Ag) (σ : St) (H:Hp) (E:Ac->Ag->Prop),Inv X pins σ H s->(∀ b∈fp,x5 X pins H b)->tn i s.heap->J.go i H ->
  Ap (Au P w) X.A (Mi (.ref it)) (λr s1=>∃ u,r=Ab u /\
   Ap (Au P w) X.A (Jn tg (.ref it) u) (λ_ s2=>∃ x H',Inv X pins σ H' s2/\qF x u/\J.yld i H x H'/\tn (i+1) s2.heap/\∀ b∈fp,H' b=none) E s1) E s
 done:∀ (X:Cx),X.prog=P->X.w=w->X.K=K->X.calm=true->∀ (i:Ai) (pins:Aa (Af × Ci)) (s:Ag) (σ : St) (H:Hp) (E:Ac->Ag->Prop),Inv X pins σ H s->(∀ b∈fp,x5 X pins H b)->tn i s.heap->J.stop i H ->
  Ap (Au P w) X.A (Mi (.ref it)) (λr s1=>r=none/\Inv X pins σ H s1) E s
 self:∀ (A:Bv) (i:Ai) (s:Ag) (Q:Ac->Ag->Prop) (E:Ac->Ag->Prop),tn i s.heap->Q (.ref it) s->Ap (Au P w) A (Nj (.ref it)) Q E s
abbrev TI:=St->Hp->(It->Hp->Prop)->Prop
inductive PIE (X:Cx)(pins:Aa (Af × Ci))(σ : St)(tg:Bt)(R:It->Hp->Prop)(itv:Ac)(s2:Ag):Prop
 |mk (it:Af) (fp:Aa Af) (tn:Ai->Br->Prop) (J:It) (H':Hp) (e:itv=.ref it) (I:Inv X pins σ H' s2) (t:Turn X.prog X.w X.K tg J fp it tn) (z:tn 0 s2.heap) (f:∀ b∈fp,x5 X pins H' b) (q:R J H'):PIE X pins σ tg R itv s2
def PI (X:Cx)(tg iter:Bt)(wi:TI):Prop:=
 ∀ (pins:Aa (Af × Ci)) (s:Ag) (σ : St) (H:Hp) (R:It->Hp->Prop),Inv X pins σ H s->wi σ H R ->
  Ap (Au X.prog X.w) X.A (eval iter X.env) (λv s1=>Ap (Au X.prog X.w) X.A (Nj v) (PIE X pins σ tg R) X.xe s1) X.xe s
theorem lR {M:Ni}{A:Bv}{E:Ac->Ag->Prop}{s:Ag}{it:Af}{u:Ac}{o:Ci}{n:Et}{vs:Ay Ac}{Q:Su->Ag->Prop}(ho:s.heap.get? it=Ab o)(hc:o.cls=.type n)(hd:o.data=.fields vs)
    (hn:["enumerate","zip","dict_itemiterator","dict_reverseitemiterator","odict_iterator","itertools.zip_longest","itertools.pairwise"].contains n=false) (hQ:Q () s):Ap M A (Jn tg (.ref it) u) Q E s:=by
  unfold Jn;cases tg <;> first
    |exact Al hQ
    |(cases u <;> first
        |exact Al hQ
        | (refine Ad (wpAny_load ho ?_)
           rw[hc,hd];show Ap M A (if (["enumerate","zip","dict_itemiterator","dict_reverseitemiterator","odict_iterator","itertools.zip_longest","itertools.pairwise"].contains n&&vs[0]? == Ab (Nk _))=true then _ else _) Q E s
           rw[Bj (by intro h;rw[hn,Gu] at h;cases h)]
           exact Al hQ))
noncomputable def Itl (K:Aj)(a:Af):It:=
 ⟨λi H=>∃ xs x,SqL K H a xs/\xs[i]? = Ab x,λi H x H'=>H'=H/\∀ xs,SqL K H a xs->xs[i]? = Ab x,λi H=>∃ xs,SqL K H a xs/\xs.length<=i⟩
noncomputable def Itt (K:Aj)(a:Af):It:=
 ⟨λi H=>∃ xs x,SqT K H a xs/\xs[i]? = Ab x,λi H x H'=>H'=H/\∀ xs,SqT K H a xs->xs[i]? = Ab x,λi H=>∃ xs,SqT K H a xs/\xs.length<=i⟩
noncomputable def Itr (lo:Ak)(n:Ai):It:=⟨λi _=>i<n,λi H x H'=>H'=H/\x=.int (lo+i),λi _=>n<=i⟩
theorem lG (a it:Af):Turn P w K tg (Itl K a) [it] it (λi h=>h.IsListIter it a i) where
 mem:=by simp
 obj:=λi h st b hb=>by
  have e:b=it:=by simpa using hb
  subst e;obtain⟨o,e,c,d⟩:=st;exact⟨o,e,λv z=>by rw[d] at z;cases z⟩
 keep:=λi h h' st k=>st.at λo e=>k it (by simp) o e
 item:=by
  intro X hP hw hK hc i pins s σ H E I hf st hg;subst hP hw hK;obtain⟨xs,x,hq,hx⟩:=hg;obtain⟨its,rv,p,hz⟩:=I.list hq;obtain⟨u,hu,ru⟩:=rv.get hx;obtain⟨f0,f1,f2,f3,f4,f5⟩:=hf it (by simp)
  refine wpAny_pyNext_list_item st p.isList (x:=u) (by simpa using hu) λh' st' sb=>?_
  have I1:Inv X pins σ H { s with heap:=h' }:=I.turned (t':=s.toks) (λb o hb e=>(sb.2 b hb).trans e) f0 f1 f3 f4 f5
  obtain⟨o,e,c,d⟩:=id st';exact⟨u,rfl,lR (s:={ s with heap:=h' }) e c d (by decide) ⟨x,H,I1,ru,⟨rfl,λys hy=>by rw[I.list_inj hy hq];exact hx⟩,st',λb hb=>(hf b hb).1⟩⟩
 done:=by
  intro X hP hw hK hc i pins s σ H E I hf st hg;subst hP hw hK;obtain⟨xs,hq,hx⟩:=hg;obtain⟨its,rv,p,hz⟩:=I.list hq;obtain⟨f0,f1,f2,f3,f4,f5⟩:=hf it (by simp)
  have hl:=rv.length;exact wpAny_pyNext_list_end (I.ok.hd hc) st p.isList (by simp;omega) λh' eb=>⟨rfl,I.turned (t':=s.toks) (λb o hb e=>eb b o hb e) f0 f1 f3 f4 f5⟩
 self:=λ_ _ _ _ _ st h=>wpAny_pyIter_listiter st h
theorem iX (a it:Af):Turn P w K tg (Itt K a) [it] it (λi h=>h.IsTupleIter it a i) where
 mem:=by simp
 obj:=λi h st b hb=>by
  have e:b=it:=by simpa using hb
  subst e;obtain⟨o,e,c,d⟩:=st;exact⟨o,e,λv z=>by rw[d] at z;cases z⟩
 keep:=λi h h' st k=>st.at λo e=>k it (by simp) o e
 item:=by
  intro X hP hw hK hc i pins s σ H E I hf st hg;subst hP hw hK;obtain⟨xs,x,hq,hx⟩:=hg;obtain⟨its,rv,p,hz⟩:=I.tuple hq;obtain⟨u,hu,ru⟩:=rv.get hx;obtain⟨f0,f1,f2,f3,f4,f5⟩:=hf it (by simp)
  refine wpAny_pyNext_tuple_item st (show s.heap.IsTuple a its.toArray from p) (x:=u) (by simpa using hu) λh' st' sb=>?_
  have I1:Inv X pins σ H { s with heap:=h' }:=I.turned (t':=s.toks) (λb o hb e=>(sb.2 b hb).trans e) f0 f1 f3 f4 f5
  obtain⟨o,e,c,d⟩:=id st';exact⟨u,rfl,lR (s:={ s with heap:=h' }) e c d (by decide) ⟨x,H,I1,ru,⟨rfl,λys hy=>by rw[I.tuple_inj hy hq];exact hx⟩,st',λb hb=>(hf b hb).1⟩⟩
 done:=by
  intro X hP hw hK hc i pins s σ H E I hf st hg;subst hP hw hK;obtain⟨xs,hq,hx⟩:=hg;obtain⟨its,rv,p,hz⟩:=I.tuple hq;obtain⟨f0,f1,f2,f3,f4,f5⟩:=hf it (by simp)
  have hl:=rv.length;exact wpAny_pyNext_tuple_end (I.ok.hd hc) st (show s.heap.IsTuple a its.toArray from p) (by simp;omega) λh' eb=>⟨rfl,I.turned (t':=s.toks) (λb o hb e=>eb b o hb e) f0 f1 f3 f4 f5⟩
 self:=λ_ _ _ _ _ st h=>wpAny_pyIter_tupleiter st h
theorem iW (it:Af)(lo:Ak)(n:Ai):Turn P w K tg (Itr lo n) [it] it (λi h=>IsRangeIter h it (lo+(i:Ai)*1) ((n:Ak)-(i:Ai)) 1) where
 mem:=by simp
 obj:=λi h st b hb=>by
  have e:b=it:=by simpa using hb
  subst e;exact⟨_,st,λv z=>by
   have z':Data.fields _=Data.cell v:=z;cases z'⟩
 keep:=λi h h' st k=>k it (by simp) _ st
 item:=by
  intro X hP hw hK hc i pins s σ H E I hf st hg;subst hP hw hK;obtain⟨f0,f1,f2,f3,f4,f5⟩:=hf it (by simp)
  have W:=Walks.range (prog:=X.prog) (w:=X.w) (I.ok.hd hc) it lo 1 n;refine W.item i s _ _ hg st λv h' tk hv st' kk=>?_;obtain⟨t,rfl⟩:=hv;have I1:Inv X pins σ H { s with heap:=h',toks:=tk }:=I.turned (λb o hb e=>kk b o (by simpa using hb) e) f0 f1 f3 f4 f5
  refine⟨_,rfl,lR (s:={ s with heap:=h',toks:=tk }) (n:="range_iterator") st' rfl rfl (by decide) ⟨.int (lo+i),H,I1,⟨t,?_⟩,⟨rfl,rfl⟩,st',λb hb=>(hf b hb).1⟩⟩
  rw[Int.mul_one]
 done:=by
  intro X hP hw hK hc i pins s σ H E I hf st hg;subst hP hw hK;obtain⟨f0,f1,f2,f3,f4,f5⟩:=hf it (by simp)
  exact wpAny_pyNext_range_end (I.ok.hd hc) st (by have:n<=i:=hg;omega) λh' eb=>⟨rfl,I.turned (t':=s.toks) (λb o hb e=>eb b o hb e) f0 f1 f3 f4 f5⟩
 self:=λ_ _ _ _ _ st h=>wpAny_pyIter_rangeiter st h
end _L
namespace _L
open PySem PySem.Spec PyProof.Rows
variable {pins:Aa (Af × Ci)}{fp:Aa Af}{s:Ag}{H:Hp}{σ:St}
section
variable {X:Cx}{tg:Bt}
theorem sX {R:It->Hp->Prop}{E:Ac->Ag->Prop}{lo hi:Ak}{t u v:Ry}{tk:Ai}(I:Inv X pins σ H s)(h1 : -(2 ^ 62)<=lo)(h2:lo<2 ^ 62)(h3 : -(2 ^ 62)<=hi)(h4:hi<2 ^ 62)
  (q:R (Itr lo (hi-lo).toNat) H):Ap (Au X.prog X.w) X.A (Nj (.ref s.heap.objs.size)) (PIE X pins σ tg R) E { s with heap:=s.heap.push { cls:=.type "range",data:=.fields #[.int lo t,.int hi u,.int 1 v] },toks:=tk }:=by
 refine wpAny_pyIter_range (IsRange.new ..) (small_one h1 h2 h3 h4) ?_;have I1:Inv X pins σ H { s with heap:=s.heap.push { cls:=.type "range",data:=.fields #[.int lo t,.int hi u,.int 1 v] },toks:=tk }:=I.kept λb o e=>Ah _ e
 refine⟨(s.heap.push { cls:=.type "range",data:=.fields #[.int lo t,.int hi u,.int 1 v] }).objs.size,[(s.heap.push { cls:=.type "range",data:=.fields #[.int lo t,.int hi u,.int 1 v] }).objs.size],_,_,H,rfl,
  I1.kept (t':=tk) λb o e=>Ah _ e,iW _ lo (hi-lo).toNat,?_,λb hb=>?_,q⟩
 .have e1:lo+((0:Ai):Ak)*1=lo:=by simp
  have e2:(((hi-lo).toNat:Ai):Ak)-((0:Ai):Ak)=Zx lo hi 1:=by rw[rangeSize_one];split <;> omega
  show IsRangeIter _ _ (lo+((0:Ai):Ak)*1) ((((hi-lo).toNat:Ai):Ak)-((0:Ai):Ak)) 1;rw[e1,e2];exact Ba _ rfl
 .have e:b=(s.heap.push { cls:=.type "range",data:=.fields #[.int lo t,.int hi u,.int 1 v] }).objs.size:=by simpa using hb
  subst e;exact I1.fpOk (As _) (I1.hok.fresh (As _))
def C6 (wi:TI)(g:TG)(tb:TS):TS:=λD σ H=>wi σ H λJ H1=>∃ W:Ai->Ai->St->Hp->Prop,(∃ m,W 0 m σ H1)/\∀ i m σ H,W i m σ H ->
 (J.stop i H/\D.nx σ H)\/(J.go i H/\∃ N:St->Hp->Prop,(∀ σ' H',N σ' H'->∃ m',m'<m/\W (i+1) m' σ' H')/\∀ x H',J.yld i H x H'->g x σ H' λσ2 H2=>tb { D with nx:=N,ct:=N,bk:=D.nx } σ2 H2)
noncomputable def yM (fp:Aa Af)(h:Br):Aa (Af × Ci):=fp.filterMap λb=>(h.get? b).map λo=>(b,o)
theorem vP {h:Br}{b:Af}{o:Ci}(hb:b∈fp)(e:h.get? b=Ab o):(b,o)∈yM fp h:=Lv.mpr ⟨b,hb,by rw[e];rfl⟩
theorem l8 {h:Br}{p:Af × Ci}(hp:p∈yM fp h):p.1∈fp/\h.get? p.1=Ab p.2:=by
 obtain⟨b,hb,e⟩:=Lv.mp hp;cases q:h.get? b with
 |none=>rw[q] at e;cases e
 |some o =>
  rw[q] at e;have e':(b,o)=p:=Cz e;subst e';exact⟨hb,q⟩
theorem Inv.pinned (I:Inv X pins σ H s)(hf:∀ b∈fp,x5 X pins H b)(ho:∀ b∈fp,∃ o,s.heap.get? b=Ab o/\∀ v,o.data≠.cell v):Inv X (pins++yM fp s.heap) σ H s:=
 I.pins_of λp hp=>(Ce.mp hp).elim (λz=>I.pin p (Bq _ z)) λz=>by
  obtain⟨hb,e⟩:=l8 z;obtain⟨f0,f1,f2,_⟩:=hf p.1 hb;obtain⟨o,e',d⟩:=ho p.1 hb;rw[e] at e';cases e';exact⟨e,f0,f1,f2,d⟩
theorem Inv.unpinned {pl:Aa (Af × Ci)}(I:Inv X (pins++pl) σ H s):Inv X pins σ H s:=I.pins_of λp hp=>I.pin p (Bq _ (Cj _ hp))
inductive ForI (X:Cx)(pins:Aa (Af × Ci))(fp:Aa Af)(tn:Ai->Br->Prop)(W:Ai->Ai->St->Hp->Prop)(n:Ai)(s':Ag):Prop
 |mk (i:Ai) (σ' : St) (H':Hp) (I:Inv X pins σ' H' s') (t:tn i s'.heap) (f:∀ b∈fp,H' b=none) (w:W i n σ' H'):ForI X pins fp tn W n s'
theorem NC {iter:Bt}{body:Aa Fx}{wi:TI}{g:TG}{tb:TS}{pos:Eu}(hp:OV (Au X.prog X.w) X.A X.env X.xe)(hc:X.calm=true)(hi:PI X tg iter wi)(hg:PG X tg g)(hb:PSs X body tb)
  (hs:∀ x,Dz iter X.env x=pure x:=by intro _;rfl):PS X (.For tg iter body [] pos) (C6 wi g tb):=by
 intro pins s σ H D I h;refine wpAny_For (thn (hi pins s σ H _ I h) λv s1 h1=>thn h1 λitv s2 h2=>?_) hs;obtain⟨it,fp,tn,J,H2,e,I2,T,st2,f2,W,⟨m0,w0⟩,turn⟩:=h2;subst e;have stat:∀ {H':Hp},(∀ b∈fp,H' b=none)->∀ b∈fp,x5 X pins H' b:=λhn b hb=>⟨hn b hb,(f2 b hb).2⟩;refine codeAny_forLoop_any (ForI X pins fp tn W) ?_ m0 ⟨0,σ,H2,I2,st2,λb hb=>(f2 b hb).1,w0⟩;rintro n s3 ⟨i,σ3,H3,I3,st3,fr3,w3⟩;rcases turn i n σ3 H3 w3 with⟨stop,qn⟩|⟨go,N,hN,step⟩
 .refine IL hp (thn (T.done X rfl rfl rfl hc i pins s3 σ3 H3 X.xe I3 (stat fr3) st3 stop) λr s4 ⟨hr,I4⟩=>?_)
  subst hr;exact Oa ⟨σ3,H3,I4,qn⟩
 .refine IL hp (thn (T.item X rfl rfl rfl hc i pins s3 σ3 H3 X.xe I3 (stat fr3) st3 go) λr s4 ⟨u,hr,h4⟩=>?_)
  subst hr;refine IL hp (thn h4 λ_ s5 ⟨x,H5,I5,r5,y5,st5,fr5⟩=>?_);have I5':=I5.pinned (stat fr5) (T.obj _ _ st5);refine IL hp (thn (hg _ s5 σ3 H5 x u _ I5' r5 (step x H5 y5)) λ_ s6 ⟨σ6,H6,I6,q6⟩=>?_);refine IL hp (thn (hb _ s6 σ6 H6 _ I6 q6) λf s7 q7=>?_);have again:∀ {σ7:St} {H7:Hp},Inv X (pins++yM fp s5.heap) σ7 H7 s7->N σ7 H7->∃ m,m<n/\ForI X pins fp tn W m s7:=λ{σ7 H7} I7 n7=>by
   obtain⟨m',hm,w7⟩:=hN σ7 H7 n7;refine⟨m',hm,i+1,σ7,H7,I7.unpinned,T.keep _ _ _ st5 λb hb o e=>(I7.pin (b,o) (Bq _ (Bq _ (vP hb e)))).1,λb hb=>?_,w7⟩;obtain⟨o,e,d⟩:=T.obj _ _ st5 b hb;exact(I7.pin (b,o) (Bq _ (Bq _ (vP hb e)))).2.1
  cases f with
  |next=>obtain⟨σ7,H7,I7,n7⟩:=q7;exact again I7 n7
  |cont=>obtain⟨σ7,H7,I7,n7⟩:=q7;exact again I7 n7
  |brk=>obtain⟨σ7,H7,I7,q7⟩:=q7;exact⟨σ7,H7,I7.unpinned,q7⟩
  |ret v=>obtain⟨x7,σ7,H7,I7,r7,q7⟩:=q7;exact⟨x7,σ7,H7,I7.unpinned,r7,q7⟩
end
end _L
namespace _L
open PySem PySem.Spec PyProof.Rows
variable {us:Aa Ac}{f:Ac->Ac->Jw Ac}{g:Ak->Ak->Ak}
abbrev R2:=V->V->Hp->VK->Prop
def OpR (X:Cx)(f:Ac->Ac->Jw Ac)(r:R2):Prop:=
 ∀ (pins:Aa (Af × Ci)) (s:Ag) (σ : St) (H:Hp) (x y:V) (v u:Ac) (Q:VK),Inv X pins σ H s->qF x v->qF y u->r x y H Q ->
  Ap (Au X.prog X.w) X.A (f v u) (EP X pins σ Q) X.xe s
def UnR (X:Cx)(f:Ac->Jw Ac)(r:V->Hp->VK->Prop):Prop:=
 ∀ (pins:Aa (Af × Ci)) (s:Ag) (σ : St) (H:Hp) (x:V) (v:Ac) (Q:VK),Inv X pins σ H s->qF x v->r x H Q ->
  Ap (Au X.prog X.w) X.A (f v) (EP X pins σ Q) X.xe s
def jN (X:Cx)(f:Ac)(r:Aa V->Hp->VK->Prop):Prop:=
 ∀ (pins:Aa (Af × Ci)) (s:Ag) (σ : St) (H:Hp) (xs:Aa V) (us:Aa Ac) (Q:VK),Inv X pins σ H s->qI xs us->r xs H Q ->
  Ap (Au X.prog X.w) X.A (call f us) (EP X pins σ Q) X.xe s
def EW (X:Cx)(r:V->Hp->(Ar->Hp->Prop)->Prop):Prop:=
 ∀ (pins:Aa (Af × Ci)) (s:Ag) (σ : St) (H:Hp) (x:V) (v:Ac) (Q:Ar->Hp->Prop),Inv X pins σ H s->qF x v->r x H Q ->
  Ap (Au X.prog X.w) X.A (truthy v) (TP X pins σ Q) X.xe s
def tOp (r:R2)(ta tb:TE):TE:=λσ H Q=>ta σ H λx H1=>tb σ H1 λy H2=>r x y H2 Q
def rI (C:Ak->Ak->Prop)(g:Ak->Ak->V):R2:=λx y H Q=>∃ i j,x=.int i/\y=.int j/\C i j/\Q (g i j) H
def rI0 (g:Ak->Ak->V):R2:=λx y H Q=>∃ i j,x=.int i/\y=.int j/\Q (g i j) H
def rU (g:Ak->V):V->Hp->VK->Prop:=λx H Q=>∃ i,x=.int i/\Q (g i) H
section
variable {X:Cx}{a b c:Bt}{ta tb tc:TE}{pos:Eu}
theorem H9 (ha:PE X a ta)(hb:PE X b tb){pins:Aa (Af × Ci)}{s:Ag}{σ : St}{H:Hp}{R:V->V->Hp->Prop}(I:Inv X pins σ H s)
  (h:ta σ H λx H1=>tb σ H1 λy H2=>R x y H2) {Q:Ac->Ag->Prop} {f:Ac->Ac->Jw Ac}
  (hf:∀ v u s2 x y H2,Inv X pins σ H2 s2->qF x v->qF y u->R x y H2->Ap (Au X.prog X.w) X.A (f v u) Q X.xe s2) :
  Ap (Au X.prog X.w) X.A (eval a X.env) (λv s₁=>Ap (Au X.prog X.w) X.A (eval b X.env) (λu s₂=>Ap (Au X.prog X.w) X.A (f v u) Q X.xe s₂) X.xe s₁) X.xe s:=by
 refine thn (ha pins s σ H _ I h) λv s1 ⟨x,H1,I1,r1,q1⟩=>?_;refine thn (hb pins s1 σ H1 _ I1 q1) λu s2 ⟨y,H2,I2,r2,q2⟩=>?_;exact hf v u s2 x y H2 I2 r1 r2 q2
theorem opI {f:Ac->Ac->Jw Ac}{C:Ak->Ak->Prop}
  (rule:∀ (i j:Ak) (t u:Ry) (s:Ag) (Q:Ac->Ag->Prop) (E:Ac->Ag->Prop),C i j->Q (.int (g i j) s.toks) { s with toks:=s.toks+1 } -> Ap (Au X.prog X.w) X.A (f (.int i t) (.int j u)) Q E s) :
  OpR X f (rI C λi j=>.int (g i j)):=by
 intro pins s σ H x y v u Q I rx ry h;obtain⟨i,j,rfl,rfl,hc,q⟩:=h;obtain⟨t,rfl⟩:=rx;obtain⟨t',rfl⟩:=ry;exact rule i j t t' s _ _ hc ⟨.int (g i j),H,I.tok _,⟨_,rfl⟩,q⟩
theorem TN {f:Ac->Ac->Jw Ac}
  (rule:∀ (i j:Ak) (t u:Ry) (s:Ag) (Q:Ac->Ag->Prop) (E:Ac->Ag->Prop),Q (.int (g i j) s.toks) { s with toks:=s.toks+1 } -> Ap (Au X.prog X.w) X.A (f (.int i t) (.int j u)) Q E s) :
  OpR X f (rI0 λi j=>.int (g i j)):=by
 intro pins s σ H x y v u Q I rx ry h;obtain⟨i,j,rfl,rfl,q⟩:=h;obtain⟨t,rfl⟩:=rx;obtain⟨t',rfl⟩:=ry;exact rule i j t t' s _ _ ⟨.int (g i j),H,I.tok _,⟨_,rfl⟩,q⟩
theorem iG {g:Ak->Ak->Ar}
  (rule:∀ (i j:Ak) (t u:Ry) (s:Ag) (Q:Ac->Ag->Prop) (E:Ac->Ag->Prop),Q (.bool (g i j)) s->Ap (Au X.prog X.w) X.A (f (.int i t) (.int j u)) Q E s) :
  OpR X f (rI0 λi j=>.bl (g i j)):=by
 intro pins s σ H x y v u Q I rx ry h;obtain⟨i,j,rfl,rfl,q⟩:=h;obtain⟨t,rfl⟩:=rx;obtain⟨t',rfl⟩:=ry;exact rule i j t t' s _ _ ⟨.bl (g i j),H,I,rfl,q⟩
def ES (i j:Ak):Prop:=0<j/\j<1073741824
def ET (i j:Ak):Prop:=0<=j/\j<=1000000/\i.natAbs<2 ^ 64
def X4 (i j:Ak):Prop:=(-(2 ^ 64)<i/\i<2 ^ 64)\/(-(2 ^ 64)<j/\j<2 ^ 64)
theorem X4.ok {i j:Ak}(h:X4 i j):IntMulOk i j:=by
 rcases h with⟨h1,h2⟩|⟨h1,h2⟩
 .exact .of_left (intBits_le_64 h1 h2)
 .exact .of_right (intBits_le_64 h1 h2)
theorem TQ:OpR X (Fg .Add) (rI0 λi j=>.int (i+j)):=TN λ_ _ _ _ _ _ _ q=>add_int q
theorem TY:OpR X (Fg .Sub) (rI0 λi j=>.int (i-j)):=TN λ_ _ _ _ _ _ _ q=>sub_int q
theorem TV:OpR X (Fg .Mult) (rI X4 λi j=>.int (i*j)):=opI λ_ _ _ _ _ _ _ hc q=>mul_int q hc.ok
theorem G9:OpR X (Fg .FloorDiv) (rI ES λi j=>.int (i/j)):=opI λi j _ _ _ _ _ hc q=>by
 have h1:(0:Ak)<j:=hc.1;have h2:j<1073741824:=hc.2;exact floordiv_int om (by rw[Int.fdiv_eq_ediv_of_nonneg i om];exact q) (.inl (PyProof.noPylong_small om))
theorem TU:OpR X (Fg .Mod) (rI (λ_ j=>0<j) λi j=>.int (i % j)):=opI λi j _ _ _ _ _ hc q=>by
 have h1:(0:Ak)<j:=hc;exact mod_int' om (by rw[Int.fmod_eq_emod_of_nonneg i om];exact q)
theorem TX:OpR X (Fg .Pow) (rI ET λi j=>.int (i ^ j.toNat)):=opI λ_ _ _ _ _ _ _ hc q=>pow_int_small hc.1 hc.2.1 hc.2.2 q
theorem unI {f:Ac->Jw Ac}{g:Ak->Ak}
  (rule:∀ (i:Ak) (t:Ry) (s:Ag) (Q:Ac->Ag->Prop) (E:Ac->Ag->Prop),Q (.int (g i) s.toks) { s with toks:=s.toks+1 } -> Ap (Au X.prog X.w) X.A (f (.int i t)) Q E s) :
  UnR X f (rU λi=>.int (g i)):=by
 intro pins s σ H x v Q I rx h;obtain⟨i,rfl,q⟩:=h;obtain⟨t,rfl⟩:=rx;exact rule i t s _ _ ⟨.int (g i),H,I.tok _,⟨_,rfl⟩,q⟩
theorem D4:UnR X (WP .USub) (rU λi=>.int (-i)):=unI λ_ _ _ _ _ q=>neg_int q
end
section
variable {X:Cx}{a b c:Bt}{ta tb tc:TE}{pos:Eu}
theorem oW {pins:Aa (Af × Ci)}{σ:St}{H:Hp}{s:Ag}{Q:VK}{k k':Ar}(I:Inv X pins σ H s)(q:Q (.bl k) H)(e:k=k'):EP X pins σ Q (.bool k') s:=by
 subst e;exact⟨.bl k,H,I,rfl,q⟩
theorem RF:OpR X (Co .Lt) (rI0 λi j=>.bl (decide (i<j))):=iG λ_ _ _ _ _ _ _ q=>lt_int q
theorem RE:OpR X (Co .LtE) (rI0 λi j=>.bl (decide (i<=j))):=iG λ_ _ _ _ _ _ _ q=>le_int q
theorem RD:OpR X (Co .Gt) (rI0 λi j=>.bl (decide (j<i))):=iG λ_ _ _ _ _ _ _ q=>gt_int q
theorem RC:OpR X (Co .GtE) (rI0 λi j=>.bl (decide (j<=i))):=iG λ_ _ _ _ _ _ _ q=>ge_int q
theorem TR:OpR X (Co .Is) (λx y H Q=>y=.non/\Q (.bl (decide (x=.non))) H):=by
 intro pins s σ H x y v u Q I rx ry h;obtain⟨rfl,q⟩:=h;cases ry;refine is_none_gen (oW I q ?_);cases x <;> first
  |(cases rx;rfl)
  |(obtain⟨t,rfl⟩:=rx;rfl)
theorem GA:OpR X (Co .IsNot) (λx y H Q=>y=.non/\Q (.bl (!decide (x=.non))) H):=by
 intro pins s σ H x y v u Q I rx ry h;obtain⟨rfl,q⟩:=h;cases ry;refine isnot_none_gen (oW I q ?_);cases x <;> first
  |(cases rx;rfl)
  |(obtain⟨t,rfl⟩:=rx;rfl)
theorem OpR.or {r r':R2}(h:OpR X f r)(h':OpR X f r'):OpR X f (λx y H Q=>r x y H Q\/r' x y H Q):=by
 intro pins s σ H x y v u Q I rx ry q;rcases q with q|q
 .exact h pins s σ H x y v u Q I rx ry q
 .exact h' pins s σ H x y v u Q I rx ry q
theorem gT (b:Bt){op:Tu}(h:op≠.In:=by decide)(h2:op≠.NotIn:=by decide):Kw op b=false:=by
 have e1:(op == CmpOp.In)=false:=by cases op <;> first|rfl|exact absurd rfl h
 have e2:(op == CmpOp.NotIn)=false:=by cases op <;> first|rfl|exact absurd rfl h2
 cases b <;> simp[Kw,e1,e2]
def cZ (K:Aj)(x:V)(H:Hp)(k:Ar):Prop:=
 match x with
 |.non=>k=false
 |.bl b=>k=b
 |.int i=>k=(i != 0)
 |.str y=>y.length<=sizeLine/\k=((y.length:Ak) != 0)
 |.byt y=>y.size<=sizeLine/\k=((y.size:Ak) != 0)
 |.ref p=>(∃ xs,SqL K H p xs/\k=!xs.isEmpty)\/(∃ xs,SqT K H p xs/\k=!xs.isEmpty)\/∃ kvs,H p=Ab (.dK kvs)/\k=!kvs.isEmpty
 |_=>Fd
theorem aX {κ:Type}{kvs:Aa (κ × V)}{vs:Aa (κ × Ac)}(r:KV kvs vs):(!vs.isEmpty)=!kvs.isEmpty:=by
 cases r <;> rfl
theorem fO {xs:Aa V}{its:Aa Ac}(r:qI xs its):(!its.toArray.isEmpty)=!xs.isEmpty:=by
 cases r <;> simp
theorem gS:(sizeLine:Ai)<2 ^ 63:=by rw[Fi];decide
theorem gY:EW X (λx H Q=>∃ k,cZ X.K x H k/\Q k H):=by
 intro pins s σ H x v Q I rx h;obtain⟨k,e,q⟩:=h;have hl:=gS;have hs:sizeLine=16777216:=Fi;cases x with
 |non =>
  cases rx;have e':k=false:=e;subst e';exact truthy_none ⟨H,I,q⟩
 |bl b =>
  cases rx;have e':k=b:=e;subst e';exact Wf ⟨H,I,q⟩
 |int i =>
  obtain⟨t,rfl⟩:=rx;have e':k=(i != 0):=e;subst e';exact PySem.P.truthy_int ⟨H,I,q⟩
 |str y =>
  obtain⟨t,rfl⟩:=rx;obtain⟨hy,e'⟩:y.length<=sizeLine/\k=((y.length:Ak) != 0):=e;subst e';exact PySem.P.truthy_str om ⟨H,I.tok _,q⟩
 |byt y =>
  obtain⟨t,rfl⟩:=rx;obtain⟨hy,e'⟩:y.size<=sizeLine/\k=((y.size:Ak) != 0):=e;subst e';exact PySem.W.truthy_bytes om ⟨H,I.tok _,q⟩
 |ref p =>
  cases rx;have e':(∃ xs,SqL X.K H p xs/\k=!xs.isEmpty)\/(∃ xs,SqT X.K H p xs/\k=!xs.isEmpty)\/∃ kvs,H p=Ab (.dK kvs)/\k=!kvs.isEmpty:=e;rcases e' with⟨xs,hx,e'⟩|⟨xs,hx,e'⟩|⟨kvs,hx,e'⟩
  .subst e'
   obtain⟨its,r,pl,hz⟩:=I.list hx;have hlen:=r.length;exact wpAny_truthy_list pl.isList (by simp only[Bh];omega) ⟨H,I.tok _,by rw[fO r];exact q⟩
  .subst e'
   obtain⟨its,r,pl,hz⟩:=I.tuple hx;have hlen:=r.length;exact truthy_tuple pl (by simp only[Bh];omega) ⟨H,I.tok _,by rw[fO r];exact q⟩
  .subst e'
   obtain⟨hz,hS,vs,r,m⟩:kvs.length<=sizeLine/\(p == Jd)=false/\∃ vs,KV kvs vs/\s.heap.DictOf (zD X.prog X.w) p vs:=I.hok p _ hx;have hlen:kvs.length=vs.length:=Paired.length r;exact wpAny_truthy_dict hS m om ⟨H,I.tok _,by rw[aX r];exact q⟩
 |_=>exact(show Fd from e).elim
theorem iH:OpR X (Fg .Add) (λx y H Q=>∃ i j,x=.str i/\y=.str j/\i.length+j.length<=sizeLine/\Q (.str (i++j)) H):=by
 intro pins s σ H x y v u Q I rx ry h;obtain⟨i,j,rfl,rfl,hz,q⟩:=h;obtain⟨t,rfl⟩:=rx;obtain⟨t',rfl⟩:=ry;exact add_str (λt' tk=>⟨.str (i++j),H,I.tok _,⟨_,rfl⟩,q⟩) hz
theorem kU {x:V}(r:qI [x] us):∃ u,us=[u]/\qF x u:=by
 cases r with
 |cons r1 r2=>cases r2;exact⟨_,rfl,r1⟩
theorem iY {x y:V}(r:qI [x,y] us):∃ u w',us=[u,w']/\qF x u/\qF y w':=by
 cases r with
 |cons r1 r2 =>
  cases r2 with
  |cons r3 r4=>cases r4;exact⟨_,_,rfl,r1,r3⟩
theorem nO:jN X (.type "int") (λxs H Q=>(∃ i,xs=[.int i]/\Q (.int i) H)\/∃ k,xs=[.bl k]/\Q (.int (if k then 1 else 0)) H):=by
 intro pins s σ H xs us Q I r h;rcases h with⟨i,rfl,q⟩|⟨k,rfl,q⟩
 .obtain⟨u,rfl,t,rfl⟩:=kU r
  exact call_int_int ⟨.int i,H,I,⟨_,rfl⟩,q⟩
 .obtain⟨u,rfl,r1⟩:=kU r
  cases r1;exact call_int_bool ⟨.int (if k then 1 else 0),H,I.tok _,⟨_,rfl⟩,q⟩
def BS (K:Aj)(x:V)(H:Hp)(n:Ai):Prop:=
 match x with
 |.str y=>y.length<=sizeLine/\n=y.length
 |.byt y=>y.size<=sizeLine/\n=y.size
 |.ref p=>(∃ xs,SqL K H p xs/\n=xs.length)\/∃ xs,SqT K H p xs/\n=xs.length
 |_=>Fd
theorem XA:jN X (.builtin "len") (λxs H Q=>∃ x n,xs=[x]/\BS X.K x H n/\Q (.int n) H):=by
 intro pins s σ H xs us Q I r h;obtain⟨x,n,rfl,e,q⟩:=h;obtain⟨u,rfl,rx⟩:=kU r;have hl:=gS;have hs:sizeLine=16777216:=Fi;cases x with
 |str y =>
  obtain⟨t,rfl⟩:=rx;obtain⟨hy,e'⟩:y.length<=sizeLine/\n=y.length:=e;subst e';exact len_str om ⟨.int _,H,I.tok _,⟨_,rfl⟩,q⟩
 |byt y =>
  obtain⟨t,rfl⟩:=rx;obtain⟨hy,e'⟩:y.size<=sizeLine/\n=y.size:=e;subst e';exact PySem.W.len_bytes om ⟨.int _,H,I.tok _,⟨_,rfl⟩,q⟩
 |ref p =>
  cases rx;have e':(∃ xs,SqL X.K H p xs/\n=xs.length)\/∃ xs,SqT X.K H p xs/\n=xs.length:=e;rcases e' with⟨xs,hx,e'⟩|⟨xs,hx,e'⟩
  .subst e'
   obtain⟨its,r',pl,hz⟩:=I.list hx;have hlen:=r'.length;exact Calls.call_len_list pl.isList (by simp only[Bh];omega) ⟨.int xs.length,H,I.tok _,⟨_,by simp only[Bh];rw[hlen]⟩,q⟩
  .subst e'
   obtain⟨its,r',pl,hz⟩:=I.tuple hx;have hlen:=r'.length;exact len_tuple pl (by simp only[Bh];omega) ⟨.int xs.length,H,I.tok _,⟨_,by simp only[Bh];rw[hlen]⟩,q⟩
 |_=>exact(show Fd from e).elim
end
end _L
namespace _L
open PySem PySem.Spec PyProof.Rows
variable {mA:Av->Am Ac}
structure ObjM (h:Br)(x dx C:Af)(mA:Av->Am Ac):Prop where
 obj:h.get? x=Ab (Rg C dx)
 ns:h.Ns1 dx mA
 ne:dx≠x
set_option tactic.hygienic true in
theorem QM {h:Br}{dx:Af}(n:h.Ns1 dx mA):∃ od,h.get? dx=Ab od/\∀ name,Sv name od=Ab (mA name):=by
 obtain⟨o,es,ep,ho,hd,hk,_,hm⟩:=n;refine⟨o,ho,λname=>?_⟩;have e:=hm name;unfold nsFind findBy at e;rw[<- Array.find?_toList] at e;unfold Sv;rw[hd];dsimp only
 split
 .rename_i y q
  rw[q] at e;exact congrArg Ab e
 .rename_i q
  rw[q] at e;have a:es.toList.any (·.refKey)=false:=by
   rw[List.any_eq_false];intro y hy;obtain⟨z,t,hkey⟩:=hk y (Nw.mp hy);simp[DictEntry.refKey,hkey]
  have a':¬ es.toList.any (·.refKey)=true:=by rw[a];exact Jk
  rw[Bj a'];exact congrArg Ab e
theorem ObjM.look {h:Br}{x dx C:Af}(I:ObjM h x dx C mA):∃ od,PySem.W.InstAt h x (Rg C dx) C (Ab od)/\∀ name,Sv name od=Ab (mA name):=
 let ⟨od,ho,hl⟩:=QM I.ns
 ⟨od,⟨I.obj,rfl,rfl,ho⟩,hl⟩
section
variable {P:Be}{w:Bx}{H H':Hp}{h h':Br}{a C dx:Af}{fs fs':Aa (Av × V)}
theorem JX (hok:HOk P w H h)(e:H a=Ab (.ins C dx fs)):∃ mA,ObjM h a dx C mA/\(∀ f,jP (fs.lookup f) (mA f))/\Zw mA (fs.map (·.1))/\fs.length<=1000/\H dx=Ab (.own a):=by
 obtain⟨d,z,ne,ob,mA,n,r,q⟩:=(show zG P w H h a (.ins C dx fs) from hok a _ e)
 exact⟨mA,⟨ob,n,ne⟩,r,q,z,d⟩
end
structure Cls (K:Aj)(C:Af):Prop where
 pg:Xa K C Zk=true
 hd:PySem.W.hasDictIn K C=true
 po:PySem.W.plainOver K C=true
 sa:Mj K (.ref C) "__setattr__" = Ab (Ab (.builtin "object.__setattr__"))
theorem Cls.get {K:Aj}{C:Af}(c:Cls K C)(f:Av):Xa K C f=true:=c.pg
section
variable {X:Cx}{pins:Aa (Af × Ci)}{σ : St}{H:Hp}{s:Ag}{A:Bv}{E:Ac->Ag->Prop}{Q:Ac->Ag->Prop}{c:Ac}{b:Ar}
inductive TyOf (K:Aj)(H:Hp):V->Ac->Prop where
 |non:TyOf K H .non (.type "NoneType")
 |bl (x:Ar):TyOf K H (.bl x) (.type "bool")
 |int (i:Ak):TyOf K H (.int i) (.type "int")
 |str (x:Av):TyOf K H (.str x) (.type "str")
 |flt (x:UInt64):TyOf K H (.flt x) (.type "float")
 |lst {a:Af} {xs:Aa V} (e:H a=Ab (.lst xs)):TyOf K H (.ref a) (.type "list")
 |frz {a:Af} {o:Ci} {xs:Aa V} (e:H a=Ab (.frz o (.lst xs))):TyOf K H (.ref a) (.type "list")
 |tup {a:Af} {xs:Aa V} (e:H a=Ab (.tup xs)):TyOf K H (.ref a) (.type "tuple")
 |dK {a:Af} {kvs:Aa (Key × V)} (e:H a=Ab (.dK kvs)):TyOf K H (.ref a) (.type "dict")
 |dT {a:Af} {kvs:Aa (Aa Key × V)} (e:H a=Ab (.dT kvs)):TyOf K H (.ref a) (.type "dict")
 |ins {a C dx:Af} {fs:Aa (Av × V)} (e:H a=Ab (.ins C dx fs)) (cl:Cls K C) (ha:Mj K (.ref C) "__class__" = Ab (Ab (.builtin "object.__class__")))
   (hn:Wg K (.builtin "object.__class__") "__get__" = Ab (Ab (.builtin "getset_descriptor.__get__"))) (htk:XV K (.builtin "object.__class__")=Ab true)
   (hm:Tv K C (.type "object")=Ab true):TyOf K H (.ref a) (.ref C)
theorem Q2 {x:V}{u t:Ac}(I:Inv X pins σ H s)(rx:qF x u)(ty:TyOf X.K H x t)(e:Ki X.K t c=Ab b)(h:∀ tk,Q (.bool b) { s with toks:=tk }) :
  Ap (Au X.prog X.w) A (call (.builtin "isinstance") [u,c]) Q E s:=by
 cases ty with
 |non=>cases (show u=Dn from rx);exact Fa PySem.W.kitx_none I.kIn Ie e (λz=>nomatch z) h
 |bl y=>cases (show u=Hv y from rx);exact Fa PySem.W.kitx_bool I.kIn Ie e (λz=>nomatch z) h
 |int i=>obtain⟨t,q⟩:=(show ∃ t,u=OT i t from rx);cases q;exact Fa PySem.W.kitx_int I.kIn Ie e (λz=>nomatch z) h
 |str y=>obtain⟨t,q⟩:=(show ∃ t,u=Wb y t from rx);cases q;exact Fa PySem.W.kitx_str I.kIn Ie e (λz=>nomatch z) h
 |flt y=>obtain⟨t,q⟩:=(show ∃ t,u=v4 y t from rx);cases q;exact Fa PySem.W.kitx_float I.kIn Ie e (λz=>nomatch z) h
 |@lst a xs ea =>
  cases (show u=Dm a from rx)
  obtain⟨_,_,n,_,h1⟩:=(show zG X.prog X.w H s.heap a (.lst xs) from I.hok a _ ea)
  exact Fa OW I.kIn ⟨_,h1,rfl⟩ e (λz=>nomatch z) h
 |@frz a ob xs ea =>
  cases (show u=Dm a from rx)
  obtain⟨_,_,_,n,_,h1⟩:=(show zG X.prog X.w H s.heap a (.frz ob (.lst xs)) from I.hok a _ ea)
  exact Fa OW I.kIn ⟨_,h1,rfl⟩ e (λz=>nomatch z) h
 |@tup a xs ea =>
  cases (show u=Dm a from rx)
  obtain⟨_,_,_,p⟩:=(show zG X.prog X.w H s.heap a (.tup xs) from I.hok a _ ea)
  obtain⟨o,h1,h2,_⟩:=p;exact Fa Uz I.kIn ⟨o,h1,h2⟩ e (λz=>nomatch z) h
 |@dK a kvs ea =>
  cases (show u=Dm a from rx)
  obtain⟨_,_,vs,_,p⟩:=(show zG X.prog X.w H s.heap a (.dK kvs) from I.hok a _ ea)
  obtain⟨o,es,ep,h1,h2,_⟩:=p;exact Fa Wh I.kIn ⟨o,h1,h2.1⟩ e (λz=>nomatch z) h
 |@dT a kvs ea =>
  cases (show u=Dm a from rx)
  obtain⟨_,_,xs,_,o,es,ep,h1,h2,_⟩:=(show zG X.prog X.w H s.heap a (.dT kvs) from I.hok a _ ea)
  exact Fa Wh I.kIn ⟨o,h1,h2.1⟩ e (λz=>nomatch z) h
 |@ins a C dx fs ea cl ha hn htk hm =>
  cases (show u=Dm a from rx)
  obtain⟨mA,O,_⟩:=JX I.hok ea;obtain⟨od,J,_⟩:=O.look;exact Fa (PySem.W.kitx_own (cl.get _) cl.hd ha hn htk hm) I.kIn J e (λz=>nomatch z) h
end
end _L
namespace _L
open PySem PySem.Spec PyProof.Rows
variable {ps:Aa Av}{outer:Aa IZ}{f:Af}{K:Aj}{mg:Av->Am Ac}{kindOf:Av->Am Hx}{P:Be}{A:Bv}{w:Bx}{scope:Eo}
structure Room (k:Ai)(A:Bv):Prop where
 hd:A.handled=none
 dp:A.depth+3*k+5<O0
 un:A.units+16*k+200<Eg
 gd:A.guards=Ab []
theorem Room.deeper {k:Ai}(r:Room (k+1) A)(env:IZ):Room k (A.deeper env):=
 ⟨r.hd,by have:=r.dp;show A.depth+1+3*k+5<_;omega,by have:=r.un;show A.units+3+16*k+200<_;omega,r.gd⟩
theorem Room.in1 {k:Ai}(r:Room (k+1) A):Room k A.in1:=
 ⟨r.hd,by have:=r.dp;show A.depth+3*k+5<_;omega,by have:=r.un;show A.units+1+16*k+200<_;omega,r.gd⟩
theorem Room.depth {k:Ai}(r:Room k A):A.depth<O0:=by have:=r.dp;omega
theorem Room.units {k:Ai}(r:Room k A):A.units+64<Eg:=by have:=r.un;omega
def C9:TA:=λ_ H Q=>Q [] H
section
variable {X:Cx}{e:Bt}{es:Aa Bt}{te:TE}{t:TA}{pos:Eu}
theorem TZ:PA X [] C9:=λ_ _ _ _ H Q I h=>IR ⟨[],H,I,.nil,h⟩
def CC (t:TA):TE:=λσ H Q=>t σ H λxs H1=>xs.length<=sizeLine/\∀ p,H1 p=none->Q (.ref p) (upd H1 p (.tup xs))
def C8 (t:TA):TE:=λσ H Q=>t σ H λxs H1=>xs.length<=sizeLine/\∀ p,H1 p=none->Q (.ref p) (upd H1 p (.lst xs))
theorem N5  (h:PA X es t):PE X (.Tuple es x1 pos) (CC t):=by
 intro pins s σ H Q I hq;refine wpAny_Tuple_spliced (thn (h pos pins s σ H _ I hq) λus s1 ⟨xs,H1,I1,r,z,q⟩=>⟨by rw[<- r.length];exact z,?_⟩)
 have hf:H1 s1.heap.objs.size=none:=I1.hok.fresh (As _);refine⟨.ref s1.heap.objs.size,upd H1 s1.heap.objs.size (.tup xs),I1.laid (t':=s1.toks) (λb u e=>Ah _ e) (As _) ?_,rfl,q _ hf⟩;exact⟨z,us,r,⟨_,Ba _ rfl,rfl,_,rfl⟩⟩
theorem Z7 (h:PA X es t):PE X (.List es pos) (C8 t):=by
 intro pins s σ H Q I hq;refine wpAny_List_spliced (thn (h pos pins s σ H _ I hq) λus s1 ⟨xs,H1,I1,r,z,q⟩=>⟨by rw[<- r.length];exact z,?_⟩)
 have hf:H1 s1.heap.objs.size=none:=I1.hok.fresh (As _);refine⟨.ref s1.heap.objs.size,upd H1 s1.heap.objs.size (.lst xs),I1.laid (t':=s1.toks) (λb u e=>Ah _ e) (As _) ?_,rfl,q _ hf⟩;exact⟨z,us,0,r,Ba _ rfl⟩
end
abbrev Sp:=Aa V->Hp->VK->XK->Prop
abbrev CXT:=Aa IZ->Hp->Ag->XK->Ac->Ag->Prop
variable {CX:CXT}
structure Env0 (P:Be)(w:Bx)(K:Aj)(mg:Av->Am Ac)(base:Br)(A:Bv)(outer:Aa IZ)(s:Ag)(H:Hp):Prop where
 frames:A.frames=Ab outer
 mod:Mod K mg base
 bs:∀ b o,base.get? b=Ab o->s.heap.get? b=Ab o/\H b=none
 bsz:base.objs.size<=s.heap.objs.size
 funs:s.heap.FunFrames base outer
 frf:∀ b∈frs outer,H b=none
 hok:HOk P w H s.heap
 bare:Nh s.gens
def CE (outer:Aa IZ)(P:Be)(w:Bx)(H:Hp)(s:Ag)(Q:VK)(u:Ac)(s':Ag):Prop:=
 ∃ v H',s'.os=s.os/\Nh s'.gens/\Un (frs outer) [] H H' s.heap s'.heap/\HOk P w H' s'.heap/\qF v u/\Q v H'
def CR (CX:CXT)(outer:Aa IZ)(P:Be)(w:Bx)(H:Hp)(s:Ag)(Q:VK)(E:XK)(r:Zd)(s':Ag):Prop:=
 match r with
 |.ok (.ret u)=>CE outer P w H s Q u s'
 |.ok _=>Fd
 |.error e=>CX outer H s E e s'
structure FnOk (P:Be)(w:Bx)(K:Aj)(mg:Av->Am Ac)(base:Br)(CX:CXT)(k:Ai)(f:Af)(fd:Fh)(ps:Aa Av)(sp:Sp):Prop where
 len:∀ vs H Q E,sp vs H Q E->vs.length=ps.length
 run:∀ (A:Bv) (outer:Aa IZ) (s:Ag) (H:Hp) (args:Args) (us:Aa Ac) (vs:Aa V) (Q:VK) (E:XK),Room k A->Env0 P w K mg base A outer s H->Nl s fd args (ps.zip us)->qI vs us->sp vs H Q E ->
  IS (Au P w) A (.call (.ref f) args) (CR CX outer P w H s Q E) s
theorem FnOk.imp {base:Br}{k:Ai}{fd:Fh}{sp sp':Sp}(F:FnOk P w K mg base CX k f fd ps sp)
  (h:∀ vs H Q E,sp' vs H Q E->sp vs H Q E):FnOk P w K mg base CX k f fd ps sp':=
 ⟨λvs H Q E q=>F.len vs H Q E (h _ _ _ _ q),λA outer s H args us vs Q E hr he hb hv hs=>F.run A outer s H args us vs Q E hr he hb hv (h _ _ _ _ hs)⟩
theorem Env0.in1 {base:Br}{s:Ag}{H:Hp}(e:Env0 P w K mg base A outer s H) :
  Env0 P w K mg base A.in1 outer s H:=⟨e.frames,e.mod,e.bs,e.bsz,e.funs,e.frf,e.hok,e.bare⟩
section
variable {X:Cx}{pins:Aa (Af × Ci)}{σ : St}{H:Hp}{s s':Ag}
theorem Inv.env0 (I:Inv X pins σ H s):Env0 X.prog X.w X.K X.mg X.base X.A X.stack s H:=
 ⟨I.ok.frames,I.ok.mod,I.bs,Dh I.ok.bsz I.sz,I.stack,I.stkFree,I.hok,I.bare⟩
theorem Inv.after {Q:VK}{u:Ac}(I:Inv X pins σ H s)(h:CE X.stack X.prog X.w H s Q u s'):EP X pins σ Q u s':=by
 obtain⟨v,H',os,bare,un,hok,r,q⟩:=h;obtain⟨hh,g,d,t,os'⟩:=s';obtain rfl:os'=s.os:=os;exact⟨v,H',I.call (h':=hh) (g':=g) (d':=d) (t':=t) (ch:=[]) un hok bare (λb z=>absurd z (by simp)),r,q⟩
end
def vL (K:Aj)(fd:Fh)(ps:Aa Av)(ds:Aa Ac):Prop:=
 ∀ (s:Ag) (us:Aa Ac),K.In s.heap->(us++ds).length=ps.length->Nl s fd ⟨us,[]⟩ (ps.zip (us++ds))
theorem vL.all {fd:Fh}(h:∀ us:Aa Ac,us.length=ps.length->Ya fd ⟨us,[]⟩=pure (ps.zip us)):vL K fd ps []:=λs us _ hl=>by
 rw[Gz] at hl ⊢;exact .of_eq (h us hl)
structure FnScope (N P:Aa Av)(sc:Eo):Prop where
 kind:sc.kind=.function
 co:sc.isCoroutine=false
 gen:sc.isGenerator=false
 nd:N.Nodup
 pre:N.take P.length=P
 par:∀ x∈P,sc.names.lookup x=Ab .local \/ sc.names.lookup x=Ab .cell
 nofree:∀ y∈sc.names,y.2≠.free
theorem nM {x:Av}:∀ {binds:Aa (Av × Ac)} {m:Av->Am Ac},(∀ v,(x,v) ∉ binds)->Tw kindOf binds m x=m x
 |[],_,_=>rfl
 |(n,v)::r,m,h=>by
  unfold Tw;rw[nM λw hw=>h w (Cg _ hw)]
  split
  .have:x≠n:=by rintro rfl;exact h v Dl
   simp[this]
  .rfl
theorem nK {x:Av}:∀ {binds:Aa (Av × Ac)} {m:Av->Am Ac},(∀ v,(x,v) ∉ binds)->Tx kindOf binds m x=m x
 |[],_,_=>rfl
 |(n,v)::r,m,h=>by
  unfold Tx;rw[nK λw hw=>h w (Cg _ hw)]
  split
  .rfl
  .have:x≠n:=by rintro rfl;exact h v Dl
   simp[this]
theorem nL {x:Av}{v:Ac}:∀ {P:Aa Av} {vs:Aa Ac} {i:Ai} {m:Av->Am Ac},P.Nodup->P[i]? = Ab x->vs[i]? = Ab v->kindOf x=Ab .local ->
  Tw kindOf (P.zip vs) m x=Ab v
 |[],_,_,_,_,h,_,_=>by simp at h
 |_::_,[],_,_,_,_,h,_=>by simp at h
 |p::P,w::vs,0,m,nd,h1,h2,hk=>by
  simp at h1 h2;subst h1;subst h2;show Tw kindOf ((p,w)::P.zip vs) m p=_;unfold Tw;rw[nM λv hv=>(Hy.mp nd).1 (Ob hv).1,Bp hk];simp
 |p::P,w::vs,i+1,m,nd,h1,h2,hk=>by
  show Tw kindOf ((p,w)::P.zip vs) m x=_;unfold Tw;exact nL (i:=i) (Hy.mp nd).2 (by simpa using h1) (by simpa using h2) hk
theorem nJ {x:Av}{v:Ac}:∀ {P:Aa Av} {vs:Aa Ac} {i:Ai} {m:Av->Am Ac},P.Nodup->P[i]? = Ab x->vs[i]? = Ab v->kindOf x≠Ab .local ->
  Tx kindOf (P.zip vs) m x=Ab v
 |[],_,_,_,_,h,_,_=>by simp at h
 |_::_,[],_,_,_,_,h,_=>by simp at h
 |p::P,w::vs,0,m,nd,h1,h2,hk=>by
  simp at h1 h2;subst h1;subst h2;show Tx kindOf ((p,w)::P.zip vs) m p=_;unfold Tx;rw[nK λv hv=>(Hy.mp nd).1 (Ob hv).1,Bj hk];simp
 |p::P,w::vs,i+1,m,nd,h1,h2,hk=>by
  show Tx kindOf ((p,w)::P.zip vs) m x=_;unfold Tx;exact nJ (i:=i) (Hy.mp nd).2 (by simpa using h1) (by simpa using h2) hk
noncomputable def xQ (N:Aa Av)(vs:Aa V):St:=vs.map Ab++Yw (N.length-vs.length) none
noncomputable def mO (CX:CXT)(P:Be)(w:Bx)(K:Aj)(mg:Av->Am Ac)(base:Br)(N:Aa Av)(qual:Av)(scope:Eo)(f:Af)(cd:Ac)(A:Bv)(outer:Aa IZ)(s:Ag)(H:Hp)(E:XK):Cx where
 prog:=P
 w:=w
 K:=K
 mg:=mg
 base:=base
 A:=A.deeper (Gq qual scope s.heap.objs.size f cd)
 N:=N
 s₀:=s
 H₀:=H
 env:=Gq qual scope s.heap.objs.size f cd
 outer:=outer
 stack:=Gq qual scope s.heap.objs.size f cd::outer
 ex:=[]
 calm:=true
 fn:=λ_=>true
 pn:=[]
 xe:=λe s'=>Ap (Au P w) (A.deeper (Gq qual scope s.heap.objs.size f cd)) (leaving (Gq qual scope s.heap.objs.size f cd) e) (λ_ s''=>CX outer H s E e s'') (λe' s''=>CX outer H s E e' s'') s'
theorem dE {sc:Eo}{n:Ai}{x:Av}(h:sc.names.lookup x=Ab .cell):∃ c,(Hj n sc.names []).lookup x=Ab c:=by
 have q:=Jo sc.names n [] (.inl h);exact Lp.mp q
theorem l0 {base:Br}{N:Aa Av}{qual:Av}{cd:Ac}{s s1:Ag}{H:Hp}{E:XK}{us:Aa Ac}{vs:Aa V}
  (S:FnScope N ps scope) (hd:A.handled=none) (e0:Env0 P w K mg base A outer s H) (hl:vs.length=ps.length) (r:qI vs us)
  (x:InCallC s s.heap.objs.size (Tw (Gq qual scope s.heap.objs.size f cd).kindOf (ps.zip us) λ_=>none) (Hj (s.heap.objs.size+1) scope.names []) (Tx (Gq qual scope s.heap.objs.size f cd).kindOf (ps.zip us) λ_=>none) s1) :
  Inv (mO CX P w K mg base N qual scope f cd A outer s H E) [] (xQ N vs) H s1:=by
 have hpl:ps.length<=N.length:=by have:=congrArg OI S.pre;rw[Fc] at this;omega
 obtain⟨h1,tk,rfl,hk⟩:=x.done;have noA:∀ b:Af,b ∉ (mO CX P w K mg base N qual scope f cd A outer s H E).ex:=λb z=>absurd (show b∈([]:Aa Af) from z) (by simp)
 refine⟨⟨e0.mod,S.kind,rfl,rfl,As _,λy z c h1 h2=>?_,λy hy=>?_,λy c _ h=>?_,λ_=>hd,Tg e0.frames,.inr ⟨rfl,rfl⟩,λb z=>absurd z (noA b),e0.bs,e0.bsz,λb _ _=>noA b,λb z=>absurd z (noA b),e0.funs,e0.frf⟩,
  rfl,e0.bare,Un.kept hk,⟨_,x.toInCall.ns,λi y v h1 h2 h3=>?_⟩,λy c h=>⟨_,x.cell y c h⟩,e0.hok.fresh (As _),λy c h=>?_,λp hp=>absurd (show p∈([]:Aa (Af × Ci)) from hp) (by simp),e0.hok.kept hk,?_⟩
 .exact name_of_addr x.apart (Ga h1) (Ga h2)
 .have hy:scope.names.lookup y=Ab .cell\/scope.names.lookup y=Ab .free:=hy
  rcases hy with hy|hy
  .exact dE hy
  .exact absurd rfl (S.nofree _ (Ga hy))
 .exact Fe (x.above y c (Ga h))
 .have hi:i<vs.length:=by
   unfold xQ at h2;by_cases hi:i<vs.length
   .exact hi
   .rw[Dc (by simpa using hi)] at h2
    rw[Qq] at h2
    split at h2 <;> cases h2
  have ha:vs[i]? = Ab v:=by
   unfold xQ at h2;rw[Bo (by simpa using hi),Du] at h2
   cases e:vs[i]? with
   |none=>rw[e] at h2;cases h2
   |some a=>rw[e] at h2;cases h2;rfl
  obtain⟨u,hu,rv⟩:=r.get ha;have hp:ps[i]? = Ab y:=by
   rw[<- S.pre,Lq om];exact h1
  have ndP:ps.Nodup:=by rw[<- S.pre];exact S.nd.sublist (OX _ _)
  refine⟨u,rv,?_⟩;rcases S.par y (Cu hp) with k|k
  .exact .inl ⟨k,nL ndP hp hu k⟩
  .obtain⟨c,e⟩:=dE (n:=s.heap.objs.size+1) k
   refine .inr ⟨.inl k,c,e,?_⟩;have q:=x.cell y c e;rw[nJ ndP hp hu (by show scope.names.lookup y≠_;rw[k];decide)] at q
   exact q
 .exact e0.hok.fresh (Fe (x.above y c (Ga h)))
 .unfold xQ
  show _=N.length;rw[Ct,Ao,List.length_replicate];omega
theorem SD {base:Br}{k:Ai}{name qual:Av}{params:Sb}{body:Aa Fx}{dV kV doc pm cdv ct oc:Ac}{an od:Am Af}
  {osl:Ay (Am Ac)} {N ps:Aa Av} {sp:Sp} (lk:K.lookup f=Ab ⟨oc,od,.func (Gg name qual params body scope dV kV doc pm an cdv ct),osl⟩) (hcd:Kj K cdv qual=true) (S:FnScope N ps scope)
  (len:∀ vs H Q E,sp vs H Q E->vs.length=ps.length)
  (hbody:∀ (A:Bv) (outer:Aa IZ) (s:Ag) (H:Hp) (vs:Aa V) (Q:VK) (E:XK),Room k (A.deeper (Gq qual scope s.heap.objs.size f cdv))->sp vs H Q E ->
   ∃ t,PSs (mO CX P w K mg base N qual scope f cdv A outer s H E) body t/\t { nx:=λ_ H'=>Q .non H',rt:=Q } (xQ N vs) H) :
  FnOk P w K mg base CX (k+1) f (Gg name qual params body scope dV kV doc pm an cdv ct) ps sp:=by
 refine⟨len,λA outer s H args us vs Q E hr e0 hb r hsp=>?_⟩;have hl:=len _ _ _ _ hsp;have KX:K.In s.heap:=e0.mod.kin.keeps λb o e=>(e0.bs b o e).1;have lim:s.heap.NoLimit:=e0.mod.nolimit.keeps λb o e=>(e0.bs b o e).1;have hkind:∀ y∈ps.zip us,scope.names.lookup y.1=Ab .local \/ (scope.names.lookup y.1=Ab .cell/\((Hj (s.heap.objs.size+1) scope.names []).lookup y.1).isSome=true):=λ⟨n,v⟩ hy=>by
  rcases S.par n (Ob hy).1 with q|q
  .exact .inl q
  .exact .inr ⟨q,Jo _ _ _ (.inl q)⟩
 refine Sc hr.depth (KX _ _ lk) rfl S.co S.gen rfl (Va KX hcd) (hb _ _ _ _ ?_);refine OJ S.kind hkind λenv he s1 x=>?_;subst he;refine⟨lim.keeps x.toInCall.keep,codeAny_func ?_⟩;obtain⟨t,ht,hq⟩:=hbody A outer s H vs Q E (hr.deeper _) hsp;have I:Inv (mO CX P w K mg base N qual scope f cdv A outer s H E) [] (xQ N vs) H s1:=l0 S hr.hd e0 hl r x;refine II (ht [] s1 (xQ N vs) H _ I hq) (λfl s' hs=>?_) λe s' hs=>hs;have fin:∀ {σ' : St} {H':Hp} {v:V} {u:Ac},Inv (mO CX P w K mg base N qual scope f cdv A outer s H E) [] σ' H' s'->qF v u->Q v H'->CE outer P w H s Q u s':=
  λ{σ' H' v u} J rv q=>⟨v,H',J.os,J.bare,J.base,J.hok,rv,q⟩
 cases fl with
 |ret u =>
  obtain⟨v,σ',H',J,rv,q⟩:=hs;exact fin J rv q
 |next =>
  obtain⟨σ',H',J,q⟩:=hs;exact fin (v:=V.non) (u:=Dn) J rfl q
 |brk =>
  obtain⟨_,_,_,q⟩:=hs;exact Aq q
 |cont =>
  obtain⟨_,_,_,q⟩:=hs;exact Aq q
end _L
namespace _H
open PySem PyProof.Rows
variable {Q:Ac->Ag->Prop}{lo hi:Am Ak}{items:Ay Ac}
noncomputable def lexLt:Aa Ak->Aa Ak->Ar
 |[],[]=>false
 |[],_::_=>true
 |_::_,[]=>false
 |x::xs,y::ys=>if x=y then lexLt xs ys else decide (x<y)
theorem lexLt_cons (x y:Ak)(xs ys:Aa Ak):lexLt (x::xs) (y::ys)=if x=y then lexLt xs ys else decide (x<y):=rfl
theorem lexLt_nil_nil:lexLt [] []=false:=rfl
theorem tK (y:Ak)(ys:Aa Ak):lexLt [] (y::ys)=true:=rfl
theorem tJ (x:Ak)(xs:Aa Ak):lexLt (x::xs) [] = false:=rfl
theorem W6 (A:Bv)(s:Ag)(a:Ak)(t:Ry)(c:Ak)(u:Ry):∃ e,SeqAt.EqAt A s (.int a t) (.int c u) e/\(e=true↔a=c):=
 ⟨(a == c),SeqAt.EqAt.int_int a t c u,by simp⟩
theorem YT (A:Bv)(s:Ag)(a:Ak)(t:Ry)(c:Ak)(u:Ry)(prog:Be)(w:Bx)(E:Ac->Ag->Prop)(Q:Ac->Ag->Prop)(h:Q (.bool (decide (a<c))) s) :
  Ap (Au prog w) A (richCompare .Lt (.int a t) (.int c u)) Q E s:=
 (Om h:Ap (Au prog w) A (Co .Lt (.int a t) (.int c u)) Q E s)
section
open PySem.SeqAt
open PySem.AutoSeq1 (wpAny_loadPart')
open PySem.MeetsSeq PySem.MeetsSeq2 PySem.MeetsSeq3
theorem lK (l b:Af)(items items2:Ay Ac)(n n2:Ai)(dd dd2:Am Af)(sl sl2:Ay (Am Ac))(ns ms:Aa Ak)(hi:IT items.toList ns)(hj:IT items2.toList ms) :
  Meets (Ig.«tuple.__lt__» ⟨[.ref l,.ref b],[]⟩)
   (λ_ R s=>s.heap.get? l=Ab { cls:=.type "tuple",dict:=dd,data:=.seq items n,slots:=sl } /\ s.heap.get? b=Ab { cls:=.type "tuple",dict:=dd2,data:=.seq items2 n2,slots:=sl2 } /\
    R (.ok (.ret (.bool (lexLt ns ms)))) s):=
 .of_wp λprog w A R s h=>by
  obtain⟨hp,g,d,tk,os⟩:=s;obtain⟨hl,hb,h⟩:=h;have f2:=Pr;have z1:items.size=ns.length:=by rw[<- hi.length];simp
  have z2:items2.size=ms.length:=by rw[<- hj.length];simp
  wp_walk using wpAny_loadPart' hl,wpAny_loadPart' hb,Kn _ (λqJ b s'=>b.1=none/\s'=⟨hp,g,d,tk,os⟩/\∃ (vs ws:Aa Ac) (ns' ms':Aa Ak),qJ=vs.zip ws /\
   IT vs ns'/\IT ws ms'/\ns'.length+items2.size=ms'.length+items.size/\R (.ok (.ret (.bool (lexLt ns' ms')))) ⟨hp,g,d,tk,os⟩) _
  case turn =>
   rintro⟨y,x⟩ qJ b s' ⟨hb',rfl,vs,ws,ns',ms',hz,hvi,hwi,hlen,hR⟩;cases hvi with
   |nil=>rw[List.zip_nil_left] at hz;cases hz
   |cons a t hvi' =>
    cases hwi with
    |nil=>rw[List.zip_nil_right] at hz;cases hz
    |cons c u hwi' =>
     rw[Jl] at hz;injection hz with hyx hrest
     injection hyx with hy hx
     subst hy hx;rw[lexLt_cons] at hR;simp only[Bd] at hlen;obtain⟨e,he,hiff⟩:=W6 A.in1 ⟨hp,g,d,tk,os⟩ a t c u;refine Ad (he prog w _ _ ?_);cases e with
     |true =>
      rw[Bp (hiff.mp rfl)] at hR
      wp_walk
      exact⟨rfl,rfl,_,_,_,_,hrest,hvi',hwi',by omega,hR⟩
     |false =>
      rw[Bj (λq=>absurd (hiff.mpr q) Jk)] at hR;have hri:=YT A.in1 ⟨hp,g,d,tk,os⟩ a t c u prog w
      wp_walk using hri
      exact⟨_,rfl,by simpa using hR⟩
  case fin =>
   rintro⟨b1,b2⟩ s' ⟨hb',rfl,vs,ws,ns',ms',hz,hvi,hwi,hlen,hR⟩;simp only at hb';subst hb';have hv:lexLt ns' ms'=decide (items.size<items2.size):=by
    cases hvi with
    |nil =>
     cases hwi with
     |nil =>
      simp only[Fj] at hlen;rw[lexLt_nil_nil];exact(Cy om).symm
     |cons c u hw =>
      simp only[Fj,Bd] at hlen;rw[tK];exact(Cp om).symm
    |cons a t hv =>
     cases hwi with
     |nil =>
      simp only[Fj,Bd] at hlen;rw[tJ];exact(Cy om).symm
     |cons c u hw =>
      rw[Jl] at hz;cases hz
   rw[hv] at hR
   wp_walk
   exact⟨_,rfl,by simpa [Nm] using hR⟩
  case h =>
   exact⟨rfl,rfl,items.toList,items2.toList,ns,ms,rfl,hi,hj,by omega,h⟩
end
section
variable {prog:Be}{w:Bx}{A:Bv}{E:Ac->Ag->Prop}{s:Ag}
theorem lt_tupInts {l b:Af}{items2:Ay Ac}{ns ms:Aa Ak}(hl:Oy s.heap l items)(hb:Oy s.heap b items2)(hi:IT items.toList ns)(hj:IT items2.toList ms)
  (hu:A.units<Eg) (h:Q (.bool (lexLt ns ms)) s):Ap (Au prog w) A (Co .Lt (.ref l) (.ref b)) Q E s:=by
 obtain⟨⟨cls,dd,data,sl⟩,ho,hc,n,hd⟩:=id hl;obtain⟨⟨cls2,dd2,data2,sl2⟩,ho2,hc2,n2,hd2⟩:=id hb;simp only at hc hd hc2 hd2;subst hc hd hc2 hd2;exact Rh (op:=.Lt) ⟨_,ho,rfl⟩ ⟨_,ho2,rfl⟩ Sd Ri (Qr _ _) (lK l b items items2 n n2 dd dd2 sl sl2 ns ms hi hj)
  ⟨ho,ho2,show Hv (lexLt ns ms)≠Th/\Q (.bool (lexLt ns ms)) s from⟨(λx=>nomatch x),h⟩⟩ hu
theorem cat_tup {t b:Af}{vs ws:Aa Ac}(ht:Oy s.heap t vs.toArray)(hb:Oy s.heap b ws.toArray)(hv:vs≠[])
  (h1:ws=[]->Q (.ref t) s) (h2:ws≠[]->Q (.ref s.heap.objs.size) { s with heap:=s.heap.push { cls:=.type "tuple",data:=.seq (vs++ws).toArray } })
  (hsz:vs.length+ws.length<=sizeLine):Ap (Au prog w) A (Fg .Add (.ref t) (.ref b)) Q E s:=by
 obtain⟨⟨cls,dd,data,sl⟩,ho,hc,n,hd⟩:=id ht;obtain⟨⟨cls2,dd2,data2,sl2⟩,ho2,hc2,n2,hd2⟩:=id hb;simp only at hc hd hc2 hd2;subst hc hd hc2 hd2;have e:vs.toArray++ws.toArray=(vs++ws).toArray:=by simp
 by_cases hw:ws=[]
 .exact Vr ⟨_,ho,rfl⟩ ⟨_,ho2,rfl⟩ Qf Tz My Mc (Lr _ _)
   (tuple_addW1 t b vs.toArray ws.toArray n n2 dd dd2 sl sl2 (by simpa using hv) (by simp[hw])) ⟨ho,ho2,h1 hw⟩
 .refine Vr ⟨_,ho,rfl⟩ ⟨_,ho2,rfl⟩ Qf Tz My Mc (Lr _ _)
   (tuple_addW2 t b vs.toArray ws.toArray n n2 dd dd2 sl sl2 (by simpa using hv) (by simpa using hw) (by rw[Bh,Bh];exact hsz)) ⟨ho,ho2,?_⟩
  rw[e];exact h2 hw
noncomputable def sIx (n d:Ai):Am Ak->Ai
 |none=>d
 |some v=>if v<0 then (v+(n:Ak)).toNat else min v.toNat n
theorem sIx_none (n d:Ai):sIx n d none=d:=rfl
theorem sIx_nat (n d k:Ai):sIx n d (Ab (k:Ak))=min k n:=by
 show (if (k:Ak)<0 then ((k:Ak)+(n:Ak)).toNat else min (k:Ak).toNat n)=min k n
 rw[Bj om,Gx]
theorem LN (n d:Ai)(hd:d<=n)(o:Am Ak):sIx n d o<=n:=by
 cases o with
 |none=>exact hd
 |some v =>
  show (if v<0 then (v+(n:Ak)).toNat else min v.toNat n)<=n
  by_cases hv:v<0
  .rw[Bp hv];omega
  .rw[Bj hv];exact Nat.min_le_right _ _
theorem eA (v:Ak)(n d:Ai):(if v<0 then max (v+(n:Ak)) 0 else min v (n:Ak))=((sIx n d (Ab v):Ai):Ak):=by
 show (if v<0 then max (v+(n:Ak)) 0 else min v (n:Ak))=(((if v<0 then (v+(n:Ak)).toNat else min v.toNat n):Ai):Ak)
 by_cases hv:v<0
 .simp only[Bp hv];omega
 .simp only[Bj hv];omega
theorem a9 (lo hi:Am Ak)(n:Ai):Gb lo hi 1 (n:Ak)=(((sIx n 0 lo:Ai):Ak),((sIx n n hi:Ai):Ak)):=by
 have h1:¬ ((1:Ak)<0):=by omega
 unfold Gb;simp only[h1,Ef];refine Yb ?_ ?_
 .cases lo with
  |none=>rfl
  |some v=>exact eA v n 0
 .cases hi with
  |none=>rfl
  |some v=>exact eA v n n
theorem iI (i j:Ai):Gc (i:Ak) (j:Ak) 1=j-i:=by
 unfold Gc;have h1:(1:Ak)>0:=by omega
 simp only[h1,Dx,Int.ediv_one]
 split <;> omega
theorem m9 {v:Ac}{o:Am Ak}{Q:Am Ak->Ag->Prop}(p:OK v o)(h:Q o s):Ap (Au prog w) A (Yo v) Q E s:=by
 cases p with
 |none=>exact O1 h
 |int i t=>exact slicePart_int h
theorem uE {sl:Af}{vl vu:Ac}{n:Ai}{Q:Ak × Ak × Ai->Ag->Prop}(hs:s.heap.IsSliceOf sl vl vu .none)(pl:OK vl lo)(pu:OK vu hi)
  (h:Q (((sIx n 0 lo:Ai):Ak),1,sIx n n hi-sIx n 0 lo) s):Ap (Au prog w) A (Ix (.ref sl) (pure (n:Ak))) Q E s:=by
 obtain⟨os,hos,hcs,hds⟩:=id hs;unfold Ix OY;refine Ad (Ad (DL hos hds (x:=vl) rfl (Ad (DL hos hds (x:=vu) rfl (Ad (DL hos hds (x:=.none) rfl (Al ?_)))))));refine Ad (O1 ?_);show Ap _ _ (if ((1:Ak) == 0)=true then _ else _) _ _ s
 rw[Bj (by decide)]
 refine Ad (m9 pl (Ad (m9 pu (Ad (Al ?_)))));show Ap _ _ (match Gb lo hi 1 (n:Ak) with|(lo,hi)=>pure (lo,(1:Ak),Gc lo hi 1)) _ _ s
 rw[a9 lo hi n];show Ap _ _ (pure (((sIx n 0 lo:Ai):Ak),(1:Ak),Gc ((sIx n 0 lo:Ai):Ak) ((sIx n n hi:Ai):Ak) 1)) _ _ s;rw[iI];exact Al h
theorem YA (xs:Ay Ac)(i k:Ai):((Dd k).filterMap λ(m:Ai)=>xs[((i:Ak)+(m:Ak)*1).toNat]?).toArray=((xs.toList.drop i).take k).toArray:=by
 have e:(λ(m:Ai)=>xs[((i:Ak)+(m:Ak)*1).toNat]?)=λm=>xs[i+m]?:=by
  funext m
  have:((i:Ak)+(m:Ak)*1).toNat=i+m:=by omega
  rw[this]
 rw[e];have:=pick_run xs i k;rw[List.filterMap_map] at this;have e2:((λx=>xs[x]?)∘λx=>i+x)=λm=>xs[i+m]?:=rfl;rw[e2] at this;rw[this]
theorem getItem_tuple_cut {t sl:Af}{vl vu:Ac}(ht:Oy s.heap t items)(hs:s.heap.IsSliceOf sl vl vu .none)(pl:OK vl lo)(pu:OK vu hi)
  (hw:¬ (sIx items.size 0 lo=0/\sIx items.size items.size hi=items.size))
  (h:Q (.ref s.heap.objs.size) { s with heap:=s.heap.push { cls:=.type "tuple",data:=.seq ((items.toList.drop (sIx items.size 0 lo)).take (sIx items.size items.size hi-sIx items.size 0 lo)).toArray } })
  (hsz:items.size<=sizeLine):Ap (Au prog w) A (Nn (.ref t) (.ref sl)) Q E s:=by
 have htake:sizeOk (.seq ((items.toList.drop (sIx items.size 0 lo)).take (sIx items.size items.size hi-sIx items.size 0 lo)).toArray):=by
  show ((items.toList.drop (sIx items.size 0 lo)).take (sIx items.size items.size hi-sIx items.size 0 lo)).toArray.size<=sizeLine;rw[Bh,Fc,Ko,Bg];omega
 have hj:sIx items.size items.size hi<=items.size:=LN _ _ (As _) hi;obtain⟨os,hos,hcs,hds⟩:=id hs;have hTs:s.TypeIs (.ref sl) "slice":=⟨os,hos,hcs⟩;unfold Nn
 try with_reducible refine Em ?_
 first|refine Ad (Al ?_)|skip
 refine Ad (OZ ht.typeIs (by decide) ?_)
 refine Ad (Dy (name:=Hg "__getitem__") ht.typeIs Dr
  (Ea Dr ht.typeIs On ?_ (OF _ _)))
 show Ap _ _ (Kq (.ref t) >>= _) _ _ s;refine Ad (T0 ht ?_);refine Ad (Kk hTs ?_);rw[Bp (by decide)]
 refine Ad (uE hs pl pu ?_);have hno:¬ ((((sIx items.size 0 lo:Ai):Ak) == 0&&(1:Ak) == 1&&(sIx items.size items.size hi-sIx items.size 0 lo) == items.size)=true):=by
  intro q;rw[Bi,Bi] at q;have q1:((sIx items.size 0 lo:Ai):Ak)=0:=eq_of_beq q.1.1;have q2:sIx items.size items.size hi-sIx items.size 0 lo=items.size:=eq_of_beq q.2;exact hw ⟨by omega,by omega⟩
 show Ap _ _ (if (((sIx items.size 0 lo:Ai):Ak) == 0&&(1:Ak) == 1&&(sIx items.size items.size hi-sIx items.size 0 lo) == items.size)=true then _ else _) _ _ s
 rw[Bj hno,YA]
 first
  |exact Ad (m:=EQ _) (Dp (Al ⟨_,rfl,Al h⟩) htake)
  |exact Ad (m:=EQ _) (Dp (Ad (Al (Al ⟨_,rfl,Al h⟩))) htake)
  |exact Ad (Ad (m:=EQ _) (Dp (Al (Al ⟨_,rfl,Al h⟩)) htake))
  |exact Ad (Ad (m:=EQ _) (Dp (Al ⟨_,rfl,Al h⟩) htake))
end
end _H
namespace _L
open PySem PySem.Spec PyProof.Rows
abbrev TO:=St->Hp->(Am Ak->Hp->Prop)->Prop
def PO (X:Cx)(e:Am Bt)(t:TO):Prop:=
 ∀ (pins:Aa (Af × Ci)) (s:Ag) (σ : St) (H:Hp) (Q:Am Ak->Hp->Prop),Inv X pins σ H s->t σ H Q ->
  Ap (Au X.prog X.w) X.A (evalPart e X.env) (λu s'=>∃ o H',Inv X pins σ H' s'/\OK u o/\Q o H') X.xe s
def B6:TO:=λ_ H Q=>Q none H
def E4 (t:TE):TO:=λσ H Q=>t σ H λx H1=>∃ i,x=.int i/\Q (Ab i) H1
theorem vN {ns:Aa Ak}:∀ {us:Aa Ac},qI (ns.map V.int) us->IT us ns:=by
 induction ns with
 |nil=>intro us r;rw[Vs] at r;cases r;exact .nil
 |cons n ns ih =>
  intro us r;rw[De] at r;cases r with
  |cons r1 r2 =>
   obtain⟨t,e⟩:=r1;subst e;exact .cons n t (ih r2)
section
variable {X:Cx}{e:Bt}{te:TE}{lo hi:Am Bt}{tl th:TO}{pos p2:Eu}
theorem GK:PO X none B6:=by
 intro pins s σ H Q I h;rw[TD];exact Al ⟨none,H,I,.none,h⟩
theorem GM (h:PE X e te):PO X (Ab e) (E4 te):=by
 intro pins s σ H Q I hw;rw[evalPart_some];refine thn (h pins s σ H _ I hw) λu s1 ⟨x,H1,I1,r1,q1⟩=>?_;obtain⟨i,rfl,q⟩:=q1;obtain⟨t,rfl⟩:=r1;exact⟨Ab i,H1,I1,.int i t,q⟩
def SlR (X:Cx)(r:V->Am Ak->Am Ak->Hp->VK->Prop):Prop:=
 ∀ (pins:Aa (Af × Ci)) (s:Ag) (σ : St) (H:Hp) (x:V) (v vl vu:Ac) (lo hi:Am Ak) (sl:Af) (Q:VK),Inv X pins σ H s->qF x v->s.heap.IsSliceOf sl vl vu .none->OK vl lo->OK vu hi->r x lo hi H Q ->
  ∃ T id,typeLookup (.type T) "__getitem__" = pure (Ab (.builtin id))/\s.TypeIs v T/\Ap (Au X.prog X.w) X.A (Nn v (.ref sl)) (EP X pins σ Q) X.xe s
theorem SlR.or {r r':V->Am Ak->Am Ak->Hp->VK->Prop}(h:SlR X r)(h':SlR X r'):SlR X (λx lo hi H Q=>r x lo hi H Q\/r' x lo hi H Q):=by
 intro pins s σ H x v vl vu lo hi sl Q I rx hs pl pu q;rcases q with q|q
 .exact h pins s σ H x v vl vu lo hi sl Q I rx hs pl pu q
 .exact h' pins s σ H x v vl vu lo hi sl Q I rx hs pl pu q
def tSl (r:V->Am Ak->Am Ak->Hp->VK->Prop)(te:TE)(tl th:TO):TE:=λσ H Q=>te σ H λx H1=>tl σ H1 λl H2=>th σ H2 λu H3=>r x l u H3 Q
theorem Y8 {r:V->Am Ak->Am Ak->Hp->VK->Prop}(hr:SlR X r)(he:PE X e te)(hl:PO X lo tl)(hu:PO X hi th):PE X (.Subscript e (.Slice lo hi none p2) pos) (tSl r te tl th):=by
 intro pins s σ H Q I h;refine Yp (thn (he pins s σ H _ I h) λv s1 ⟨x,H1,I1,r1,q1⟩=>?_);refine wpAny_Slice (thn (hl pins s1 σ H1 _ I1 q1) λvl s2 ⟨l,H2,I2,pl,q2⟩=>thn (hu pins s2 σ H2 _ I2 q2) λvu s3 ⟨u,H3,I3,pu,q3⟩=>?_);rw[TD];refine Al ?_;have I4:Inv X pins σ H3 { s3 with heap:=s3.heap.push { cls:=.type "slice",data:=.fields #[vl,vu,.none] } }:=I3.kept (t':=s3.toks) λb ob q=>Ah _ q
 obtain⟨T,id,hT,ht,hg⟩:=hr pins { s3 with heap:=s3.heap.push { cls:=.type "slice",data:=.fields #[vl,vu,.none] } } σ H3 x v vl vu l u s3.heap.objs.size Q I4 r1 (Vb ..) pl pu q3
 show Ap (Au X.prog X.w) X.A (TW e (.Slice lo hi none p2) v (.ref s3.heap.objs.size)) (EP X pins σ Q) X.xe { s3 with heap:=s3.heap.push { cls:=.type "slice",data:=.fields #[vl,vu,.none] } }
 exact tail_any (ops:=[.ref s3.heap.objs.size,v]) ht hT hg (by with_unfolding_all rfl)
noncomputable def gJ (xs:Aa V)(lo hi:Am Ak):Aa V:=(xs.drop (_H.sIx xs.length 0 lo)).take (_H.sIx xs.length xs.length hi-_H.sIx xs.length 0 lo)
theorem pZ (xs:Aa V)(lo hi:Am Ak):(gJ xs lo hi).length<=xs.length:=by
 unfold gJ;rw[Fc,Ko];omega
def HZ (K:Aj):V->Am Ak->Am Ak->Hp->VK->Prop:=λx lo hi H Q=>∃ a xs,x=.ref a/\SqT K H a xs /\
 ¬ (_H.sIx xs.length 0 lo=0/\_H.sIx xs.length xs.length hi=xs.length)/\∀ p,H p=none->Q (.ref p) (upd H p (.tup (gJ xs lo hi)))
theorem LP:SlR X (HZ X.K):=by
 intro pins s σ H x v vl vu lo hi sl Q I rx hs pl pu h;obtain⟨a,xs,rfl,hx,hw,q⟩:=h;cases rx;obtain⟨its,r,ht,hz⟩:=I.tuple hx;have hlen:its.toArray.size=xs.length:=by rw[Bh];exact r.length.symm
 refine⟨"tuple",_,Dr.lookup,ht.typeIs,?_⟩;refine _H.getItem_tuple_cut ht hs pl pu (by rw[hlen];exact hw) ?_ (by rw[hlen];exact hz)
 rw[hlen];refine⟨.ref s.heap.objs.size,_,I.laid (t':=s.toks) (o:=.tup (gJ xs lo hi)) (λb ob q=>Ah _ q) (As _) ?_,rfl,q _ (I.hok.fresh (As _))⟩;exact⟨Dh (pZ xs lo hi) hz,_,(r.drop (_H.sIx xs.length 0 lo)).take (_H.sIx xs.length xs.length hi-_H.sIx xs.length 0 lo),We _ _⟩
end
end _L
namespace _L
open PySem PySem.Spec PyProof.Rows
variable {pins:Aa (Af × Ci)}{s:Ag}{H:Hp}{σ:St}
noncomputable def ixN (n:Ai)(i:Ak):Am Ai:=if 0<=i then (if i<n then Ab i.toNat else none) else if -(n:Ak)<=i then Ab (i+n).toNat else none
noncomputable def atI {α:Type}(xs:Aa α)(i:Ak):Am α:=(ixN xs.length i).bind λj=>xs[j]?
theorem eS {n:Ai}{i:Ak}{j:Ai}(h:ixN n i=Ab j):seqIndex? i n=Ab j/\j<n /\ -(n:Ak)<=i/\i<n:=by
 unfold ixN at h;by_cases h0:0<=i
 .rw[Bp h0] at h
  by_cases h1:i<n
  .rw[Bp h1] at h
   have e:i.toNat=j:=Cz h;exact⟨by rw[Xb h0 h1,e],by omega,by omega,h1⟩
  .rw[Bj h1] at h;cases h
 .rw[Bj h0] at h
  by_cases h1 : -(n:Ak)<=i
  .rw[Bp h1] at h
   have e:(i+n).toNat=j:=Cz h;exact⟨by rw[seqIndex_neg om h1,e],by omega,h1,by omega⟩
  .rw[Bj h1] at h;cases h
theorem rW {α:Type}{xs:Aa α}{i:Ak}{v:α}(h:atI xs i=Ab v):∃ j,seqIndex? i xs.length=Ab j/\xs[j]? = Ab v/\j<xs.length /\ -(xs.length:Ak)<=i/\i<xs.length:=by
 unfold atI at h;cases e:ixN xs.length i with
 |none=>rw[e] at h;cases h
 |some j =>
  rw[e] at h;obtain⟨h1,h2,h3,h4⟩:=eS e;exact⟨j,h1,h,h2,h3,h4⟩
def mG (b:Bt):Prop:=∀ o i,subscripted b false o i=operate [o,i] (Nn o i)
def IxR (X:Cx)(r:R2):Prop:=
 ∀ (value slice:Bt) (pins:Aa (Af × Ci)) (s:Ag) (σ : St) (H:Hp) (x y:V) (v u:Ac) (Q:VK),Inv X pins σ H s->qF x v->qF y u->r x y H Q ->
  subscripted slice false v u=operate [v,u] (Nn v u)->Ap (Au X.prog X.w) X.A (TW value slice v u) (EP X pins σ Q) X.xe s
def MtR (X:Cx)(id:Et)(r:V->Aa V->Hp->VK->Prop):Prop:=
 ∀ (pins:Aa (Af × Ci)) (s:Ag) (σ : St) (H:Hp) (x:V) (xs:Aa V) (v:Ac) (us:Aa Ac) (Q:VK),Inv X pins σ H s->qF x v->qI xs us->r x xs H Q ->
  Ap (Au X.prog X.w) X.A (call (.builtin id) (v::us)) (EP X pins σ Q) X.xe s
section
variable {X:Cx}{a b:Bt}{ta tb:TE}{pos:Eu}
theorem IxR.or {r r':R2}(h:IxR X r)(h':IxR X r'):IxR X (λx y H Q=>r x y H Q\/r' x y H Q):=by
 intro value slice pins s σ H x y v u Q I rx ry q hs;rcases q with q|q
 .exact h value slice pins s σ H x y v u Q I rx ry q hs
 .exact h' value slice pins s σ H x y v u Q I rx ry q hs
theorem MtR.or {id:Et}{r r':V->Aa V->Hp->VK->Prop}(h:MtR X id r)(h':MtR X id r'):MtR X id (λx xs H Q=>r x xs H Q\/r' x xs H Q):=by
 intro pins s σ H x xs v us Q I rx rs q;rcases q with q|q
 .exact h pins s σ H x xs v us Q I rx rs q
 .exact h' pins s σ H x xs v us Q I rx rs q
theorem RH {r:R2}(hr:IxR X r)(ha:PE X a ta)(hb:PE X b tb)(hs:mG b):PE X (.Subscript a b pos) (tOp r ta tb):=by
 intro pins s σ H Q I h;exact Yp (H9 ha hb I h λv u s2 x y H2 I2 rx ry q=>hr a b pins s2 σ H2 x y v u Q I2 rx ry q (hs _ _))
def HV (K:Aj):R2:=λx y H Q=>∃ p xs i v,x=.ref p/\y=.int i/\SqL K H p xs/\atI xs i=Ab v/\Q v H
def HW (K:Aj):R2:=λx y H Q=>∃ p xs i v,x=.ref p/\y=.int i/\SqT K H p xs/\atI xs i=Ab v/\Q v H
theorem eT:IxR X (HV X.K):=by
 intro value slice pins s σ H x y v u Q I rx ry h hs;obtain⟨p,xs,i,z,rfl,rfl,hq,he,q⟩:=h;cases rx;obtain⟨t,rfl⟩:=ry;obtain⟨its,r,pl,hz⟩:=I.list hq;obtain⟨j,h1,h2,h3,h4,h5⟩:=rW he;obtain⟨w,ew,rw'⟩:=r.get h2;have hl:=r.length;have hn:=gS;have fin:EP X pins σ Q w s:=⟨z,H,I,rw',q⟩;by_cases h0:0<=i
 .have hj:i.toNat=j:=by
   rw[Xb h0 h5] at h1;exact Cz h1
  exact item_listR pl.isList h0 om (by rw[hj];simpa using ew) fin hs
 .have hj:(i+(its.toArray.size:Ak)).toNat=j:=by
   rw[seqIndex_neg om h4] at h1;rw[Bh,<- hl];exact Cz h1
  exact Rj (x:=w) pl.isList.typeIs Wi.lookup
   (wpAny_getItem_list_neg (Q:=λr s'=>r=w/\EP X pins σ Q r s') pl.isList om (by rw[Bh] <;> omega) om (by rw[hj];simpa using ew) ⟨rfl,fin⟩) hs
theorem MK:IxR X (HW X.K):=by
 intro value slice pins s σ H x y v u Q I rx ry h hs;obtain⟨p,xs,i,z,rfl,rfl,hq,he,q⟩:=h;cases rx;obtain⟨t,rfl⟩:=ry;obtain⟨its,r,pl,hz⟩:=I.tuple hq;obtain⟨j,h1,h2,h3,h4,h5⟩:=rW he;obtain⟨w,ew,rw'⟩:=r.get h2;have hl:=r.length;have hn:=gS;have fin:EP X pins σ Q w s:=⟨z,H,I,rw',q⟩;exact Rj (x:=w) pl.typeIs slot_tuple_getitem.lookup
  (getItem_tuple (j:=j) (Q:=λr s'=>r=w/\EP X pins σ Q r s') pl om om (by rw[Bh,<- hl];exact h1) (by simpa using ew) ⟨rfl,fin⟩) hs
theorem iB (its:Aa Ac)(n j:Ai)(u:Ac):Ew (·.setIfInBounds j u) { cls:=.type "list",data:=.seq its.toArray n } = { cls:=.type "list",data:=.seq (its.set j u).toArray n }:=by
 simp[Ew]
theorem Inv.lst {p:Af}{xs:Aa V}(I:Inv X pins σ H s)(h:H p=Ab (.lst xs)) :
  ∃ (its:Aa Ac) (n:Ai),qI xs its/\s.heap.get? p=Ab { cls:=.type "list",data:=.seq its.toArray n } /\ xs.length<=sizeLine:=by
 obtain⟨z,its,n,r,e⟩:=I.hok p _ h;exact⟨its,n,r,e,z⟩
theorem Inv.lstUpd {p:Af}{xs ys:Aa V}{its its':Aa Ac}{n n':Ai}{f:Ci->Ci}(I:Inv X pins σ H s)(h:H p=Ab (.lst xs))
  (ho:s.heap.get? p=Ab { cls:=.type "list",data:=.seq its.toArray n }) (hf:f { cls:=.type "list",data:=.seq its.toArray n } = { cls:=.type "list",data:=.seq its'.toArray n' }) (r:qI ys its') (hz:ys.length<=sizeLine) (t:Ai) :
  Inv X pins σ (upd H p (.lst ys)) { s with heap:=s.heap.update p f,toks:=t }:=by
 have e:(s.heap.update p f).get? p=Ab { cls:=.type "list",data:=.seq its'.toArray n' }:=by
  rw[Fo f ho (by rw[hf] <;> rfl),hf]
 refine I.write (x:=p) (e:=p) (by rw[h];trivial) (.inl rfl) (λb u hb q=>(Dk _ _ (Ft hb)).trans q) ⟨_,e⟩ ?_
 exact⟨hz,its',n',r,e⟩
def RU:V->V->V->Hp->(Hp->Prop)->Prop:=λo i v H Q=>∃ p xs k j,o=.ref p/\i=.int k/\H p=Ab (.lst xs)/\ixN xs.length k=Ab j/\Q (upd H p (.lst (xs.set j v)))
theorem YZ:d3 X RU:=by
 intro pins s σ H o i v ov iv u Q I ro ri rv h;obtain⟨p,xs,k,j,rfl,rfl,hp,hj,q⟩:=h;cases ro;obtain⟨t,rfl⟩:=ri;obtain⟨its,n,r,ho,hz⟩:=I.lst hp;obtain⟨h1,h2,h3,h4⟩:=eS hj;have hl:=r.length;have hn:=gS;have I':Inv X pins σ (upd H p (.lst (xs.set j v))) { s with heap:=s.heap.update p (Ew (·.setIfInBounds j u)) }:=
  I.lstUpd hp ho (iB its n j u) (r.set rv j) (by rw[List.length_set];exact hz) s.toks
 by_cases h0:0<=k
 .have hk:k.toNat=j:=by
   rw[Xb h0 h4] at h1;exact Cz h1
  exact PySem.W.ki_setAt ho h0 om (by rw[Bh,<- hl];exact h4) (by rw[hk];exact⟨_,I',q⟩)
 .have hk:(k+(its.toArray.size:Ak)).toNat=j:=by
   rw[seqIndex_neg om h3] at h1;rw[Bh,<- hl];exact Cz h1
  exact PySem.W.ki_setBack ho om (by rw[Bh,<- hl];exact h3) om (by rw[hk];exact⟨_,I',q⟩)
theorem rA (lo hi:Am Ak)(n:Ai):(Lf lo hi none n).1=((_H.sIx n 0 lo:Ai):Ak)/\(Lf lo hi none n).2.1=((_H.sIx n n hi:Ai):Ak)/\(Lf lo hi none n).2.2=1:=by
 refine⟨?_,?_,rfl⟩
 .cases lo with
  |none=>simp[Lf,_H.sIx]
  |some i =>
   simp only[Lf,_H.sIx,Xc,show (1:Ak)>0 by decide,Dx]
   by_cases h:i<0
   .simp only[h,Dx] <;> omega
   .simp only[h,Ef] <;> omega
 .cases hi with
  |none=>simp[Lf,_H.sIx]
  |some i =>
   simp only[Lf,_H.sIx,Xc,show (1:Ak)>0 by decide,Dx]
   by_cases h:i<0
   .simp only[h,Dx] <;> omega
   .simp only[h,Ef] <;> omega
theorem lJ (its:Aa Ac)(lo hi:Am Ak):slicePick its.toArray lo hi none=((its.drop (_H.sIx its.length 0 lo)).take (_H.sIx its.length its.length hi-_H.sIx its.length 0 lo)).toArray:=by
 obtain⟨h1,h2,h3⟩:=rA lo hi its.toArray.size;unfold slicePick;rw[h1,h2,h3];simp only[sliceRange_one,pick_run,Bh] <;> rfl
def HY (K:Aj):V->Am Ak->Am Ak->Hp->VK->Prop:=λx lo hi H Q=>∃ a xs,x=.ref a/\SqL K H a xs/\∀ p,H p=none->Q (.ref p) (upd H p (.lst (gJ xs lo hi)))
theorem cK:SlR X (HY X.K):=by
 intro pins s σ H x v vl vu lo hi sl Q I rx hs pl pu h;obtain⟨a,xs,rfl,hx,q⟩:=h;cases rx;obtain⟨its,r,ht,hz⟩:=I.list hx;have hlen:=r.length;refine⟨"list",_,Wi.lookup,ht.isList.typeIs,?_⟩;refine wpAny_getItem_list_slice ht.isList hs pl pu .none (by simp) ?_ (by rw[Bh] <;> omega)
 rw[lJ,<- hlen];refine⟨.ref s.heap.objs.size,_,I.laid (t':=s.toks) (o:=.lst (gJ xs lo hi)) (λb ob q=>Ah _ q) (As _) ?_,rfl,q _ (I.hok.fresh (As _))⟩;exact⟨Dh (pZ xs lo hi) hz,_,0,(r.drop (_H.sIx xs.length 0 lo)).take (_H.sIx xs.length xs.length hi-_H.sIx xs.length 0 lo),Ba _ rfl⟩
theorem jN.or {f:Ac}{r r':Aa V->Hp->VK->Prop}(h:jN X f r)(h':jN X f r'):jN X f (λxs H Q=>r xs H Q\/r' xs H Q):=by
 intro pins s σ H xs us Q I rs q;rcases q with q|q
 .exact h pins s σ H xs us Q I rs q
 .exact h' pins s σ H xs us Q I rs q
theorem gB:jN X (.type "tuple") (λxs H Q=>∃ p ys,xs=[.ref p]/\((SqL X.K H p ys/\∀ l,H l=none->Q (.ref l) (upd H l (.tup ys)))\/(SqT X.K H p ys/\Q (.ref p) H))):=by
 intro pins s σ H xs us Q I r h;obtain⟨p,ys,rfl,h⟩:=h;obtain⟨u,rfl,rx⟩:=kU r;cases rx;rcases h with⟨hq,q⟩|⟨hq,q⟩
 .obtain⟨its,r',pl,hz⟩:=I.list hq
  have hlen:=r'.length;refine call_tuple_list pl.isList (λh' kp=>?_) (by simp only[Bh] <;> omega)
  have I1:Inv X pins σ H { s with heap:=h' }:=I.kept (t':=s.toks) kp
  have I2:Inv X pins σ (upd H h'.objs.size (.tup ys)) { s with heap:=h'.push { cls:=.type "tuple",data:=.seq its.toArray } }:=
   I1.laid (t':=s.toks) (λb o e=>Ah _ e) (As _) (show zG X.prog X.w _ _ _ (.tup ys) from⟨hz,its,r',We _ _⟩)
  exact⟨.ref h'.objs.size,_,I2,rfl,q _ (I1.hok.fresh (As _))⟩
 .obtain⟨its,r',pl,hz⟩:=I.tuple hq
  exact call_tuple_same pl ⟨.ref p,H,I,rfl,q⟩
def tyV (K:Aj)(T:Et)(x:V)(H:Hp):Prop:=match x with
 |.str _=>T = "str"
 |.int _=>T = "int"
 |.ref p=>(T = "list" /\ ∃ xs,SqL K H p xs)\/(T = "tuple" /\ ∃ o,K.lookup p=Ab o/\o.cls=.type "tuple" /\ o.dict=none) \/
   (T = "dict" /\ ((∃ kvs,H p=Ab (.dK kvs))\/∃ kvs,H p=Ab (.dT kvs)))\/(T = "set" /\ ∃ S n,H p=Ab (.set S n))
 |_=>Fd
theorem rD {T:Et}{x:V}{v:Ac}(I:Inv X pins σ H s)(r:qF x v)(ty:tyV X.K T x H) :
  s.TypeIs v T/\∀ a,v=.ref a->∃ ob,s.heap.get? a=Ab ob/\ob.dict=none:=by
 cases x with
 |str z =>
  obtain⟨t,rfl⟩:=r;cases (show T = "str" from ty)
  exact⟨typeIs_str s z t,λ_ e=>nomatch e⟩
 |int i =>
  obtain⟨t,rfl⟩:=r;cases (show T = "int" from ty)
  exact⟨typeIs_int s i t,λ_ e=>nomatch e⟩
 |ref p =>
  cases r;rcases ty with⟨rfl,xs,hq⟩|⟨rfl,o,hk,hc,hd⟩|⟨rfl,hk⟩|⟨rfl,S,n,hk⟩
  .obtain⟨its,_,pl,_⟩:=I.list hq
   refine⟨pl.isList.typeIs,λa e=>?_⟩;cases e;obtain⟨o,n,e,c,hd,_⟩:=pl;exact⟨o,e,hd⟩
  .refine⟨⟨o,I.kIn p o hk,hc⟩,λa e=>?_⟩
   cases e;exact⟨o,I.kIn _ o hk,hd⟩
  .have z:∃ o,s.heap.get? p=Ab o/\o.ExactDict:=by
    rcases hk with⟨kvs,hk⟩|⟨kvs,hk⟩
    .obtain⟨_,_,_,_,o,_,_,e,ex,_⟩:=I.hok p _ hk
     exact⟨o,e,ex⟩
    .obtain⟨_,_,_,_,o,_,_,e,ex,_⟩:=I.hok p _ hk
     exact⟨o,e,ex⟩
   obtain⟨o,e,ex⟩:=z;refine⟨⟨o,e,ex.1⟩,λa e2=>?_⟩;cases e2;exact⟨o,e,ex.2.1⟩
  .obtain⟨o,_,_,_,e,ex,_⟩:=I.hok p _ hk
   refine⟨⟨o,e,ex.1⟩,λa e2=>?_⟩;cases e2;exact⟨o,e,ex.2.1⟩
 |_=>exact Aq ty
variable {o e:Bt}{es:Aa Bt}{to:TE}{t:TA}{name:Av}{apos cpos:Eu}{T id:Et}{r:V->Aa V->Hp->VK->Prop}
/- xs.append(e),list.index on a module's tuple .. are MtR facts of 06m -/
end
end _L
namespace _L
open PySem PySem.Spec PyProof.Rows
def MtM (X:Cx)(id:Et)(r:V->Aa V->Hp->VK->Prop):Prop:=
 ∀ (pins:Aa (Af × Ci)) (s:Ag) (σ : St) (H:Hp) (x:V) (xs:Aa V) (v:Ac) (us:Aa Ac) (Q:VK),Inv X pins σ H s->qF x v->qI xs us->r x xs H Q ->
  Ap (Au X.prog X.w) X.A (call (.builtin id) (v::us)) (EP X pins σ Q) X.xe s
theorem qI.one {x:V}{us:Aa Ac}(h:qI [x] us):∃ u,us=[u]/\qF x u:=kU h
theorem qI.two {x y:V}{us:Aa Ac}(h:qI [x,y] us):∃ u v,us=[u,v]/\qF x u/\qF y v:=iY h
theorem qI.zero:∀ {us:Aa Ac},qI [] us->us=[]
 |_,.nil=>rfl
section
variable {X:Cx}{pins:Aa (Af × Ci)}{σ : St}{H:Hp}{s:Ag}{l b:Af}{xs ys zs:Aa V}
theorem Inv.lset {its its':Aa Ac}{n:Ai}{f:Ay Ac->Ay Ac}{t':Ai}(I:Inv X pins σ H s)(hH:H l=Ab (.lst xs))
  (e:s.heap.get? l=Ab { cls:=.type "list",data:=.seq its.toArray n }) (hf:f its.toArray=its'.toArray) (hv:qI ys its') (hz:ys.length<=sizeLine) :
  Inv X pins σ (upd H l (.lst ys)) { s with heap:=s.heap.update l (Ew f),toks:=t' }:=by
 have q:=Xd e f;rw[hf] at q;refine I.write (x:=l) (e:=l) (by rw[hH];exact trivial) (.inl rfl) (λb' u hb hu=>(Dk s.heap (Ew f) (Ft hb)).trans hu) ⟨_,q⟩ ?_
 exact⟨hz,its',_,hv,q⟩
theorem Inv.lstM (I:Inv X pins σ H s)(hH:H l=Ab (.lst xs)):xs.length<=sizeLine/\∃ (its:Aa Ac) (n:Ai),qI xs its/\xs.length=its.length/\s.heap.get? l=Ab { cls:=.type "list",data:=.seq its.toArray n }:=by
 obtain⟨z,its,n,r,e⟩:=I.hok l _ hH;exact⟨z,its,n,r,r.length,e⟩
end
section
variable {X:Cx}
def PH:V->Aa V->Hp->VK->Prop:=λx vs H Q=>∃ l xs y,x=.ref l/\vs=[y]/\H l=Ab (.lst xs)/\xs.length<sizeLine/\Q .non (upd H l (.lst (xs++[y])))
theorem QX:MtM X "list.append" PH:=by
 intro pins s σ H x vs v us Q I rx rv h;obtain⟨l,xs,y,rfl,rfl,hH,hz,q⟩:=h;cases rx;obtain⟨u,rfl,ru⟩:=rv.one;obtain⟨z,its,n,r,hl,e⟩:=I.lstM hH;refine call_meets Vc ⟨_,e,rfl⟩ Ua (Ti _ _) (Wj l its.toArray n u (by rw[Bh];omega)) ⟨e,?_⟩
 refine⟨.non,_,I.lset (its':=its++[u]) hH e (by simp) (r.append (.cons ru .nil)) ?_,rfl,q⟩
 rw[Ct,Iy];omega
end
end _L
namespace _L
open PySem PySem.Spec PyProof.Rows
variable {xs:Aa (Aa Key × Af × Ac)}{kvs:Aa (Aa Key × V)}{H':Hp}
section
variable {κ : Type}[Nd κ]
noncomputable def yE (kvs:Aa (κ × V))(k:κ):Am V:=(kvs.find? λkv=>decide (kv.1=k)).map (·.2)
noncomputable def yD (kvs:Aa (κ × V))(k:κ)(v:V):Aa (κ × V):=
 if (kvs.any λkv=>decide (kv.1=k))=true then kvs.map (λkv=>if kv.1=k then (kv.1,v) else kv) else kvs++[(k,v)]
theorem bY {p:κ × V}{r:Aa (κ × V)}{k:κ}(e:p.1=k):yE (p::r) k=Ab p.2:=by simp[yE,Hz,e]
theorem bX {p:κ × V}{r:Aa (κ × V)}{k:κ}(e:¬ p.1=k):yE (p::r) k=yE r k:=by simp[yE,Hz,e]
theorem rJ (k:κ):∀ kvs:Aa (κ × V),(kvs.any λkv=>decide (kv.1=k))=(yE kvs k).isSome
 |[]=>rfl
 |p::r=>by
  rw[IU];by_cases e:p.1=k
  .simp only[bY e,Cp e,Zy,Vd]
  .rw[bX e,Cy e,Bool.false_or];exact rJ k r
theorem uZ (kvs:Aa (κ × V))(k:κ)(v:V):(yD kvs k v).length<=kvs.length+1:=by
 unfold yD
 split
 .rw[Ao];omega
 .rw[Ct,Bd,Fj];omega
theorem jP.isSome_eq {o:Am V}{u:Am Ac}(r:jP o u):o.isSome=u.isSome:=by
 cases o with
 |none=>cases u with
  |none=>rfl
  |some _=>exact(show Fd from r).elim
 |some _=>cases u with
  |none=>exact(show Fd from r).elim
  |some _=>rfl
theorem jP.getD {o:Am V}{u:Am Ac}{d:V}{d':Ac}(r:jP o u)(rd:qF d d'):qF (o.getD d) (u.getD d'):=by
 cases o with
 |none=>cases u with
  |none=>exact rd
  |some _=>exact(show Fd from r).elim
 |some _=>cases u with
  |none=>exact(show Fd from r).elim
  |some _=>exact r
theorem KV.val {kvs:Aa (κ × V)}{vs:Aa (κ × Ac)}(r:KV kvs vs)(k:κ):jP (yE kvs k) (Ub vs k):=by
 unfold KV at r
 induction r with
 |nil=>exact Ie
 |@cons p q ps qs h t ih =>
  obtain⟨h1,h2⟩:=h;by_cases e:p.1=k
  .have e':q.1=k:=h1.symm.trans e
   have b:Ub (q::qs) k=Ab q.2:=by simp[Ub,Hz,e']
   rw[bY e,b];exact h2
  .have e':¬ q.1=k:=λz=>e (h1.trans z)
   have b:Ub (q::qs) k=Ub qs k:=by simp[Ub,Hz,e']
   rw[bX e,b];exact ih
theorem KV.any {kvs:Aa (κ × V)}{vs:Aa (κ × Ac)}(r:KV kvs vs)(k:κ):(kvs.any λkv=>decide (kv.1=k))=vs.any λkv=>decide (kv.1=k):=by
 unfold KV at r
 induction r with
 |nil=>rfl
 |cons h t ih=>rw[IU,IU,ih,h.1]
theorem KV.repl {kvs:Aa (κ × V)}{vs:Aa (κ × Ac)}(r:KV kvs vs)(k:κ){y:V}{u:Ac}(ry:qF y u) :
  KV (kvs.map λkv=>if kv.1=k then (kv.1,y) else kv) (vs.map λkv=>if kv.1=k then (kv.1,u) else kv):=by
 unfold KV at r ⊢
 induction r with
 |nil=>exact .nil
 |@cons p q ps qs h t ih =>
  rw[De,De];refine .cons ?_ ih;obtain⟨h1,h2⟩:=h;by_cases e:p.1=k
  .rw[Bp e,Bp (h1.symm.trans e)];exact⟨h1,ry⟩
  .rw[Bj e,Bj (λz=>e (h1.trans z))];exact⟨h1,h2⟩
theorem KV.put {kvs:Aa (κ × V)}{vs:Aa (κ × Ac)}(r:KV kvs vs)(k:κ){y:V}{u:Ac}(ry:qF y u):KV (yD kvs k y) (stored vs k u):=by
 unfold yD stored;rw[r.any k];by_cases e:(vs.any λkv=>decide (kv.1=k))=true
 .rw[Bp e,Bp e];exact r.repl k ry
 .rw[Bj e,Bj e];exact Paired.snoc r ⟨rfl,ry⟩
theorem KV.length {kvs:Aa (κ × V)}{vs:Aa (κ × Ac)}(r:KV kvs vs):kvs.length=vs.length:=Paired.length r
end
theorem fR {P:Be}{w:Bx}{k:Key}{u:Ac}(r:qF (kV k) u):(zD P w).is k u=true:=by
 cases k with
 |inl i=>obtain⟨t,e⟩:=(show ∃ t,u=OT i t from r);subst e;exact rN P w i t
 |inr x=>obtain⟨t,e⟩:=(show ∃ t,u=Wb x t from r);subst e;exact rO P w x t
theorem l4 {P:Be}{w:Bx}:∀ {ks:Aa Key} {us:Aa Ac},qI (ks.map kV) us->ItemsAre (zD P w) ks us
 |[],_,r=>by rw[Vs] at r;cases r;exact .nil
 |k::ks,_,r=>by
  rw[De] at r;cases r with
  |cons h t=>exact .cons (fR h) (l4 t)
abbrev KT (H:Hp):Aa (Aa Key × V)->Aa (Aa Key × Af × Ac)->Prop:=Paired λp q=>p.1=q.1/\H q.2.1=Ab (.tup (p.1.map kV))/\qF p.2 q.2.2
theorem KT.val {H:Hp}(r:KT H kvs xs)(k:Aa Key):jP (yE kvs k) ((Wk xs k).map (·.2)):=by
 induction r with
 |nil=>exact Ie
 |@cons p q ps qs h t ih =>
  obtain⟨h1,_,h2⟩:=h;by_cases e:p.1=k
  .have e':q.1=k:=h1.symm.trans e
   have b:Wk (q::qs) k=Ab q.2:=by simp[Wk,Hz,e']
   rw[bY e,b];exact h2
  .have e':¬ q.1=k:=λz=>e (h1.trans z)
   have b:Wk (q::qs) k=Wk qs k:=by simp[Wk,Hz,e']
   rw[bX e,b];exact ih
theorem KT.repl {H:Hp}(r:KT H kvs xs)(k:Aa Key){y:V}{u:Ac}(ry:qF y u) :
  KT H (kvs.map λkv=>if kv.1=k then (kv.1,y) else kv) (xs.map (putAt k u)):=by
 induction r with
 |nil=>exact .nil
 |@cons p q ps qs h t ih =>
  rw[De,De];refine .cons ?_ ih;obtain⟨h1,h2,h3⟩:=h;unfold putAt;by_cases e:p.1=k
  .rw[Bp e,Bp (h1.symm.trans e)];exact⟨h1,h2,ry⟩
  .rw[Bj e,Bj (λz=>e (h1.trans z))];exact⟨h1,h2,h3⟩
theorem KT.put {H:Hp}(r:KT H kvs xs)(k:Aa Key){b:Af}{y:V}{u:Ac}(hb:H b=Ab (.tup (k.map kV)))(ry:qF y u) :
  KT H (yD kvs k y) (storedH xs k b u):=by
 have e:(kvs.any λkv=>decide (kv.1=k))=(Wk xs k).isSome:=by
  rw[rJ,(r.val k).isSome_eq,Option.isSome_map]
 unfold yD storedH;rw[e];by_cases q:(Wk xs k).isSome=true
 .rw[Bp q,Bp q];exact r.repl k ry
 .rw[Bj q,Bj q];exact Paired.snoc r ⟨rfl,hb,ry⟩
theorem KT.keeps {H:Hp}(r:KT H kvs xs)(ht:∀ b ys,H b=Ab (.tup ys)->H' b=Ab (.tup ys)):KT H' kvs xs:=
 Paired.mapP r λ_ _ z=>⟨z.1,ht _ _ z.2.1,z.2.2⟩
section
variable {P:Be}{w:Bx}{H:Hp}{h:Br}{a:Af}
theorem UC {u:HO}(ok:HOk P w H h)(e:Rd H a u):zG P w H h a u:=e.ok ok
theorem DY {kvs:Aa (Key × V)}(ok:HOk P w H h)(e:Rd H a (.dK kvs)):kvs.length<=sizeLine/\(a == Jd)=false/\∃ vs,KV kvs vs/\h.DictOf (zD P w) a vs:=
 show zG P w H h a (.dK kvs) from UC ok e
theorem lP {kvs:Aa (Key × V)}(ok:HOk P w H h)(e:H a=Ab (.dK kvs)):kvs.length<=sizeLine/\(a == Jd)=false/\∃ vs,KV kvs vs/\h.DictOf (zD P w) a vs:=DY ok (.inl e)
theorem QC {ks:Aa Key}(ok:HOk P w H h)(e:H a=Ab (.tup (ks.map kV))):(Sa (zD P w)).is h ks a:=by
 obtain⟨_,its,r,o,h1,h2,n,h3⟩:=(show zG P w H h a (.tup (ks.map kV)) from ok a _ e)
 exact⟨o,its.toArray,n,h1,h2,h3,by simpa using l4 r⟩
theorem SA (ok:HOk P w H h)(e:Rd H a (.dT kvs)):kvs.length<=sizeLine/\(a == Jd)=false /\
  ∃ xs,KT H kvs xs/\h.DictOfH (Sa (zD P w)) a xs:=by
 obtain⟨z,y,xs,r,o,es,ep,h1,h2,h3,h4,h5⟩:=(show zG P w H h a (.dT kvs) from UC ok e)
 refine⟨z,y,xs,r,o,es,ep,h1,h2,h3,h4,λx hx=>?_,h5⟩;have all:∀ {l:Aa (Aa Key × V)} {m:Aa (Aa Key × Af × Ac)},KT H l m->∀ x∈m,(Sa (zD P w)).is h x.1 x.2.1:=by
  intro l m q
  induction q with
  |nil=>intro x hx;exact nomatch hx
  |@cons p q ps qs hq t ih =>
   intro x hx;rcases Ax.mp hx with e|hx
   .subst e
    exact QC ok (by rw[<- hq.1];exact hq.2.1)
   .exact ih x hx
 exact all r x hx
theorem S9 (ok:HOk P w H h)(e:H a=Ab (.dT kvs)):kvs.length<=sizeLine/\(a == Jd)=false /\
  ∃ xs,KT H kvs xs/\h.DictOfH (Sa (zD P w)) a xs:=SA ok (.inl e)
end
def cU (H:Hp)(a:Af)(y:V)(r:Am V):Prop:=
 (∃ kvs k,Rd H a (.dK kvs)/\y=kV k/\r=yE kvs k)\/∃ kvs k b,Rd H a (.dT kvs)/\y=.ref b/\H b=Ab (.tup (k.map kV))/\r=yE kvs k
def mF (H:Hp)(a:Af)(y v:V)(H':Hp):Prop:=
 (∃ kvs k,H a=Ab (.dK kvs)/\y=kV k/\kvs.length<sizeLine/\H'=upd H a (.dK (yD kvs k v))) \/
 ∃ kvs k b,H a=Ab (.dT kvs)/\y=.ref b/\H b=Ab (.tup (k.map kV))/\kvs.length<sizeLine/\H'=upd H a (.dT (yD kvs k v))
theorem cU.k {H:Hp}{a:Af}{kvs:Aa (Key × V)}{k:Key}(e:H a=Ab (.dK kvs)):cU H a (kV k) (yE kvs k):=.inl ⟨kvs,k,.inl e,rfl,rfl⟩
theorem cU.t {H:Hp}{a b:Af}{k:Aa Key}(e:H a=Ab (.dT kvs))(eb:H b=Ab (.tup (k.map kV))):cU H a (.ref b) (yE kvs k):=.inr ⟨kvs,k,b,.inl e,rfl,eb,rfl⟩
theorem mF.k {H:Hp}{a:Af}{kvs:Aa (Key × V)}{k:Key}{v:V}(e:H a=Ab (.dK kvs))(hl:kvs.length<sizeLine):mF H a (kV k) v (upd H a (.dK (yD kvs k v))):=.inl ⟨kvs,k,e,rfl,hl,rfl⟩
theorem mF.t {H:Hp}{a b:Af}{k:Aa Key}{v:V}(e:H a=Ab (.dT kvs))(eb:H b=Ab (.tup (k.map kV)))(hl:kvs.length<sizeLine) :
  mF H a (.ref b) v (upd H a (.dT (yD kvs k v))):=.inr ⟨kvs,k,b,e,rfl,eb,hl,rfl⟩
section
variable {X:Cx}{pins:Aa (Af × Ci)}{σ : St}{H:Hp}{s:Ag}{a:Af}{y v:V}{u r:Ac}{o:Am V}{A:Bv}{E:Ac->Ag->Prop}
theorem Inv.big (I:Inv X pins σ H s):Jd<s.heap.objs.size:=by
 have h:Df<s.heap.objs.size:=(I.mod.glob.keeps I.bk).lt;exact Ia (by decide) h
theorem mP {h':Br}{t':Ai}{ob:HO}(I:Inv X pins σ H s)(mu:Mut (H a))(hs:Ep a s.heap h')(he:∃ q,h'.get? a=Ab q)(new:zG X.prog X.w (upd H a ob) h' a ob) :
  Inv X pins σ (upd H a ob) { s with heap:=h',toks:=t' }:=
 I.write (x:=a) (e:=a) mu (.inl rfl) (λb q hb z=>(hs.2 b hb).trans z) he new
theorem oQ {P:Be}{w:Bx}{h':Br}{kvs:Aa (Key × V)}{vs:Aa (Key × Ac)}(z:kvs.length<=sizeLine)(hd:(a == Jd)=false)(rel:KV kvs vs)(dd:h'.DictOf (zD P w) a vs) :
  zG P w H' h' a (.dK kvs):=⟨z,hd,vs,rel,dd⟩
theorem oN {Q:Su->Ag->Prop}(hu:A.units+1<Eg)(I:Inv X pins σ H s)(g:mF H a y v H')(ry:qF y u)(rv:qF v r)(h:∀ s',Inv X pins σ H' s'->Q () s') :
  Ap (Au X.prog X.w) A (Zj (.ref a) u r) Q E s:=by
 rcases g with⟨kvs,k,e,ey,l,eH⟩|⟨kvs,k,b,e,ey,eb,l,eH⟩
 .subst ey eH
  obtain⟨z,hd,vs,rel,dd⟩:=lP I.hok e;have hz:vs.length<=sizeLine:=by rw[<- rel.length];exact z
  have hl:(yD kvs k v).length<=sizeLine:=by have:=uZ kvs k v;omega
  refine wpAny_setItem_pairs (hsz:=hz) (fR ry) dd λh' dd' hs=>h _ ?_;have he:∃ q,h'.get? a=Ab q:=let ⟨q,_,_,hq,_⟩:=dd';⟨q,hq⟩
  exact mP I (by rw[e];exact Ie) hs he (oQ hl hd (rel.put k rv) dd')
 .subst ey eH
  cases (show u=Dm b from ry)
  obtain⟨z,hd,xs,rel,dd⟩:=S9 I.hok e;have hz:xs.length<=sizeLine:=by rw[<- Paired.length rel];exact z
  have hl:(yD kvs k v).length<=sizeLine:=by have:=uZ kvs k v;omega
  refine wpAny_setItem_heap (hsz:=hz) (tupleKind_room_in1 hu) (QC I.hok eb) dd λh' dd' hs=>h _ ?_;obtain⟨q,es,ep,hq,h2,h3,h4,_,h5⟩:=dd';refine mP I (by rw[e];exact Ie) hs ⟨q,hq⟩ ⟨hl,hd,_,(rel.put k eb rv).keeps λc ys ec=>?_,q,es,ep,hq,h2,h3,h4,h5⟩
  rw[qO (SV ec e (λz=>nomatch z))];exact ec
end
theorem XW {P:Be}{w:Bx}{H:Hp}(h:Br)(hb:Jd<h.objs.size):zG P w H (h.push { cls:=.type "dict",data:=.dict #[] }) h.objs.size (.dK []):=
 ⟨Gj _,Jc.mpr (Ft (Cq hb)),[],.nil,Heap.DictOf.new h⟩
def LS:TE:=λ_ H Q=>∀ p,H p=none->Q (.ref p) (upd H p (.dK []))
section
variable {X:Cx}{pos:Eu}
theorem Y7:PE X (.Dict [] [] pos) LS:=λpins s σ H Q I h =>
 wpAny_Dict_empty ⟨.ref s.heap.objs.size,_,I.laid (a:=s.heap.objs.size) (o:=.dK []) (t':=s.toks) (λ_ _ q=>Ah _ q) (As _) (XW s.heap I.big),rfl,h _ (I.hok.fresh (As _))⟩
end
end _L
namespace _A
open PySem PySem.W PySem.Calls PyProof.Rows
theorem fN {P:Params}{h:Br}:∀ (ns:Aa Ak) (vs:Aa Ac),WellAll P h vs (ns.map WData.int)->IT vs ns:=by
 intro ns
 induction ns with
 |nil =>
  intro vs w;rw[Vs] at w;cases w;exact .nil
 |cons n ns ih =>
  intro vs w;rw[De] at w;cases w with
  |cons a b =>
   cases a;exact .cons _ _ (ih _ b)
theorem ZQ {l:OpenLaw}{n:Ai}(hn:l.most=Ab n){P:Params}{h:Br}{args:Aa WData}{vals:Aa Ac}
  (hpre:l.row.toRowW.claim.pre args=true) (hwl:WellAll P h vals args) :
  ∃ a vs ns,vals=[Dm a]/\args=[WData.list (ns.map WData.int)]/\h.get? a=Ab { cls:=.type "list",data:=.seq vs.toArray } /\ IT vs ns/\ns.length<=n:=by
 have hsh:WShape.hasAll [] args [.list .int]=true:=(pre_splitW hpre).1;have hc:l.pre.holds [] { args:=args } = true:=(pre_splitW hpre).2;obtain⟨d,r,rfl,h1,h2⟩:=hasAllW_cons hsh;obtain rfl:=hasAllW_nil h2;obtain⟨xs,rfl,h3⟩:=hasW_list h1;obtain⟨ns,rfl⟩:=items_int h3;have hlen:ns.length<=n:=by
  unfold OpenLaw.pre at hc;have h4:(WTm.not (.lt (.lit (.int (n:Ak))) (.len (.arg 0)))).holds [] { args:=[.list (ns.map .int)] } = true:=by
   have h4:=(holds_andW hc).1;rw[hn] at h4;exact h4
  have h5:=condW_of h4 (w_not (w_lt w_lit (w_len_list (w_arg rfl))));rw[Ao] at h5;refine Nat.le_of_not_lt λq=>?_;have q':(n:Ak)<((ns.length:Ai):Ak):=by omega
  first
   |(rw[Cp q'] at h5;exact absurd h5 (by decide))
   |(simp at h5;omega)
 cases hwl with
 |cons w1 w2 =>
  cases w2;cases w1 with
  |list ho hall=>exact⟨_,_,ns,rfl,rfl,ho,fN ns _ hall,hlen⟩
theorem Z9 (l:OpenLaw)(args:Aa WData):l.row.toRowW.claim.post args (.bool true) args=true:=
 postW_of (r:=l.row.toRowW) (X:=(true == true))
  (show wT [] (.bool true) .bool=true by first|rfl|decide|simp[wT,WShape.arms,WShape.armsAll])
  (show (WTm.eq .res (.lit (.bool true))).value [] { args:=args,res:=Ab (.bool true),after:=args } = Ab (.bool (true == true)) from w_eq_bool (w_res rfl) w_lit) rfl
theorem attach_call {l:OpenLaw}{n:Ai}{q:Be}{loose:Aa Av}{XP:(Av->Am Ac)->Br->Prop}{YP:Bx->Br->Prop}{d:DefRec}
  (hn:l.most=Ab n) (hdf:d.params.defaults=[])
  (call:∀ (w:Bx) (s₀ s₁:Ag) (mg mb:Av->Am Ac) (fa:Af) (o:Ci) (pm cd doc:Ac) (a:Af) (vs:Aa Ac) (ns:Aa Ak),
   Ground q loose [] XP w s₀ mg mb s₁.heap->YP w s₁.heap ->
   s₁.heap.get? fa=Ab o->o.data=.func (docDef d.name d.params d.body d.scope pm cd doc)->s₁.heap.CodeRec cd d.name->mg d.name=Ab (.ref fa) ->
   s₁.heap.get? a=Ab { cls:=.type "list",data:=.seq vs.toArray } -> IT vs ns->ns.length<=n->s₁.gens=#[] ->
   IS (Au l.prog w) Pa (.call (.ref fa) ⟨[.ref a],[]⟩) (λr s'=>r=.ok (.ret (.bool true))/\OldK s₁.heap s'.heap/\s'.os=s₁.os/\Nh s'.gens) s₁) :
  WalkO q loose XP YP l.row.toRowW d [] (λf vs=>Yq f vs):=by
 intro w s₀ s₁ mg mb G Y fa o pm cd doc dV kV ho hd hcd hD hmg hg args vals as hpre hlay hrd hwl hlo;obtain rfl:dV=.none:=Dflts.none hD hdf;obtain rfl:kV=.none:=Dflts.noKw hD;obtain⟨a,vs,ns,rfl,rfl,hobj,hints,hlen⟩:=ZQ hn hpre hwl;refine enter_call (IJ (call w s₀ s₁ mg mb fa o pm cd doc a vs ns G Y ho (fd_plain hd) hcd hmg hobj hints hlen hg) λr s' hq=>?_);obtain⟨rfl,h2,h3,h4⟩:=hq;exact⟨.inl ⟨.bool true,.bool true,[],rfl,λ_=>rfl,.bool true,Z9 l _,λ_=>⟨Mp,λ_ hm=>(nomatch hm)⟩⟩,h2,h3,h4⟩
end _A
namespace _L
open PySem PySem.Spec PyProof.Rows
theorem ZX {vs:Aa Ac}{ns:Aa Ak}(h:IT vs ns):qI (ns.map V.int) vs:=by
 induction h with
 |nil=>exact .nil
 |cons n t h ih=>exact .cons ⟨t,rfl⟩ ih
def SqX (K:Aj)(H:Hp)(a:Af)(xs:Aa V):Prop:=
 Rd H a (.lst xs)\/∃ (its:Aa Ac) (n:Ai),K.lookup a=Ab { cls:=.type "list",data:=.seq its.toArray n } /\ xs.length<=sizeLine/\qI xs its
theorem SqX.l {K:Aj}{H:Hp}{a:Af}{xs:Aa V}(h:SqX K H a xs):SqL K H a xs:=by
 rcases h with h|⟨its,n,e,l,v⟩
 .exact .inl h
 .exact .inr ⟨_,its.toArray,n,e,rfl,rfl,rfl,by rw[Bh,<- v.length];exact l,by simpa using v⟩
end _L
namespace _L
open PySem PySem.Spec PyProof.Rows
variable {ps:Aa Av}{f:Af}{x qual:Av}{H:Hp}
noncomputable def wO (s:Fx):Sb:=match s with
 |.FunctionDef _ a _ _ _ _ _ _ _ _=>a
 |_=>{ posonlyargs:=[],args:=[],vararg:=none,kwonlyargs:=[],kw_defaults:=[],kwarg:=none,defaults:=[] }
noncomputable def zQ (s:Fx):Aa Fx:=match s with
 |.FunctionDef _ _ b _ _ _ _ _ _ _=>b
 |_=>[]
noncomputable def qK (s:Fx):Eo:=match s with
 |.FunctionDef _ _ _ _ _ _ sc _ _ _=>sc
 |_=>{ kind:=.function,names:=[],isGenerator:=false,isCoroutine:=false }
abbrev CX0:CXT:=λ_ _ _ _ _ _=>Fd
structure Fun (K:Aj)(x qual:Av)(st:Fx)(f:Af)(fd:Fh):Prop where
 ex:∃ (oc:Ac) (od:Am Af) (kV doc pm:Ac) (an:Am Af) (cdv ct:Ac) (osl:Ay (Am Ac)),
  fd=Gg x qual (wO st) (zQ st) (qK st) .none kV doc pm an cdv ct/\K.lookup f=Ab ⟨oc,od,.func fd,osl⟩/\Kj K cdv qual=true
 kp:Gh K (.ref f)=true
section
variable {P:Be}{w:Bx}{K:Aj}{mg:Av->Am Ac}{base:Br}
theorem Fun.ok {st:Fx}{fd:Fh}{N:Aa Av}{k:Ai}{sp:Sp}(F:Fun K x qual st f fd)(S:FnScope N ps (qK st))(len:∀ vs H Q E,sp vs H Q E->vs.length=ps.length)
  (hbody:∀ (cdv:Ac) (A:Bv) (outer:Aa IZ) (s:Ag) (H:Hp) (vs:Aa V) (Q:VK) (E:XK),Room k (A.deeper (Gq qual (qK st) s.heap.objs.size f cdv))->sp vs H Q E ->
   ∃ t,PSs (mO CX0 P w K mg base N qual (qK st) f cdv A outer s H E).nox (zQ st) t/\t { nx:=λ_ H'=>Q .non H',rt:=Q } (xQ N vs) H):FnOk P w K mg base CX0 (k+1) f fd ps sp:=by
 obtain⟨oc,od,kV,doc,pm,an,cdv,ct,osl,rfl,lk,hcd⟩:=F.ex;refine SD lk hcd S len λA outer s H vs Q E hr hsp=>?_;obtain⟨t,h,q⟩:=hbody cdv A outer s H vs Q E hr hsp;exact⟨t,h.nox,q⟩
theorem Fun.binds {st:Fx}{fd:Fh}(F:Fun K x qual st f fd)
  (h:∀ (kV doc pm:Ac) (an:Am Af) (cdv ct:Ac) (us:Aa Ac),us.length=ps.length->Ya (Gg x qual (wO st) (zQ st) (qK st) .none kV doc pm an cdv ct) ⟨us,[]⟩=pure (ps.zip us)):vL K fd ps []:=by
 obtain⟨oc,od,kV,doc,pm,an,cdv,ct,osl,rfl,lk,hcd⟩:=F.ex;exact .all (h kV doc pm an cdv ct)
theorem MC {st:Fx}{oc:Ac}{od an:Am Af}{osl:Ay (Am Ac)}{kV doc pm cdv ct:Ac}(l:K.lookup f=Ab ⟨oc,od,.func (Gg x qual (wO st) (zQ st) (qK st) .none kV doc pm an cdv ct),osl⟩)
  (c:Kj K cdv qual=true) (k:Gh K (.ref f)=true):Fun K x qual st f (Gg x qual (wO st) (zQ st) (qK st) .none kV doc pm an cdv ct):=⟨⟨oc,od,kV,doc,pm,an,cdv,ct,osl,rfl,l,c⟩,k⟩
end
def qE (H H':Hp):Prop:=∀ b o,H b=Ab o->H' b=Ab o
theorem qE.refl (H:Hp):qE H H:=λ_ _ h=>h
theorem qE.trans {H1 H2:Hp}(a:qE H H1)(b:qE H1 H2):qE H H2:=λc o h=>b c o (a c o h)
theorem qE.free {H':Hp}(e:qE H H'){l:Af}(h:H' l=v6):H l=v6:=by
 cases q:H l with
 |none=>rfl
 |some o =>
  rw[e l o q] at h;cases h
theorem qE.seq {K:Aj}{H':Hp}{a:Af}{xs:Aa V}(e:qE H H')(h:SqL K H a xs):SqL K H' a xs:=by
 rcases h with (h|⟨o,h⟩)|h
 .exact .inl (.inl (e _ _ h))
 .exact .inl (.inr ⟨o,e _ _ h⟩)
 .exact .inr h
end _L
end
section
namespace _D
open PySem PySem.Spec PyProof.Rows _L
inductive D where
 |non|bl (b:Ar)|int (i:Ak)|str (x:Av)|ty (n:Et)|obj (a:Af)|tup (xs:Aa D)|lst (xs:Aa D)|dct0|loc (i:Ai)|exn (c:Ac)|fd (ks:Aa Key) (ds:Aa D)|clo (a:Af) (vs:Aa V) (ds:Aa D)
noncomputable def HH (a:Af)(c:Ac):HO:=.ext λh=>∃ ob,h.get? a=Ab ob/\ob.cls=c
inductive MO where
 |dead|lst (xs:Aa D)|dct (kvs:Aa (Key × D))|ins (C:Af) (fs:Aa (Av × D))
abbrev Sto:=Aa MO
inductive Res (β : Type) where
 |ok (d:β) (S:Sto)|ex (c:Ac) (x:D) (S:Sto)|bad
@[inline] def Res.bind {β γ:Type}(r:Res β)(f:β->Sto->Res γ) : Res γ:=
 match r with
 |.ok d S=>f d S
 |.ex c x S=>.ex c x S
 |.bad=>.bad
theorem Res.bind_ok {β γ:Type}(d:β)(S:Sto)(f:β->Sto->Res γ) : (Res.ok d S).bind f=f d S:=rfl
section
variable (K:Aj)(P:Hp)(α : Aa Af)
mutual
def Rep:D->V->Prop
 |.non,v=>v=.non
 |.bl b,v=>v=.bl b
 |.int i,v=>v=.int i
 |.str x,v=>v=.str x
 |.ty n,v=>v=.ty n
 |.obj a,v=>v=.ref a/\Gh K (.ref a)=true
 |.tup ds,v=>∃ a vs,v=.ref a/\SqT K P a vs/\qB ds vs
 |.lst ds,v=>∃ a vs,v=.ref a/\SqX K P a vs/\qB ds vs
 |.dct0,v=>∃ a,v=.ref a/\P a=Ab (.dK [])
 |.loc i,v=>∃ a,v=.ref a/\α[i]? = Ab a
 |.exn c,v=>∃ a,v=.ref a/\P a=Ab (HH a c)
 |.fd ks ds,v=>∃ a o vs,v=.ref a/\P a=Ab (.frz o (.dK (ks.zip vs)))/\ks.length=vs.length/\qB ds vs
 |.clo a vs ds,v=>v=.ref a/\qB ds vs
def qB:Aa D->Aa V->Prop
 |[],vs=>vs=[]
 |d::ds,vs=>∃ w ws,vs=w::ws/\Rep d w/\qB ds ws
end
end
section
variable {K:Aj}{P P':Hp}{α α':Aa Af}
theorem yX (e:qE P P'){a:Af}{xs:Aa V}(h:SqT K P a xs):SqT K P' a xs:=by
 rcases h with (h|⟨o,h⟩)|h
 .exact .inl (.inl (e _ _ h))
 .exact .inl (.inr ⟨o,e _ _ h⟩)
 .exact .inr h
theorem cF (e:qE P P'){a:Af}{u:HO}(h:Rd P a u):Rd P' a u:=by
 rcases h with h|⟨o,h⟩
 .exact .inl (e _ _ h)
 .exact .inr ⟨o,e _ _ h⟩
theorem xR (e:qE P P'){a:Af}{xs:Aa V}(h:SqX K P a xs):SqX K P' a xs:=by
 rcases h with h|h
 .exact .inl (cF e h)
 .exact .inr h
theorem pN {i:Ai}{a:Af}(h:α<+:α')(e:α[i]? = Ab a):α'[i]? = Ab a:=by
 obtain⟨r,rfl⟩:=h;rw[Bo (Bw.mp e).1];exact e
mutual
theorem Rep.mono (e:qE P P')(h:α<+:α'):∀ (d:D) (v:V),Rep K P α d v->Rep K P' α' d v
 |.non,_,r=>by simpa only [Rep] using r
 |.bl _,_,r=>by simpa only [Rep] using r
 |.int _,_,r=>by simpa only [Rep] using r
 |.str _,_,r=>by simpa only [Rep] using r
 |.ty _,_,r=>by simpa only [Rep] using r
 |.obj _,_,r=>by simpa only [Rep] using r
 |.tup ds,v,r=>by
  simp only[Rep] at r ⊢;obtain⟨a,vs,rfl,q,t⟩:=r;exact⟨a,vs,rfl,yX e q,qB.mono e h ds vs t⟩
 |.lst ds,v,r=>by
  simp only[Rep] at r ⊢;obtain⟨a,vs,rfl,q,t⟩:=r;exact⟨a,vs,rfl,xR e q,qB.mono e h ds vs t⟩
 |.dct0,v,r=>by
  simp only[Rep] at r ⊢;obtain⟨a,rfl,q⟩:=r;exact⟨a,rfl,e _ _ q⟩
 |.loc i,v,r=>by
  simp only[Rep] at r ⊢;obtain⟨a,rfl,q⟩:=r;exact⟨a,rfl,pN h q⟩
 |.exn c,v,r=>by
  simp only[Rep] at r ⊢;obtain⟨a,rfl,q⟩:=r;exact⟨a,rfl,e _ _ q⟩
 |.fd ks ds,v,r=>by
  simp only[Rep] at r ⊢;obtain⟨a,o,vs,rfl,q,hl,t⟩:=r;exact⟨a,o,vs,rfl,e _ _ q,hl,qB.mono e h ds vs t⟩
 |.clo a vs ds,v,r=>by
  simp only[Rep] at r ⊢;exact⟨r.1,qB.mono e h ds vs r.2⟩
theorem qB.mono (e:qE P P')(h:α<+:α'):∀ (ds:Aa D) (vs:Aa V),qB K P α ds vs->qB K P' α' ds vs
 |[],vs,r=>by simpa only [qB] using r
 |d::ds,vs,r=>by
  simp only[qB] at r ⊢;obtain⟨w,ws,rfl,r1,r2⟩:=r;exact⟨w,ws,rfl,Rep.mono e h d w r1,qB.mono e h ds ws r2⟩
end
theorem qB.nil:qB K P α [] []:=by simp only[qB]
theorem qB.cons {d:D}{v:V}{ds:Aa D}{vs:Aa V}(r:Rep K P α d v)(t:qB K P α ds vs):qB K P α (d::ds) (v::vs):=by
 simp only[qB];exact⟨v,vs,rfl,r,t⟩
theorem qB.nil_inv {vs:Aa V}(r:qB K P α [] vs):vs=[]:=by simpa only [qB] using r
theorem qB.cons_inv {d:D}{ds:Aa D}{vs:Aa V}(r:qB K P α (d::ds) vs):∃ w ws,vs=w::ws/\Rep K P α d w/\qB K P α ds ws:=by simpa only [qB] using r
theorem qB.length:∀ {ds:Aa D} {vs:Aa V},qB K P α ds vs->ds.length=vs.length
 |[],vs,r=>by rw[r.nil_inv];rfl
 |d::ds,vs,r=>by
  obtain⟨w,ws,rfl,_,t⟩:=r.cons_inv;rw[Bd,Bd,t.length]
theorem qB.append:∀ {ds es:Aa D} {vs ws:Aa V},qB K P α ds vs->qB K P α es ws->qB K P α (ds++es) (vs++ws)
 |[],es,vs,ws,r,t=>by rw[r.nil_inv];exact t
 |d::ds,es,vs,ws,r,t=>by
  obtain⟨w,us,rfl,r1,r2⟩:=r.cons_inv;exact .cons r1 (r2.append t)
theorem qB.get:∀ {ds:Aa D} {vs:Aa V} {i:Ai} {d:D},qB K P α ds vs->ds[i]? = Ab d->∃ v,vs[i]? = Ab v/\Rep K P α d v
 |[],_,_,_,_,e=>by simp at e
 |d::ds,vs,i,d',r,e=>by
  obtain⟨w,ws,rfl,r1,r2⟩:=r.cons_inv;cases i with
  |zero=>simp at e;subst e;exact⟨w,rfl,r1⟩
  |succ i =>
   obtain⟨v,h1,h2⟩:=r2.get (i:=i) (d:=d') (by simpa using e)
   exact⟨v,by simpa using h1,h2⟩
theorem qB.drop:∀ {ds:Aa D} {vs:Aa V} (n:Ai),qB K P α ds vs->qB K P α (ds.drop n) (vs.drop n)
 |ds,vs,0,r=>by simpa using r
 |[],vs,n+1,r=>by rw[r.nil_inv];exact .nil
 |d::ds,vs,n+1,r=>by
  obtain⟨w,ws,rfl,_,r2⟩:=r.cons_inv;simpa using r2.drop n
theorem qB.take:∀ {ds:Aa D} {vs:Aa V} (n:Ai),qB K P α ds vs->qB K P α (ds.take n) (vs.take n)
 |ds,vs,0,r=>by simpa using qB.nil
 |[],vs,n+1,r=>by rw[r.nil_inv];exact .nil
 |d::ds,vs,n+1,r=>by
  obtain⟨w,ws,rfl,r1,r2⟩:=r.cons_inv;simpa using qB.cons r1 (r2.take n)
theorem qB.set {d:D}{v:V}(q:Rep K P α d v):∀ {ds:Aa D} {vs:Aa V} (n:Ai),qB K P α ds vs->qB K P α (ds.set n d) (vs.set n v)
 |[],vs,n,r=>by rw[r.nil_inv];exact .nil
 |e::ds,vs,0,r=>by
  obtain⟨w,ws,rfl,r1,r2⟩:=r.cons_inv;exact .cons q r2
 |e::ds,vs,n+1,r=>by
  obtain⟨w,ws,rfl,r1,r2⟩:=r.cons_inv;exact .cons r1 (r2.set q n)
end
abbrev qC:=Aa (Am D)
def qY (K:Aj)(P:Hp)(α : Aa Af)(σ : _L.St)(env:qC):Prop:=env.length=σ.length/\∀ (i:Ai) (d:D),env[i]? = Ab (Ab d)->∃ v,σ[i]? = Ab (Ab v)/\Rep K P α d v
def KVs (K:Aj)(P:Hp)(α : Aa Af){κ : Type}:Aa (κ × D)->Aa (κ × V)->Prop:=Paired λ(p:κ × D) (q:κ × V)=>p.1=q.1/\Rep K P α p.2 q.2
def MOk (K:Aj)(H P:Hp)(α : Aa Af)(a:Af):MO->Prop
 |.dead=>Ng
 |.lst ds=>∃ vs,H a=Ab (.lst vs)/\qB K P α ds vs
 |.dct kvs=>∃ vs,H a=Ab (.dK vs)/\KVs K P α kvs vs
 |.ins C fs=>∃ dx vs,H a=Ab (.ins C dx vs)/\KVs K P α fs vs
inductive TbAt (x:Av)(H P:Hp)(α : Aa Af)(T:Af):Prop
 |mk (ps:Ay Ac) (e:H T=Ab (.tbl ps)) (pn:P T=none) (an:T ∉ α) (ok:TriplesOk ps.toList) (cd:∀ pos cv,codeAmong pos ps.toList=Ab cv->∃ c oc vs t,cv=.ref c/\H c=Ab (.frz oc (.frz oc (.own 0)))/\oc.data=.fields vs/\vs[1]? = Ab (.str (x ++ ".<locals>." ++ "<lambda>") t)):TbAt x H P α T
def cY (K:Aj)(H P:Hp)(α : Aa Af):Prop:=∀ x∈yK,∀ c T,El K x=Ab (c,T)->TbAt x H P α T
def MJ (u:HO):Prop:=(∃ ps,u=.tbl ps)\/∃ o,u=.frz o (.frz o (.own 0))
theorem cY.keep {K:Aj}{H H' P P':Hp}{α α':Aa Af}(r:cY K H P α)(e:∀ b u,H b=Ab u->MJ u->H' b=Ab u)(hp:∀ b u,H b=Ab u->MJ u->P b=none->b ∉ α->P' b=none/\b ∉ α'):cY K H' P' α':=λx hx c T h =>
 let ⟨ps,e1,pn,an,ok,cd⟩:=r x hx c T h
 let z:=hp _ _ e1 (.inl ⟨_,rfl⟩) pn an
 ⟨ps,e _ _ e1 (.inl ⟨_,rfl⟩),z.1,z.2,ok,λpos cv q=>let ⟨c,oc,vs,t,a,b,d⟩:=cd pos cv q;⟨c,oc,vs,t,a,e _ _ b (.inr ⟨_,rfl⟩),d⟩⟩
structure Rel (K:Aj)(H P:Hp)(α : Aa Af)(S:Sto):Prop where
 tb:cY K H P α
 sub:qE P H
 len:α.length=S.length
 nd:α.Nodup
 sep:∀ (i:Ai) (a:Af) (o:MO),α[i]? = Ab a->S[i]? = Ab o->o≠.dead->P a=none
 at':∀ (i:Ai) (a:Af) (o:MO),α[i]? = Ab a->S[i]? = Ab o->MOk K H P α a o
 own:∀ (i:Ai) (a:Af),α[i]? = Ab a->H a≠none
section
variable {K:Aj}{H P P':Hp}{α α':Aa Af}{S:Sto}
theorem qY.mono {σ : _L.St}{env:qC}(e:qE P P')(h:α<+:α')(r:qY K P α σ env):qY K P' α' σ env:=
 ⟨r.1,λi d q=>let ⟨v,h1,h2⟩:=r.2 i d q;⟨v,h1,Rep.mono e h d v h2⟩⟩
theorem KVs.mono {κ : Type}(e:qE P P')(h:α<+:α'){kvs:Aa (κ × D)}{vs:Aa (κ × V)}(r:KVs K P α kvs vs):KVs K P' α' kvs vs:=by
 refine Paired.mapP r λp q z=>⟨z.1,Rep.mono e h _ _ z.2⟩
theorem MOk.mono {a:Af}(e:qE P P')(h:α<+:α'):∀ {o:MO},MOk K H P α a o->MOk K H P' α' a o
 |.dead,_=>trivial
 |.lst _,⟨vs,q,r⟩=>⟨vs,q,qB.mono e h _ _ r⟩
 |.dct _,⟨vs,q,r⟩=>⟨vs,q,r.mono e h⟩
 |.ins _ _,⟨dx,vs,q,r⟩=>⟨dx,vs,q,r.mono e h⟩
theorem Rel.grow {H':Hp}(r:Rel K H P α S)(e:qE H H'):Rel K H' P α S where
 tb:=r.tb.keep (λb u q _=>e _ _ q) λ_ _ _ _ p n=>⟨p,n⟩
 sub:=r.sub.trans e
 len:=r.len
 nd:=r.nd
 sep:=r.sep
 at':=λi a o q1 q2=>by
  have m:=r.at' i a o q1 q2;cases o with
  |dead=>trivial
  |lst ds=>obtain⟨vs,q,t⟩:=m;exact⟨vs,e _ _ q,t⟩
  |dct kvs=>obtain⟨vs,q,t⟩:=m;exact⟨vs,e _ _ q,t⟩
  |ins C fs=>obtain⟨dx,vs,q,t⟩:=m;exact⟨dx,vs,e _ _ q,t⟩
 own:=λi a q=>by
  have m:=r.own i a q;cases z:H a with
  |none=>exact absurd z m
  |some o=>rw[e _ _ z];intro w;cases w
theorem kR {H:Hp}{a:Af}{o:HO}(h:H a=none):qE H (upd H a o):=λb u e=>by rw[qO (z9 e h)];exact e
theorem Rel.pure {a:Af}{o:HO}(r:Rel K H P α S)(h:H a=none):Rel K (upd H a o) (upd P a o) α S/\qE P (upd P a o):=by
 have hP:P a=none:=by
  cases z:P a with
  |none=>rfl
  |some u=>rw[r.sub _ _ z] at h;cases h
 have sP:qE P (upd P a o):=kR hP;have r1:=r.grow (kR (o:=o) h);refine⟨⟨r.tb.keep (λb u q _=>(qO (z9 q h)).trans q) λb u q _ p n=>⟨(qO (z9 q h)).trans p,n⟩,λb u e=>?_,r.len,r.nd,λi b u q1 q2 q3=>?_,λi b u q1 q2=>(r1.at' i b u q1 q2).mono sP (Bl _),r1.own⟩,sP⟩
 .by_cases hb:b=a
  .subst hb;rw[qX] at e ⊢;exact e
  .rw[qO hb] at e ⊢;exact r.sub _ _ e
 .have hb:b≠a:=by rintro rfl;exact r.own i b q1 h
  rw[qO hb];exact r.sep i b u q1 q2 q3
theorem Rel.new {a:Af}{o:HO}{m:MO}(r:Rel K H P α S)(h:H a=none)(hm:MOk K (upd H a o) P (α ++ [a]) a m):Rel K (upd H a o) P (α ++ [a]) (S++[m]):=by
 have hP:P a=none:=by
  cases z:P a with
  |none=>rfl
  |some u=>rw[r.sub _ _ z] at h;cases h
 have r1:=r.grow (kR (o:=o) h);have hp:α<+:α++[a]:=Lw _ _;have split:∀ (i:Ai) (b:Af),(α++[a])[i]? = Ab b->(i<α.length/\α[i]? = Ab b)\/(i=α.length/\b=a):=λi b q=>by
  by_cases hi:i<α.length
  .rw[Bo hi] at q;exact .inl ⟨hi,q⟩
  .rw[Dc om] at q
   cases hk:i-α.length with
   |zero=>rw[hk] at q;simp at q;exact .inr ⟨by omega,q.symm⟩
   |succ k=>rw[hk] at q;simp at q
 refine⟨r.tb.keep (λb u q _=>(qO (z9 q h)).trans q) λb u q _ p n=>⟨p,λz=>(Ce.mp z).elim n λw=>z9 q h (by simpa using w)⟩,r1.sub,by simp[r.len],?_,λi b u q1 q2 q3=>?_,λi b u q1 q2=>?_,λi b q=>?_⟩
 .rw[Jx]
  refine⟨r.nd,by simp,λb hb c hc e=>?_⟩
  simp at hc;subst hc;subst e;obtain⟨i,hi,e⟩:=Cn.mp hb;exact r.own i b (by rw[An hi,e]) h
 .rcases split i b q1 with⟨hi,z⟩|⟨hi,rfl⟩
  .rw[Bo (by rw[<- r.len];exact hi)] at q2
   exact r.sep i b u z q2 q3
  .exact hP
 .rcases split i b q1 with⟨hi,z⟩|⟨hi,rfl⟩
  .rw[Bo (by rw[<- r.len];exact hi)] at q2
   exact(r1.at' i b u z q2).mono (qE.refl _) hp
  .rw[hi,r.len,Dc (As _)] at q2
   simp at q2;subst q2;exact hm
 .rcases split i b q with⟨_,z⟩|⟨_,rfl⟩
  .exact r1.own i b z
  .rw[qX];intro z;cases z
theorem l7 {N:Aa Af}(hN:N.Nodup){i j:Ai}{x:Af}(a:N[i]? = Ab x)(b:N[j]? = Ab x):i=j:=by
 obtain⟨h1,e1⟩:=Bw.mp a;obtain⟨h2,e2⟩:=Bw.mp b;exact(Qe hN).mp (e1.trans e2.symm)
theorem Rel.put {a:Af}{i:Ai}{o:HO}{m m':MO}(r:Rel K H P α S)(ha:α[i]? = Ab a)(hs:S[i]? = Ab m)(hd:m≠.dead)(hm:MOk K (upd H a o) P α a m'):Rel K (upd H a o) P α (S.set i m'):=by
 have hP:=r.sep i a m ha hs hd;have hi:i<S.length:=(Bw.mp hs).1;refine⟨r.tb.keep (λb u q hu=>?_) λ_ _ _ _ p n=>⟨p,n⟩,λb u e=>?_,by simp[r.len],r.nd,λj b u q1 q2 q3=>?_,λj b u q1 q2=>?_,λj b q=>?_⟩
 .refine(qO ?_).trans q
  rintro rfl;have z:=r.at' i _ m ha hs;cases m with
  |dead=>exact hd rfl
  |lst ds=>obtain⟨vs,z,_⟩:=z;rw[q] at z;rcases hu with⟨_,rfl⟩|⟨_,rfl⟩ <;> cases z
  |dct kvs=>obtain⟨vs,z,_⟩:=z;rw[q] at z;rcases hu with⟨_,rfl⟩|⟨_,rfl⟩ <;> cases z
  |ins C fs=>obtain⟨dx,vs,z,_⟩:=z;rw[q] at z;rcases hu with⟨_,rfl⟩|⟨_,rfl⟩ <;> cases z
 .have hb:b≠a:=by rintro rfl;rw[hP] at e;cases e
  rw[qO hb];exact r.sub _ _ e
 .by_cases hj:j=i
  .subst hj;rw[ha] at q1;cases q1;exact hP
  .rw[Cs (Ft hj)] at q2;exact r.sep j b u q1 q2 q3
 .by_cases hj:j=i
  .subst hj;rw[ha] at q1;cases q1
   rw[Ev hi] at q2;cases q2;exact hm
  .rw[Cs (Ft hj)] at q2
   have hb:b≠a:=by rintro rfl;exact hj (l7 r.nd q1 ha)
   have z:=r.at' j b u q1 q2;cases u with
   |dead=>trivial
   |lst ds=>obtain⟨vs,q,t⟩:=z;exact⟨vs,by rw[qO hb];exact q,t⟩
   |dct kvs=>obtain⟨vs,q,t⟩:=z;exact⟨vs,by rw[qO hb];exact q,t⟩
   |ins C fs=>obtain⟨dx,vs,q,t⟩:=z;exact⟨dx,vs,by rw[qO hb];exact q,t⟩
 .by_cases hb:b=a
  .subst hb;rw[qX];intro z;cases z
  .rw[qO hb];exact r.own j b q
end
theorem nn {β : Type}{a:β}{p:Prop}(h:(none:Am β) = Ab a):p:=by cases h
theorem uB {β : Type}{c:Prop}[IQ c]{a b:β}(h:(if c then Ab a else none)=Ab b):c/\a=b:=by
 by_cases z:c
 .rw[Bp z] at h;exact⟨z,Cz h⟩
 .rw[Bj z] at h;exact nn h
end _D
end
namespace _D
open PySem PySem.Spec PyProof.Rows _L
variable {us:Aa Ac}{body:Aa Fx}{vs:Aa V}{u vv:Ac}{p C:Af}{od:Am Af}{sl:Ay (Am Ac)}{R:It->Hp->Prop}{sp:Sp}{S:Sto}{Q:VK}
abbrev DE:=qC->Sto->Res D
abbrev DT:=qC->Sto->Res Ar
abbrev DA:=qC->Sto->Res (Aa D)
inductive Out where
 |nx (env:qC) (S:Sto)|rt (d:D) (S:Sto)|bk (env:qC) (S:Sto)|ct (env:qC) (S:Sto)|ex (c:Ac) (x:D) (env:qC) (S:Sto)|bad
abbrev DS:=qC->Sto->Out
def Old (X:Cx)(pins:Aa (Af × Ci))(H:Hp)(b:Af):Prop:=
 (∃ o,X.s₀.heap.get? b=Ab o)\/H b≠none\/(∃ p∈X.pn++pins,p.1=b)\/∃ x,X.env.cells.lookup x=Ab b
def Cv (X:Cx)(pins:Aa (Af × Ci))(H:Hp)(B h:Br):Prop:=∀ b o,h.get? b=Ab o->Old X pins H b->b ∉ frs X.stack->B.get? b=Ab o
inductive FlyX (X:Cx)(pins:Aa (Af × Ci))(H:Hp)(c:Ac)(e:Af)(h:Br):Prop where
 |new (g:Br) (args:Aa Ac):Yx g h e c args->g.FunFrames X.base X.stack->(∀ b o,h.get? b=Ab o->Old X pins H b->g.get? b=Ab o)->FlyX X pins H c e h
 |fly (B:Br) (a0:Ac):Vt B X.stack e c a0 h->Cv X pins H B h->FlyX X pins H c e h
inductive XOk (X:Cx)(P:Hp)(α : Aa Af)(c:Ac)(x:D)(S:Sto)(u:Ac)(s:Ag):Prop
 |mk (e:Af) (pins:Aa (Af × Ci)) (σ : _L.St) (H:Hp) (P':Hp) (α' : Aa Af) (e1:u=.ref e) (I:Inv X pins σ H s) (r:Rel X.K H P' α' S) (q1:qE P P') (q2:α<+:α') (q3:X.ex=[]/\X.stack=X.env::X.outer/\X.env.frame=Ab X.env.locals) (q4:FlyX X pins H c e s.heap):XOk X P α c x S u s
theorem XOk.base {X:Cx}{P P1:Hp}{α α1:Aa Af}{c:Ac}{x:D}{s:Ag}(e:qE P P1)(h:α<+:α1)(k:XOk X P1 α1 c x S u s):XOk X P α c x S u s:=by
 obtain⟨a,pins,σ,H,P',α',e1,I,r,q1,q2,q3,q4⟩:=k;exact⟨a,pins,σ,H,P',α',e1,I,r,e.trans q1,h.trans q2,q3,q4⟩
section
variable (X:Cx)
def qG {β:Type}(P:Hp)(α : Aa Af)(r:Res β)(Ok:β->Sto->Prop):Prop:=
 match r with
 |.ok d S'=>Ok d S'
 |.ex c x S'=>∀ u s',XOk X P α c x S' u s'->X.xe u s'
 |.bad=>Fd
def OkV (P:Hp)(α : Aa Af)(Q:VK)(d:D)(S':Sto):Prop:=∀ v H' P' α',Rel X.K H' P' α' S'->qE P P'->α<+:α'->Rep X.K P' α' d v->Q v H'
def OkT (P:Hp)(α : Aa Af)(Q:Ar->Hp->Prop)(b:Ar)(S':Sto):Prop:=∀ H' P' α',Rel X.K H' P' α' S'->qE P P'->α<+:α'->Q b H'
def OkA (P:Hp)(α : Aa Af)(Q:Aa V->Hp->Prop)(ds:Aa D)(S':Sto):Prop:=∀ vs H' P' α',Rel X.K H' P' α' S'->qE P P'->α<+:α'->qB X.K P' α' ds vs->Q vs H'
abbrev qR (P:Hp)(α : Aa Af)(r:Res D)(Q:VK):Prop:=qG X P α r (OkV X P α Q)
abbrev wD (P:Hp)(α : Aa Af)(r:Res Ar)(Q:Ar->Hp->Prop):Prop:=qG X P α r (OkT X P α Q)
abbrev gF (P:Hp)(α : Aa Af)(r:Res (Aa D))(Q:Aa V->Hp->Prop):Prop:=qG X P α r (OkA X P α Q)
def qV (P:Hp)(α : Aa Af)(r:Out)(D:Ends):Prop:=
 match r with
 |.nx env' S'=>∀ σ' H' P' α',Rel X.K H' P' α' S'->qY X.K P' α' σ' env'->qE P P'->α<+:α'->D.nx σ' H'
 |.bk env' S'=>∀ σ' H' P' α',Rel X.K H' P' α' S'->qY X.K P' α' σ' env'->qE P P'->α<+:α'->D.bk σ' H'
 |.ct env' S'=>∀ σ' H' P' α',Rel X.K H' P' α' S'->qY X.K P' α' σ' env'->qE P P'->α<+:α'->D.ct σ' H'
 |.rt d S'=>∀ v H' P' α',Rel X.K H' P' α' S'->qE P P'->α<+:α'->Rep X.K P' α' d v->D.rt v H'
 |.ex c x _ S'=>∀ u s',XOk X P α c x S' u s'->X.xe u s'
 |.bad=>Fd
inductive tD (f:DE)(σ : _L.St)(H:Hp)(Q:VK):Prop
 |mk (P:Hp) (α : Aa Af) (env:qC) (S:Sto) (r:Rel X.K H P α S) (re:qY X.K P α σ env) (af:qR X P α (f env S) Q):tD f σ H Q
inductive tDT (f:DT)(σ : _L.St)(H:Hp)(Q:Ar->Hp->Prop):Prop
 |mk (P:Hp) (α : Aa Af) (env:qC) (S:Sto) (r:Rel X.K H P α S) (re:qY X.K P α σ env) (af:wD X P α (f env S) Q):tDT f σ H Q
inductive tDA (f:DA)(σ : _L.St)(H:Hp)(Q:Aa V->Hp->Prop):Prop
 |mk (P:Hp) (α : Aa Af) (env:qC) (S:Sto) (r:Rel X.K H P α S) (re:qY X.K P α σ env) (af:gF X P α (f env S) Q):tDA f σ H Q
inductive tDS (f:DS)(D:Ends)(σ : _L.St)(H:Hp):Prop
 |mk (P:Hp) (α : Aa Af) (env:qC) (S:Sto) (r:Rel X.K H P α S) (re:qY X.K P α σ env) (af:qV X P α (f env S) D):tDS f D σ H
end
section
variable {X:Cx}{P P1:Hp}{α α1:Aa Af}
theorem qR.base {r:Res D}(e:qE P P1)(h:α<+:α1)(k:qR X P α r Q):qR X P1 α1 r Q:=by
 cases r with
 |ok d S=>exact λv H' P' α' r q1 q2 q3=>k v H' P' α' r (e.trans q1) (h.trans q2) q3
 |ex c x S=>exact λu s' q=>k u s' (q.base e h)
 |bad=>exact k
theorem wD.base {r:Res Ar}{Q:Ar->Hp->Prop}(e:qE P P1)(h:α<+:α1)(k:wD X P α r Q):wD X P1 α1 r Q:=by
 cases r with
 |ok d S=>exact λH' P' α' r q1 q2=>k H' P' α' r (e.trans q1) (h.trans q2)
 |ex c x S=>exact λu s' q=>k u s' (q.base e h)
 |bad=>exact k
theorem gF.base {r:Res (Aa D)}{Q:Aa V->Hp->Prop}(e:qE P P1)(h:α<+:α1)(k:gF X P α r Q):gF X P1 α1 r Q:=by
 cases r with
 |ok d S=>exact λv H' P' α' r q1 q2 q3=>k v H' P' α' r (e.trans q1) (h.trans q2) q3
 |ex c x S=>exact λu s' q=>k u s' (q.base e h)
 |bad=>exact k
theorem qV.base {r:Out}{D:Ends}(e:qE P P1)(h:α<+:α1)(k:qV X P α r D):qV X P1 α1 r D:=by
 cases r with
 |nx env S=>exact λv H' P' α' r q0 q1 q2=>k v H' P' α' r q0 (e.trans q1) (h.trans q2)
 |bk env S=>exact λv H' P' α' r q0 q1 q2=>k v H' P' α' r q0 (e.trans q1) (h.trans q2)
 |ct env S=>exact λv H' P' α' r q0 q1 q2=>k v H' P' α' r q0 (e.trans q1) (h.trans q2)
 |rt d S=>exact λv H' P' α' r q1 q2 q3=>k v H' P' α' r (e.trans q1) (h.trans q2) q3
 |ex c x env S=>exact λu s' q=>k u s' (q.base e h)
 |bad=>exact k
theorem xr {v:V}{H:Hp}{d:D}(k:OkV X P α Q d S)(r:Rel X.K H P α S)(q:Rep X.K P α d v):Q v H:=k v H P α r (qE.refl _) (Bl _) q
end
section
variable {X:Cx}{a b e:Bt}{pos:Eu}
theorem peW {t t':TE}(h:PE X e t)(w:∀ σ H Q,t' σ H Q->t σ H Q):PE X e t':=λpins s σ H Q I q=>h pins s σ H Q I (w σ H Q q)
theorem psW {st:Fx}{t t':TS}(h:PS X st t)(w:∀ D σ H,t' D σ H->t D σ H):PS X st t':=λpins s σ H D I q=>h pins s σ H D I (w D σ H q)
theorem NF {st:Aa Fx}{t t':TS}(h:PSs X st t)(w:∀ D σ H,t' D σ H->t D σ H):PSs X st t':=λpins s σ H D I q=>h pins s σ H D I (w D σ H q)
theorem paW {es:Aa Bt}{t t':TA}(h:PA X es t)(w:∀ σ H Q,t' σ H Q->t σ H Q):PA X es t':=λpos pins s σ H Q I q=>h pos pins s σ H Q I (w σ H Q q)
structure Got (X:Cx)(pins:Aa (Af × Ci))(σ : _L.St)(env:qC)(P:Hp)(α : Aa Af)(u:Ac)(s1:Ag)(v:V)(H1 P1:Hp)(α1:Aa Af)(d:D)(S1:Sto):Prop where
 inv:Inv X pins σ H1 s1
 val:qF v u
 rel:Rel X.K H1 P1 α1 S1
 env:qY X.K P1 α1 σ env
 rep:Rep X.K P1 α1 d v
 same:qE P P1
 pre:α<+:α1
inductive GotG (X:Cx)(pins:Aa (Af × Ci))(σ : _L.St)(env:qC)(P:Hp)(α : Aa Af)(u:Ac)(s1:Ag){γ : Type}(g:D->Sto->Res γ)(Ok:γ->Sto->Prop):Prop
 |mk (v:V) (H1 P1:Hp) (α1:Aa Af) (d:D) (S1:Sto) (G:Got X pins σ env P α u s1 v H1 P1 α1 d S1) (q:qG X P α (g d S1) Ok):GotG X pins σ env P α u s1 g Ok
inductive GotAG (X:Cx)(pins:Aa (Af × Ci))(σ : _L.St)(env:qC)(P:Hp)(α : Aa Af)(us:Aa Ac)(s1:Ag){γ : Type}(g:Aa D->Sto->Res γ)(Ok:γ->Sto->Prop):Prop
 |mk (vs:Aa V) (H1 P1:Hp) (α1:Aa Af) (ds:Aa D) (S1:Sto) (I:Inv X pins σ H1 s1) (rv:qI vs us) (r:Rel X.K H1 P1 α1 S1) (re:qY X.K P1 α1 σ env) (rp:qB X.K P1 α1 ds vs) (e1:qE P P1) (e2:α<+:α1) (q:qG X P α (g ds S1) Ok):GotAG X pins σ env P α us s1 g Ok
inductive GotT (X:Cx)(pins:Aa (Af × Ci))(σ : _L.St)(env:qC)(P:Hp)(α : Aa Af)(b:Ar)(s1:Ag){γ : Type}(g:Ar->Sto->Res γ)(Ok:γ->Sto->Prop):Prop
 |mk (H1 P1:Hp) (α1:Aa Af) (S1:Sto) (I:Inv X pins σ H1 s1) (r:Rel X.K H1 P1 α1 S1) (re:qY X.K P1 α1 σ env) (e1:qE P P1) (e2:α<+:α1) (q:qG X P α (g b S1) Ok):GotT X pins σ env P α b s1 g Ok
theorem zL {γ:Type}{f:DE}{g:D->Sto->Res γ}{Ok:γ->Sto->Prop}{pins:Aa (Af × Ci)}{s:Ag}{σ:_L.St}{H P:Hp}{α:Aa Af}{env:qC}(he:PE X e (tD X f))(I:Inv X pins σ H s)(r:Rel X.K H P α S)
  (re:qY X.K P α σ env) (af:qG X P α ((f env S).bind g) Ok) :
  Ap (Au X.prog X.w) X.A (eval e X.env) (λu s1=>GotG X pins σ env P α u s1 g Ok) X.xe s:=by
 refine thn (he pins s σ H (λv H1=>∃ P1 α1 d S1,Rel X.K H1 P1 α1 S1/\qY X.K P1 α1 σ env/\Rep X.K P1 α1 d v/\qE P P1/\α<+:α1/\qG X P α (g d S1) Ok) I ⟨P,α,env,S,r,re,?_⟩) λu s1 ⟨v,H1,I1,rv,P1,α1,d,S1,q1,q2,q3,q4,q5,q6⟩=>⟨v,H1,P1,α1,d,S1,⟨I1,rv,q1,q2,q3,q4,q5⟩,q6⟩;cases q:f env S with
 |bad=>rw[q] at af;exact af
 |ex c x S'=>rw[q] at af;exact af
 |ok d S' =>
  rw[q] at af;exact λv H' P' α' r' e1 e2 rp=>⟨P',α',d,S',r',re.mono e1 e2,rp,e1,e2,af⟩
theorem wY {γ:Type}{es:Aa Bt}{f:DA}{g:Aa D->Sto->Res γ}{Ok:γ->Sto->Prop}{pins:Aa (Af × Ci)}{s:Ag}{σ:_L.St}{H P:Hp}{α:Aa Af}{env:qC}(he:PA X es (tDA X f))(I:Inv X pins σ H s)(r:Rel X.K H P α S)
  (re:qY X.K P α σ env) (af:qG X P α ((f env S).bind g) Ok) (pos:Eu) :
  Ap (Au X.prog X.w) X.A (spliced (Gi pos (Bm es X.env))) (λus s1=>GotAG X pins σ env P α us s1 g Ok) X.xe s:=by
 refine thn (he pos pins s σ H (λvs H1=>∃ P1 α1 ds S1,Rel X.K H1 P1 α1 S1/\qY X.K P1 α1 σ env/\qB X.K P1 α1 ds vs/\qE P P1/\α<+:α1/\qG X P α (g ds S1) Ok) I ⟨P,α,env,S,r,re,?_⟩) λu s1 ⟨v,H1,I1,rv,P1,α1,d,S1,q1,q2,q3,q4,q5,q6⟩=>⟨v,H1,P1,α1,d,S1,I1,rv,q1,q2,q3,q4,q5,q6⟩;cases q:f env S with
 |bad=>rw[q] at af;exact af
 |ex c x S'=>rw[q] at af;exact af
 |ok d S' =>
  rw[q] at af;exact λv H' P' α' r' e1 e2 rp=>⟨P',α',d,S',r',re.mono e1 e2,rp,e1,e2,af⟩
theorem jF {γ:Type}{f:DT}{g:Ar->Sto->Res γ}{Ok:γ->Sto->Prop}{pins:Aa (Af × Ci)}{s:Ag}{σ:_L.St}{H P:Hp}{α:Aa Af}{env:qC}{m:Jw Ar}
  (he:∀ (Q:Ar->Hp->Prop),tDT X f σ H Q->Ap (Au X.prog X.w) X.A m (TP X pins σ Q) X.xe s) (r:Rel X.K H P α S) (re:qY X.K P α σ env) (af:qG X P α ((f env S).bind g) Ok) :
  Ap (Au X.prog X.w) X.A m (λb s1=>GotT X pins σ env P α b s1 g Ok) X.xe s:=by
 refine thn (he (λb H1=>∃ P1 α1 S1,Rel X.K H1 P1 α1 S1/\qY X.K P1 α1 σ env/\qE P P1/\α<+:α1/\qG X P α (g b S1) Ok) ⟨P,α,env,S,r,re,?_⟩) λb s1 ⟨H1,I1,P1,α1,S1,q1,q2,q4,q5,q6⟩=>⟨H1,P1,α1,S1,I1,q1,q2,q4,q5,q6⟩;cases q:f env S with
 |bad=>rw[q] at af;exact af
 |ex c x S'=>rw[q] at af;exact af
 |ok d S' =>
  rw[q] at af;exact λH' P' α' r' e1 e2=>⟨P',α',S',r',re.mono e1 e2,e1,e2,af⟩
noncomputable def dC (d:D):DE:=λ_ S=>.ok d S
noncomputable def q9 (i:Ai):DE:=λenv S=>match env[i]? with
 |some (Ab d)=>.ok d S
 |_=>.bad
theorem FI:PE X (.Constant (.int i) j pos) (tD X (dC (.int i))):=peW N1 λσ H Q ⟨P,α,env,S,r,re,af⟩=>xr af r (by simp only[Rep])
theorem DN:PE X (.Constant (.bool i) j pos) (tD X (dC (.bl i))):=peW RG λσ H Q ⟨P,α,env,S,r,re,af⟩=>xr af r (by simp only[Rep])
theorem FN:PE X (.Constant (.str i) j pos) (tD X (dC (.str i))):=peW N4 λσ H Q ⟨P,α,env,S,r,re,af⟩=>xr af r (by simp only[Rep])
theorem FK:PE X (.Constant .none j pos) (tD X (dC .non)):=peW N2 λσ H Q ⟨P,α,env,S,r,re,af⟩=>xr af r (by simp only[Rep])
set_option tactic.hygienic true in
theorem B7 {i:Ai}{σ:_L.St}{H:Hp}(h:tD X (q9 i) σ H Q):LU i σ H Q:=by
 obtain⟨P,α,env,S,r,re,af⟩:=h;unfold q9 at af
 split at af
 .rename_i d q
  obtain⟨v,h1,h2⟩:=re.2 i d q;exact⟨v,h1,xr af r h2⟩
 .exact Aq af
theorem dv (i:Ai){x:Av}(hN:X.N[i]? = Ab x:=by rfl)(hv:Vis X.env.scope x:=by first|exact Xe rfl|exact Ut (Xe rfl)|exact Ut (Ut rfl))(hd:(x == ("__debug__" : Av))=false:=by decide)
  (hcd:(x == ("__classdict__" : Av))=false:=by decide):PE X (.Name x pos) (tD X (q9 i)):=peW (N6 hN hv hd hcd) λσ H Q h=>B7 h
theorem J0 {x:Av}{d:D}{v:V}(hg:Gl X x)(hm:X.mg x=Ab u)(r:qF v u)(q:∀ P α,Rep X.K P α d v)(hd:(x == ("__debug__" : Av))=false:=by decide):PE X (.Name x pos) (tD X (dC d)):=
 peW (GD hg hm r hd) λσ H Q ⟨P,α,env,S,r,re,af⟩=>xr af r (q _ _)
theorem UY {x:Av}{n:Et}(hg:Gl X x)(hm:X.mg x=none)(hv:Fm x=Ab (.type n))(hn:x ≠ "__name__":=by decide)(hd:(x == ("__debug__" : Av))=false:=by decide):PE X (.Name x pos) (tD X (dC (.ty n))):=
 peW (GC (v:=.ty n) hg hm hv rfl hn hd) λσ H Q ⟨P,α,env,S,r,re,af⟩=>xr af r (by simp only[Rep])
abbrev G2:=D->D->Sto->Res D
def OpD (X:Cx)(f:Ac->Ac->Jw Ac)(g:G2):Prop:=
 ∀ (pins:Aa (Af × Ci)) (σ : _L.St) (H:Hp) (s:Ag) (P:Hp) (α : Aa Af) (S:Sto) (v u:V) (vv uu:Ac) (a b:D) (Q:VK),Inv X pins σ H s->Rel X.K H P α S->qF v vv->qF u uu->Rep X.K P α a v->Rep X.K P α b u->qR X P α (g a b S) Q ->
  Ap (Au X.prog X.w) X.A (f vv uu) (EP X pins σ Q) X.xe s
theorem OpD.of {f:Ac->Ac->Jw Ac}{r:R2}{g:G2}(h:OpR X f r)(w:∀ H P α S v u a b Q,Rel X.K H P α S->Rep X.K P α a v->Rep X.K P α b u->qR X P α (g a b S) Q->r v u H Q):OpD X f g:=
 λpins σ H s P α S v u vv uu a b Q I rl r1 r2 p1 p2 af=>h pins s σ H v u vv uu Q I r1 r2 (w H P α S v u a b Q rl p1 p2 af)
def UnD (X:Cx)(f:Ac->Jw Ac)(g:D->Sto->Res D):Prop:=
 ∀ (pins:Aa (Af × Ci)) (σ : _L.St) (H:Hp) (s:Ag) (P:Hp) (α : Aa Af) (S:Sto) (v:V) (vv:Ac) (a:D) (Q:VK),Inv X pins σ H s->Rel X.K H P α S->qF v vv->Rep X.K P α a v->qR X P α (g a S) Q ->
  Ap (Au X.prog X.w) X.A (f vv) (EP X pins σ Q) X.xe s
def IxD (X:Cx)(g:G2):Prop:=
 ∀ (value slice:Bt) (pins:Aa (Af × Ci)) (σ : _L.St) (H:Hp) (s:Ag) (P:Hp) (α : Aa Af) (S:Sto) (v u:V) (vv uu:Ac) (a b:D) (Q:VK),Inv X pins σ H s->Rel X.K H P α S->qF v vv->qF u uu->Rep X.K P α a v->Rep X.K P α b u->qR X P α (g a b S) Q ->
  subscripted slice false vv uu=operate [vv,uu] (Nn vv uu)->Ap (Au X.prog X.w) X.A (TW value slice vv uu) (EP X pins σ Q) X.xe s
def yI (X:Cx)(f:Ac)(g:Aa D->Sto->Res D):Prop:=
 ∀ (pins:Aa (Af × Ci)) (σ : _L.St) (H:Hp) (s:Ag) (P:Hp) (α : Aa Af) (S:Sto) (vs:Aa V) (us:Aa Ac) (ds:Aa D) (Q:VK),Inv X pins σ H s->Rel X.K H P α S->qI vs us->qB X.K P α ds vs->qR X P α (g ds S) Q ->
  Ap (Au X.prog X.w) X.A (call f us) (EP X pins σ Q) X.xe s
noncomputable def d2 (g:G2)(fa fb:DE):DE:=λenv S=>(fa env S).bind λx S1=>(fb env S1).bind λy S2=>g x y S2
noncomputable def d1 (g:D->Sto->Res D)(fa:DE):DE:=λenv S=>(fa env S).bind g
variable {fa fb:DE}
theorem dN {g:G2}{f:Ac->Ac->Jw Ac}{pins:Aa (Af × Ci)}{s:Ag}{σ:_L.St}{H:Hp}(ho:OpD X f g)(ha:PE X a (tD X fa))(hb:PE X b (tD X fb))(I:Inv X pins σ H s)(h:tD X (d2 g fa fb) σ H Q) :
  Ap (Au X.prog X.w) X.A (eval a X.env) (λv s₁=>Ap (Au X.prog X.w) X.A (eval b X.env) (λu s₂=>Ap (Au X.prog X.w) X.A (f v u) (EP X pins σ Q) X.xe s₂) X.xe s₁) X.xe s:=by
 obtain⟨P,α,env,S,r,re,af⟩:=h;refine thn (zL ha I r re af) λvv s1 ⟨v,H1,P1,α1,d,S1,G1,af1⟩=>?_;refine thn (zL hb G1.inv G1.rel G1.env (P:=P1) (α:=α1) (Ok:=OkV X P1 α1 Q) (g:=λy S2=>g d y S2) ?_) λuu s2 ⟨u,H2,P2,α2,d',S2,G2,af2⟩=>?_
 .exact qR.base G1.same G1.pre af1
 .exact ho pins σ H2 s2 P2 α2 S2 v u vv uu d d' Q G2.inv G2.rel G1.val G2.val (Rep.mono G2.same G2.pre _ _ G1.rep) G2.rep (qR.base G2.same G2.pre af2)
theorem DU {op:Mx}{g:G2}(ho:OpD X (Fg op) g)(ha:PE X a (tD X fa))(hb:PE X b (tD X fb)):PE X (.BinOp a op b pos) (tD X (d2 g fa fb)):=
 λpins s σ H Q I h=>wpAny_BinOp (dN ho ha hb I h)
theorem FF {op:Tu}{g:G2}(ho:OpD X (Co op) g)(ha:PE X a (tD X fa))(hb:PE X b (tD X fb))(hm:Kw op b=false:=by first|exact gT _|with_unfolding_all rfl):PE X (.Compare a [op] [b] pos) (tD X (d2 g fa fb)):=
 λpins s σ H Q I h=>wpAny_Compare1 (dN ho ha hb I h) hm
theorem DV {op:UnaryOp}{g:D->Sto->Res D}(ho:UnD X (WP op) g)(ha:PE X a (tD X fa)):PE X (.UnaryOp op a pos) (tD X (d1 g fa)):=by
 intro pins s σ H Q I h;obtain⟨P,α,env,S,r,re,af⟩:=h;exact UnaryOp_ (thn (zL ha I r re af) λvv s1 ⟨v,H1,P1,α1,d,S1,G1,af1⟩=>ho pins σ H1 s1 P1 α1 S1 v vv d Q G1.inv G1.rel G1.val G1.rep (qR.base G1.same G1.pre af1))
theorem DR {g:G2}(ho:IxD X g)(ha:PE X a (tD X fa))(hb:PE X b (tD X fb))(hs:mG b:=by intro _ _;rfl):PE X (.Subscript a b pos) (tD X (d2 g fa fb)):=by
 intro pins s σ H Q I h;obtain⟨P,α,env,S,r,re,af⟩:=h;have IxR':IxR X (λx y H Q=>∃ P α S a b,Rel X.K H P α S/\Rep X.K P α a x/\Rep X.K P α b y/\qR X P α (g a b S) Q):=λvalue slice pins s σ H x y v u Q I rx ry ⟨P,α,S,a,b,r,p1,p2,af⟩ hsl =>
  ho value slice pins σ H s P α S x y v u a b Q I r rx ry p1 p2 af hsl
 refine peW (RH IxR' ha hb hs) (t':=tD X (d2 g fa fb)) (λσ H Q h=>?_) pins s σ H Q I ⟨P,α,env,S,r,re,af⟩;obtain⟨P,α,env,S,r,re,af⟩:=h;refine⟨P,α,env,S,r,re,?_⟩;unfold d2 at af;cases q:fa env S with
 |bad=>rw[q] at af;exact af
 |ex c x S'=>rw[q] at af;exact af
 |ok d S1 =>
  rw[q] at af;intro v H1 P1 α1 r1 e1 e2 rp;refine⟨P1,α1,env,S1,r1,re.mono e1 e2,?_⟩;have af':qR X P α ((fb env S1).bind λy S2=>g d y S2) Q:=af;cases q2:fb env S1 with
  |bad=>rw[q2] at af';exact af'
  |ex c x S'=>rw[q2] at af';exact λu s' z=>af' u s' (z.base e1 e2)
  |ok d' S2 =>
   rw[q2] at af';intro u H2 P2 α2 r2 e3 e4 rp2;exact⟨P2,α2,S2,d,d',r2,Rep.mono e3 e4 _ _ rp,rp2,qR.base (e1.trans e3) (e2.trans e4) af'⟩
noncomputable def qA:DA:=λ_ S=>.ok [] S
noncomputable def q8 (f:DE)(g:DA):DA:=λenv S=>(f env S).bind λx S1=>(g env S1).bind λxs S2=>.ok (x::xs) S2
theorem FB:PA X [] (tDA X qA):=paW TZ λσ H Q ⟨P,α,env,S,r,re,af⟩=>af [] H P α r (qE.refl _) (Bl _) .nil
theorem UX {es:Aa Bt}{g:DA}(ha:PE X e (tD X fa))(hr:PA X es (tDA X g))(hs:Bm (e::es) X.env=(false,eval e X.env)::Bm es X.env:=by rfl):PA X (e::es) (tDA X (q8 fa g)):=by
 intro pos pins s σ H Q I h;obtain⟨P,α,env,S,r,re,af⟩:=h;rw[hs];show Ap _ _ (spliced ((false,eval e X.env)::Gi pos (Bm es X.env))) _ _ s;refine Iu (thn (zL ha I r re af) λu s1 ⟨x,H1,P1,α1,d,S1,G1,af1⟩=>?_);refine thn (wY hr G1.inv G1.rel G1.env (P:=P1) (α:=α1) (Ok:=OkA X P1 α1 Q) (gF.base G1.same G1.pre af1) pos) λus s2 ⟨xs,H2,P2,α2,ds,S2,I2,rv,r2,re2,rp2,e1,e2,af2⟩=>?_;exact⟨x::xs,H2,I2,.cons G1.val rv,af2 _ _ _ _ r2 e1 e2 (.cons (Rep.mono e1 e2 _ _ G1.rep) rp2)⟩
noncomputable def lim:Ai:=16777216
theorem zV:lim=sizeLine:=Fi.symm
noncomputable def wW (f:DA):DE:=λenv S=>(f env S).bind λxs S1=>if xs.length<=lim then .ok (.tup xs) S1 else .bad
noncomputable def gL (f:DA):DE:=λenv S=>(f env S).bind λxs S1=>if xs.length<=lim then .ok (.lst xs) S1 else .bad
noncomputable def fD (f:DA):DE:=λenv S=>(f env S).bind λxs S1=>if xs.length<=lim then .ok (.loc S1.length) (S1++[.lst xs]) else .bad
theorem pP {K:Aj}{P:Hp}{α:Aa Af}{a:Af}{ds:Aa D}(h:SqT K P a vs)(r:qB K P α ds vs):Rep K P α (.tup ds) (.ref a):=by simp only[Rep];exact⟨a,vs,rfl,h,r⟩
theorem tW {K:Aj}{P:Hp}{α:Aa Af}{a:Af}{ds:Aa D}(h:SqX K P a vs)(r:qB K P α ds vs):Rep K P α (.lst ds) (.ref a):=by simp only[Rep];exact⟨a,vs,rfl,h,r⟩
theorem kK {H P:Hp}{α:Aa Af}{ds:Aa D}(r:Rel X.K H P α S)(hp:H p=none)(rp:qB X.K P α ds vs)(af:OkV X P α Q (.tup ds) S):Q (.ref p) (upd H p (.tup vs)):=by
 obtain⟨r1,e1⟩:=r.pure (o:=.tup vs) hp;exact af _ _ _ α r1 e1 (Bl _) (pP (.of qX) (qB.mono e1 (Bl _) _ _ rp))
theorem yB {H P:Hp}{α:Aa Af}{ds:Aa D}(r:Rel X.K H P α S)(hp:H p=none)(rp:qB X.K P α ds vs)(af:OkV X P α Q (.lst ds) S):Q (.ref p) (upd H p (.lst vs)):=by
 obtain⟨r1,e1⟩:=r.pure (o:=.lst vs) hp;exact af _ _ _ α r1 e1 (Bl _) (tW (.inl (.inl qX)) (qB.mono e1 (Bl _) _ _ rp))
theorem tP {H P:Hp}{α:Aa Af}{ds:Aa D}(r:Rel X.K H P α S)(hp:H p=none)(rp:qB X.K P α ds vs)(af:OkV X P α Q (.loc S.length) (S++[.lst ds])):Q (.ref p) (upd H p (.lst vs)):=by
 have hpre:α<+:α++[p]:=Lw _ _;have r1:=r.new (o:=.lst vs) (m:=.lst ds) hp ⟨vs,qX,qB.mono (qE.refl _) hpre _ _ rp⟩;refine af _ _ _ _ r1 (qE.refl _) hpre ?_;simp only[Rep];exact⟨p,rfl,by rw[<- r.len];simp⟩
theorem mQ {f:DA}{σ:_L.St}{H:Hp}{G:Aa D->Sto->Res D}{mk:Aa V->HO}(h:tD X (λenv S=>(f env S).bind λxs S1=>if xs.length<=lim then G xs S1 else .bad) σ H Q)
  (k:∀ H1 P1 α1 S1 ds vs p,Rel X.K H1 P1 α1 S1->H1 p=none->qB X.K P1 α1 ds vs->qR X P1 α1 (G ds S1) Q->Q (.ref p) (upd H1 p (mk vs))) :
  tDA X f σ H λvs H1=>vs.length<=sizeLine/\∀ p,H1 p=none->Q (.ref p) (upd H1 p (mk vs)):=by
 obtain⟨P,α,env,S,r,re,af⟩:=h;refine⟨P,α,env,S,r,re,?_⟩;have af':qR X P α ((f env S).bind λxs S1=>if xs.length<=lim then G xs S1 else .bad) Q:=af
 cases q:f env S with
 |bad=>rw[q] at af';exact af'
 |ex c x S'=>rw[q] at af';exact af'
 |ok ds S1 =>
  rw[q] at af';intro vs H1 P1 α1 r1 e1 e2 rp;have af2:qR X P α (if ds.length<=lim then G ds S1 else .bad) Q:=af'
  by_cases hl:ds.length<=lim
  .rw[Bp hl] at af2
   exact⟨by rw[<- rp.length,<- zV];exact hl,λp hp=>k H1 P1 α1 S1 ds vs p r1 hp rp (qR.base e1 e2 af2)⟩
  .rw[Bj hl] at af2;exact Aq af2
theorem FO {es:Aa Bt}{f:DA} {x1} (h:PA X es (tDA X f)):PE X (.Tuple es x1 pos) (tD X (wW f)):=
 peW (N5 h) λσ H Q q=>mQ (G:=λxs S1=>.ok (.tup xs) S1) (mk:=.tup) q λH1 P1 α1 S1 ds vs p r hp rp af=>kK r hp rp af
theorem FJ {es:Aa Bt}{f:DA}(h:PA X es (tDA X f)):PE X (.List es pos) (tD X (gL f)):=
 peW (Z7 h) λσ H Q q=>mQ (G:=λxs S1=>.ok (.lst xs) S1) (mk:=.lst) q λH1 P1 α1 S1 ds vs p r hp rp af=>yB r hp rp af
theorem J3 {es:Aa Bt}{f:DA}(h:PA X es (tDA X f)):PE X (.List es pos) (tD X (fD f)):=
 peW (Z7 h) λσ H Q q=>mQ (G:=λxs S1=>.ok (.loc S1.length) (S1++[MO.lst xs])) (mk:=.lst) q λH1 P1 α1 S1 ds vs p r hp rp af=>tP r hp rp af
end
section
variable {X:Cx}{a b c e:Bt}{pos:Eu}{fa fb fc:DE}{ta tb:DT}
noncomputable def xM:D->Sto->Am Ar
 |.non,_=>Ab false
 |.bl b,_=>Ab b
 |.int i,_=>Ab (i != 0)
 |.str x,_=>if x.length<=lim then Ab ((x.length:Ak) != 0) else none
 |.tup xs,_=>Ab (!xs.isEmpty)
 |.lst xs,_=>Ab (!xs.isEmpty)
 |.dct0,_=>Ab false
 |.loc i,S=>match S[i]? with
  |some (.lst xs)=>Ab (!xs.isEmpty)
  |some (.dct kvs)=>Ab (!kvs.isEmpty)
  |_=>none
 |_,_=>none
theorem qB.isEmpty {K:Aj}{P:Hp}{α:Aa Af}{ds:Aa D}(r:qB K P α ds vs):(!ds.isEmpty)=!vs.isEmpty:=by
 cases ds with
 |nil=>rw[r.nil_inv];rfl
 |cons d ds=>obtain⟨w,ws,rfl,_,_⟩:=r.cons_inv;rfl
theorem xW {K:Aj}{H P:Hp}(e:qE P H){a:Af}{xs:Aa V}(h:SqT K P a xs):SqT K H a xs:=yX e h
theorem vT {H P:Hp}{α:Aa Af}{v:V}{d:D}{k:Ar}(r:Rel X.K H P α S)(p:Rep X.K P α d v)(h:xM d S=Ab k):cZ X.K v H k:=by
 cases d with
 |non=>simp only[Rep] at p;subst p;cases h;rfl
 |bl b=>simp only[Rep] at p;subst p;cases h;rfl
 |int i=>simp only[Rep] at p;subst p;cases h;rfl
 |str x =>
  simp only[Rep] at p;subst p;obtain⟨hl,rfl⟩:=uB h;exact⟨by rw[<- zV];exact hl,rfl⟩
 |tup xs =>
  simp only[Rep] at p;obtain⟨a,vs,rfl,q,t⟩:=p;cases h;exact .inr (.inl ⟨vs,xW r.sub q,t.isEmpty⟩)
 |lst xs =>
  simp only[Rep] at p;obtain⟨a,vs,rfl,q,t⟩:=p;cases h;exact .inl ⟨vs,(xR r.sub q).l,t.isEmpty⟩
 |dct0 =>
  simp only[Rep] at p;obtain⟨a,rfl,q⟩:=p;cases h;exact .inr (.inr ⟨[],r.sub _ _ q,rfl⟩)
 |loc i =>
  simp only[Rep] at p;obtain⟨a,rfl,q⟩:=p;have h:(match S[i]? with|some (.lst xs)=>Ab (!xs.isEmpty)|some (.dct kvs)=>Ab (!kvs.isEmpty)|_=>none)=Ab k:=h
  cases hs:S[i]? with
  |none=>rw[hs] at h;exact nn h
  |some m =>
   rw[hs] at h;cases m with
   |lst xs =>
    cases h;obtain⟨vs,z,t⟩:=r.at' i a _ q hs;exact .inl ⟨vs,.of z,t.isEmpty⟩
   |dct kvs =>
    cases h;obtain⟨vs,z,t⟩:=r.at' i a _ q hs;refine .inr (.inr ⟨vs,z,?_⟩);cases t <;> rfl
   |_=>exact nn h
 |ty n=>exact nn h
 |obj a=>exact nn h
 |exn c=>exact nn h
 |fd ks ds=>exact nn h
 |clo a vs ds=>exact nn h
theorem UJ {pins:Aa (Af × Ci)}{s:Ag}{σ:_L.St}{H P:Hp}{α:Aa Af}{v:V}{d:D}{k:Ar}{Q:Ar->Hp->Prop}(I:Inv X pins σ H s)(r:Rel X.K H P α S)(rv:qF v vv)(p:Rep X.K P α d v)(h:xM d S=Ab k)(q:Q k H) :
  Ap (Au X.prog X.w) X.A (truthy vv) (TP X pins σ Q) X.xe s:=gY pins s σ H v vv Q I rv ⟨k,vT r p h,q⟩
noncomputable def j3 (o:Am Ar)(S:Sto):Res Ar:=match o with
 |some b=>.ok b S
 |none=>.bad
noncomputable def dTr (f:DE):DT:=λenv S=>(f env S).bind λd S1=>j3 (xM d S1) S1
theorem tY {o:Am Ar}{P:Hp}{α:Aa Af}{Ok:Ar->Sto->Prop}(h:qG X P α (j3 o S) Ok):∃ b,o=Ab b/\Ok b S:=by
 cases o with
 |none=>exact Aq h
 |some b=>exact⟨b,rfl,h⟩
theorem M4 (ha:PE X a (tD X fa))(he:∀ whole,isTrue a X.env whole=(do let v <- whole;Pb a.pos;holding [v] (truthy v)):=by intro _;rfl):PT X a (tDT X (dTr fa)):=by
 intro pins s σ H Q I h;obtain⟨P,α,env,S,r,re,af⟩:=h;refine isTrue_plain (thn (zL ha I r re af) λvv s1 ⟨v,H1,P1,α1,d,S1,G1,af1⟩=>?_) (he _);obtain⟨k,e1,q⟩:=tY af1;exact UJ G1.inv G1.rel G1.val G1.rep e1 (q H1 P1 α1 G1.rel G1.same G1.pre)
theorem M2 {op:Tu}{g:G2}(ho:OpD X (Co op) g)(ha:PE X a (tD X fa))(hb:PE X b (tD X fb))(hm:Kw op b=false:=by first|exact gT _|with_unfolding_all rfl):PT X (.Compare a [op] [b] pos) (tDT X (dTr (d2 g fa fb))):=by
 intro pins s σ H Q I h;obtain⟨P,α,env,S,r,re,af⟩:=h;refine wpAny_isTrue_Compare1 ?_ hm;have key:tD X (d2 g fa fb) σ H (λv H1=>∃ k,cZ X.K v H1 k/\Q k H1):=by
  refine⟨P,α,env,S,r,re,?_⟩;have af':qG X P α ((d2 g fa fb env S).bind λd S1=>j3 (xM d S1) S1) (OkT X P α Q):=af;cases q:d2 g fa fb env S with
  |bad=>rw[q] at af';exact af'
  |ex c x S'=>rw[q] at af';exact af'
  |ok d S1 =>
   rw[q] at af';obtain⟨k,e1,qk⟩:=tY (X:=X) af';exact λv H1 P1 α1 r1 e3 e4 rp=>⟨k,vT r1 rp e1,qk H1 P1 α1 r1 e3 e4⟩
 exact thn (dN ho ha hb I key) λv s1 h1=>thn h1 λu s2 h2=>thn h2 λx s3 ⟨y,H3,I3,r3,k,tk,qk⟩=>gY pins s3 σ H3 y x Q I3 r3 ⟨k,tk,qk⟩
noncomputable def w6 (g g':G2)(fa fb fc:DE):DE:=λenv S=>(fa env S).bind λx S1=>(fb env S1).bind λy S2=>(g x y S2).bind λz S3 =>
 match xM z S3 with
 |some true=>(fc env S3).bind λw S4=>g' y w S4
 |some false=>.ok z S3
 |none=>.bad
inductive GotO (X:Cx)(pins:Aa (Af × Ci))(σ : _L.St)(P:Hp)(α : Aa Af)(w:Ac)(s1:Ag){γ : Type}(k:D->Sto->Res γ)(Ok:γ->Sto->Prop):Prop
 |mk (y:V) (H1 P1:Hp) (α1:Aa Af) (d:D) (S1:Sto) (I:Inv X pins σ H1 s1) (rv:qF y w) (r:Rel X.K H1 P1 α1 S1) (rp:Rep X.K P1 α1 d y) (e1:qE P P1) (e2:α<+:α1) (q:qG X P α (k d S1) Ok):GotO X pins σ P α w s1 k Ok
theorem sO {γ:Type}{f:Ac->Ac->Jw Ac}{g:G2}{k:D->Sto->Res γ}{Ok:γ->Sto->Prop}{pins:Aa (Af × Ci)}{σ:_L.St}{H:Hp}{s:Ag}{P:Hp}{α:Aa Af}{v u:V}{uu:Ac}{a b:D}(ho:OpD X f g)(I:Inv X pins σ H s)(r:Rel X.K H P α S)
  (rv:qF v vv) (ru:qF u uu) (pa:Rep X.K P α a v) (pb:Rep X.K P α b u) (af:qG X P α ((g a b S).bind k) Ok) :
  Ap (Au X.prog X.w) X.A (f vv uu) (λw s1=>GotO X pins σ P α w s1 k Ok) X.xe s:=by
 refine thn (ho pins σ H s P α S v u vv uu a b (λy H1=>∃ P1 α1 d S1,Rel X.K H1 P1 α1 S1/\Rep X.K P1 α1 d y/\qE P P1/\α<+:α1/\qG X P α (k d S1) Ok) I r rv ru pa pb ?_) λw s1 ⟨y,H1,I1,r1,P1,α1,d,S1,q1,q2,q3,q4,q5⟩=>⟨y,H1,P1,α1,d,S1,I1,r1,q1,q2,q3,q4,q5⟩;cases q:g a b S with
 |bad=>rw[q] at af;exact af
 |ex c x S'=>rw[q] at af;exact af
 |ok d S' =>
  rw[q] at af;exact λv H' P' α' r' e1 e2 rp=>⟨P',α',d,S',r',rp,e1,e2,af⟩
theorem qG.base' {β:Type}{P P1:Hp}{α α1:Aa Af}{r:Res β}{Ok Ok1:β->Sto->Prop}(e:qE P P1)(h:α<+:α1)(ho:∀ d S,Ok d S->Ok1 d S)(k:qG X P α r Ok):qG X P1 α1 r Ok1:=by
 cases r with
 |ok d S=>exact ho d S k
 |ex c x S=>exact λu s' q=>k u s' (q.base e h)
 |bad=>exact k
theorem XN {op op':Tu}{g g':G2}(ho:OpD X (Co op) g)(ho':OpD X (Co op') g')(ha:PE X a (tD X fa))(hb:PE X b (tD X fb))(hc:PE X c (tD X fc))
  (hm:Wl [op,op'] [b,c]=false:=by with_unfolding_all rfl):PE X (.Compare a [op,op'] [b,c] pos) (tD X (w6 g g' fa fb fc)):=by
 intro pins s σ H Q I h;obtain⟨P,α,env,S,r,re,af⟩:=h;refine Compare_chain (thn (zL ha I r re af) λvv s1 ⟨v,H1,P1,α1,d,S1,G1,af1⟩=>chain_link (thn (zL hb G1.inv G1.rel G1.env (qR.base G1.same G1.pre af1)) λuu s2 ⟨u,H2,P2,α2,d',S2,G2,af2⟩ =>
  thn (sO ho G2.inv G2.rel G1.val G2.val (Rep.mono G2.same G2.pre _ _ G1.rep) G2.rep (qR.base G2.same G2.pre af2)) λw s3 ⟨y,H3,P3,α3,z,S3,I3,r3,rl3,rp3,e3,e4,af3⟩=>?_)) hm
 cases ht:xM z S3 with
 |none=>simp only[ht] at af3;exact Aq af3
 |some k =>
  simp only[ht] at af3;have tv:=vT rl3 rp3 ht;refine thn (gY pins s3 σ H3 y w (λk' H'=>k'=k/\H'=H3) I3 r3 ⟨k,tv,rfl,rfl⟩) λk' s4 ⟨H4,I4,hk,hH⟩=>?_;subst hk;subst hH;cases k' with
  |false=>exact ite_ff ⟨y,H4,I4,r3,af3 y H4 P3 α3 rl3 e3 e4 rp3⟩
  |true =>
   refine ite_tt (chain_last (thn (zL hc I4 rl3 (G2.env.mono e3 e4) (qR.base e3 e4 af3)) λww s5 ⟨w',H5,P5,α5,d5,S5,G5,af5⟩=>?_));exact ho' pins σ H5 s5 P5 α5 S5 u w' uu ww d' d5 Q G5.inv G5.rel G2.val G5.val (Rep.mono (e3.trans G5.same) (e4.trans G5.pre) _ _ G2.rep) G5.rep (qR.base G5.same G5.pre af5)
theorem W1 {op op':Tu}{g g':G2}(ho:OpD X (Co op) g)(ho':OpD X (Co op') g')(ha:PE X a (tD X fa))(hb:PE X b (tD X fb))(hc:PE X c (tD X fc))
  (hm:Wl [op,op'] [b,c]=false:=by with_unfolding_all rfl):PT X (.Compare a [op,op'] [b,c] pos) (tDT X (dTr (w6 g g' fa fb fc))):=by
 intro pins s σ H Q I h;obtain⟨P,α,env,S,r,re,af⟩:=h;have af':qG X P α ((w6 g g' fa fb fc env S).bind λd S1=>j3 (xM d S1) S1) (OkT X P α Q):=af;have assoc:(w6 g g' fa fb fc env S).bind (λd S1=>j3 (xM d S1) S1)=(fa env S).bind λx S1=>(fb env S1).bind λy S2=>(g x y S2).bind λz S3 =>
   match xM z S3 with
   |some true=>((fc env S3).bind λw S4=>g' y w S4).bind λd S1=>j3 (xM d S1) S1
   |some false=>.ok false S3
   |none=>.bad:=by
  unfold w6;cases fa env S with
  |bad=>rfl
  |ex _ _ _=>rfl
  |ok x S1 =>
   show Res.bind (Res.bind (fb env S1) _) _=Res.bind (fb env S1) _;cases fb env S1 with
   |bad=>rfl
   |ex _ _ _=>rfl
   |ok y S2 =>
    show Res.bind (Res.bind (g x y S2) _) _=Res.bind (g x y S2) _;cases g x y S2 with
    |bad=>rfl
    |ex _ _ _=>rfl
    |ok z S3 =>
     show Res.bind (match xM z S3 with|some true=>(fc env S3).bind λw S4=>g' y w S4|some false=>.ok z S3|none=>.bad) _=_
     cases ht:xM z S3 with
     |none=>simp only[ht,Res.bind]
     |some k=>cases k <;> simp only[ht,Res.bind,j3]
 rw[assoc] at af';refine isTrue_chain (thn (zL ha I r re af') λvv s1 ⟨v,H1,P1,α1,d,S1,G1,af1⟩=>test_link (thn (zL hb G1.inv G1.rel G1.env (wD.base G1.same G1.pre af1)) λuu s2 ⟨u,H2,P2,α2,d',S2,G2,af2⟩ =>
  thn (sO ho G2.inv G2.rel G1.val G2.val (Rep.mono G2.same G2.pre _ _ G1.rep) G2.rep (wD.base G2.same G2.pre af2)) λw s3 ⟨y,H3,P3,α3,z,S3,I3,r3,rl3,rp3,e3,e4,af3⟩=>?_)) hm
 cases ht:xM z S3 with
 |none=>simp only[ht] at af3;exact Aq af3
 |some k =>
  simp only[ht] at af3;have tv:=vT rl3 rp3 ht;refine thn (gY pins s3 σ H3 y w (λk' H'=>k'=k/\H'=H3) I3 r3 ⟨k,tv,rfl,rfl⟩) λk' s4 ⟨H4,I4,hk,hH⟩=>?_;subst hk;subst hH;cases k' with
  |false=>exact ite_ff ⟨H4,I4,af3 H4 P3 α3 rl3 e3 e4⟩
  |true =>
   have af4:qG X P2 α2 ((fc env S3).bind λw S4=>(g' d' w S4).bind λd S1=>j3 (xM d S1) S1) (OkT X P2 α2 Q):=by
    have e:((fc env S3).bind λw S4=>(g' d' w S4).bind λd S1=>j3 (xM d S1) S1)=(((fc env S3).bind λw S4=>g' d' w S4).bind λd S1=>j3 (xM d S1) S1):=by
     cases fc env S3 <;> rfl
    rw[e];exact af3
   refine ite_tt (test_last (thn (zL hc I4 rl3 (G2.env.mono e3 e4) (wD.base e3 e4 af4)) λww s5 ⟨w',H5,P5,α5,d5,S5,G5,af5⟩ =>
    thn (sO ho' G5.inv G5.rel G2.val G5.val (Rep.mono (e3.trans G5.same) (e4.trans G5.pre) _ _ G2.rep) G5.rep (wD.base G5.same G5.pre af5)) λx6 s6 ⟨y6,H6,P6,α6,d6,S6,I6,r6,rl6,rp6,e5,e6,af6⟩=>?_))
   obtain⟨k6,q6,z6⟩:=tY af6;exact UJ I6 rl6 r6 rp6 q6 (z6 H6 P6 α6 rl6 e5 e6)
noncomputable def xO (t:DT):DT:=λenv S=>(t env S).bind λb S1=>.ok (!b) S1
noncomputable def xX (t u:DT):DT:=λenv S=>(t env S).bind λb S1=>if b then u env S1 else .ok false S1
noncomputable def u4 (t u:DT):DT:=λenv S=>(t env S).bind λb S1=>if b then .ok true S1 else u env S1
theorem M3 (ha:PT X a (tDT X ta)):PT X (.UnaryOp .Not a pos) (tDT X (xO ta)):=by
 intro pins s σ H Q I h;obtain⟨P,α,env,S,r,re,af⟩:=h;refine isTrue_not (thn (jF (λQ' q=>ha pins s σ H Q' I q) r re af) λb s1 ⟨H1,P1,α1,S1,I1,r1,re1,e1,e2,af1⟩=>⟨H1,I1,af1 H1 P1 α1 r1 e1 e2⟩)
def PWD (X:Cx)(e:Bt)(t:DT):Prop:=PW X e (tDT X t)
theorem PWD.pt {t:DT}(h:PWD X e t):PT X e (tDT X t):=h _
theorem JK (ha:PT X a (tDT X ta)):PWD X (.BoolOp .And [a] pos) ta:=GP ha
theorem M6 (ha:PT X a (tDT X ta)):PWD X (.BoolOp .Or [a] pos) ta:=NH ha
theorem M5 {qJ:Aa Bt}(ha:PT X a (tDT X ta))(hb:PWD X (.BoolOp .And (b::qJ) pos) tb):PWD X (.BoolOp .And (a::b::qJ) pos) (xX ta tb):=by
 intro wh pins s σ H Q I h;obtain⟨P,α,env,S,r,re,af⟩:=h;refine isTrue_and (thn (jF (λQ' q=>ha pins s σ H Q' I q) r re af) λk s1 ⟨H1,P1,α1,S1,I1,r1,re1,e1,e2,af1⟩=>?_);cases k with
 |true=>exact hb wh pins s1 σ H1 Q I1 ⟨P1,α1,env,S1,r1,re1,wD.base e1 e2 af1⟩
 |false=>exact⟨H1,I1,af1 H1 P1 α1 r1 e1 e2⟩
theorem SB {qJ:Aa Bt}(ha:PT X a (tDT X ta))(hb:PWD X (.BoolOp .Or (b::qJ) pos) tb):PWD X (.BoolOp .Or (a::b::qJ) pos) (u4 ta tb):=by
 intro wh pins s σ H Q I h;obtain⟨P,α,env,S,r,re,af⟩:=h;refine isTrue_or (thn (jF (λQ' q=>ha pins s σ H Q' I q) r re af) λk s1 ⟨H1,P1,α1,S1,I1,r1,re1,e1,e2,af1⟩=>?_);cases k with
 |true=>exact⟨H1,I1,af1 H1 P1 α1 r1 e1 e2⟩
 |false=>exact hb wh pins s1 σ H1 Q I1 ⟨P1,α1,env,S1,r1,re1,wD.base e1 e2 af1⟩
noncomputable def gK (f g:DE):DE:=λenv S=>(f env S).bind λx S1=>match xM x S1 with
 |some true=>g env S1
 |some false=>.ok x S1
 |none=>.bad
noncomputable def XJ (f:DE):DE:=λenv S=>(f env S).bind λx S1=>match xM x S1 with
 |some b=>.ok (.bl (!b)) S1
 |none=>.bad
theorem FM  (h:PE X a (tD X fa)):PE X (.BoolOp op [a] pos) (tD X fa):=N3 h
theorem LX {pins:Aa (Af × Ci)}{s:Ag}{σ:_L.St}{H:Hp}{v:V}{k:Ar}{R:Ar->Ag->Prop}(I:Inv X pins σ H s)(rv:qF v vv)(t:cZ X.K v H k)(h:∀ s',Inv X pins σ H s'->R k s') :
  Ap (Au X.prog X.w) X.A (truthy vv) R X.xe s:=thn (gY pins s σ H v vv (λk' H'=>k'=k/\H'=H) I rv ⟨k,t,rfl,rfl⟩) λk' s4 ⟨H4,I4,hk,hH⟩=>by subst hk;subst hH;exact h s4 I4
theorem FE {qJ:Aa Bt}(ha:PE X a (tD X fa))(hb:PE X (.BoolOp .And (b::qJ) pos) (tD X fb)):PE X (.BoolOp .And (a::b::qJ) pos) (tD X (gK fa fb)):=by
 intro pins s σ H Q I h;obtain⟨P,α,env,S,r,re,af⟩:=h;refine BoolOp_and (thn (zL ha I r re af) λvv s1 ⟨v,H1,P1,α1,d,S1,G1,af1⟩=>?_);cases ht:xM d S1 with
 |none=>simp only[ht] at af1;exact Aq af1
 |some k =>
  simp only[ht] at af1;refine LX G1.inv G1.val (vT G1.rel G1.rep ht) λs2 I2=>?_;cases k with
  |true=>exact hb pins s2 σ H1 Q I2 ⟨P1,α1,env,S1,G1.rel,G1.env,qR.base G1.same G1.pre af1⟩
  |false=>exact⟨v,H1,I2,G1.val,af1 v H1 P1 α1 G1.rel G1.same G1.pre G1.rep⟩
theorem FL (ha:PE X a (tD X fa)):PE X (.UnaryOp .Not a pos) (tD X (XJ fa)):=by
 intro pins s σ H Q I h;obtain⟨P,α,env,S,r,re,af⟩:=h;refine UnaryOp_ (thn (zL ha I r re af) λvv s1 ⟨v,H1,P1,α1,d,S1,G1,af1⟩=>?_);cases ht:xM d S1 with
 |none=>simp only[ht] at af1;exact Aq af1
 |some k =>
  simp only[ht] at af1;exact not_of (LX G1.inv G1.val (vT G1.rel G1.rep ht) λs2 I2=>⟨.bl (!k),H1,I2,rfl,af1 (.bl (!k)) H1 P1 α1 G1.rel G1.same G1.pre (by simp only[Rep])⟩)
noncomputable def dIf (t:DT)(f g:DE):DE:=λenv S=>(t env S).bind λb S1=>if b then f env S1 else g env S1
theorem DQ (hc:PT X c (tDT X ta))(ha:PE X a (tD X fa))(hb:PE X b (tD X fb)):PE X (.IfExp c a b pos) (tD X (dIf ta fa fb)):=by
 intro pins s σ H Q I h;obtain⟨P,α,env,S,r,re,af⟩:=h;refine wpAny_IfExp (thn (jF (λQ' q=>hc pins s σ H Q' I q) r re af) λk s1 ⟨H1,P1,α1,S1,I1,r1,re1,e1,e2,af1⟩=>?_);cases k with
 |true=>exact ha pins s1 σ H1 Q I1 ⟨P1,α1,env,S1,r1,re1,qR.base e1 e2 af1⟩
 |false=>exact hb pins s1 σ H1 Q I1 ⟨P1,α1,env,S1,r1,re1,qR.base e1 e2 af1⟩
end
@[inline] def Res.toS {β:Type}(env:qC)(r:Res β)(k:β->Sto->Out):Out:=
 match r with
 |.ok d S=>k d S
 |.ex c x S=>.ex c x env S
 |.bad=>.bad
section
variable {X:Cx}{a b c e:Bt}{pos:Eu}{fa fb fc:DE}{ta tb:DT}{f g:DS}{st:Fx}{qJ:Aa Fx}
noncomputable def zO:DS:=λenv S=>.nx env S
noncomputable def qT (f g:DS):DS:=λenv S=>match f env S with
 |.nx env1 S1=>g env1 S1
 |o=>o
theorem FX:PSs X [] (tDS X zO):=NF GN λD σ H ⟨P,α,env,S,r,re,af⟩=>af σ H P α r re (qE.refl _) (Bl _)
theorem JF (h1:PS X st (tDS X f))(h2:PSs X qJ (tDS X g)):PSs X (st::qJ) (tDS X (qT f g)):=NF (YD h1 h2) λD σ H ⟨P,α,env,S,r,re,af⟩=>by
 refine⟨P,α,env,S,r,re,?_⟩;unfold qT at af;cases q:f env S with
 |nx env1 S1 =>
  rw[q] at af;exact λσ' H' P' α' r' re' e1 e2=>⟨P',α',env1,S1,r',re',qV.base e1 e2 af⟩
 |rt d S1=>rw[q] at af;exact af
 |bk env1 S1=>rw[q] at af;exact af
 |ct env1 S1=>rw[q] at af;exact af
 |ex c x env1 S1=>rw[q] at af;exact af
 |bad=>rw[q] at af;exact af
theorem FY (h1:PS X st (tDS X f)):PSs X [st] (tDS X f):=GO h1
theorem xH {β:Type}{P:Hp}{α:Aa Af}{env:qC}{r:Res β}{k:β->Sto->Out}{D:Ends}(h:qV X P α (r.toS env k) D):qG X P α r λd S=>qV X P α (k d S) D:=by
 cases r with
 |ok d S=>exact h
 |ex c x S=>exact h
 |bad=>exact h
inductive GotS (X:Cx)(pins:Aa (Af × Ci))(σ : _L.St)(env:qC)(P:Hp)(α : Aa Af)(u:Ac)(s1:Ag)(k:D->Sto->Out)(E:Ends):Prop
 |mk (v:V) (H1 P1:Hp) (α1:Aa Af) (d:D) (S1:Sto) (G:Got X pins σ env P α u s1 v H1 P1 α1 d S1) (q:qV X P1 α1 (k d S1) E):GotS X pins σ env P α u s1 k E
theorem fF {k:D->Sto->Out}{pins:Aa (Af × Ci)}{s:Ag}{σ:_L.St}{H P:Hp}{α:Aa Af}{env:qC}{D:Ends}(he:PE X e (tD X fa))(I:Inv X pins σ H s)(r:Rel X.K H P α S)
  (re:qY X.K P α σ env) (af:qV X P α ((fa env S).toS env k) D) :
  Ap (Au X.prog X.w) X.A (eval e X.env) (λu s1=>GotS X pins σ env P α u s1 k D) X.xe s:=by
 have af1:qG X P α ((fa env S).bind λd S=>.ok d S) λd S=>qV X P α (k d S) D:=by
  have:=xH af;cases q:fa env S <;> rw[q] at this <;> exact this
 exact thn (zL he I r re af1) λu s1 ⟨v,H1,P1,α1,d,S1,G,q⟩=>⟨v,H1,P1,α1,d,S1,G,qV.base G.same G.pre q⟩
noncomputable def y9 (f:DE):DS:=λenv S=>(f env S).toS env λ_ S1=>.nx env S1
theorem JG (he:PE X e (tD X fa))(hs:Mq e none pos.line X.env=pure false:=by rfl):PS X (.Expr e pos) (tDS X (y9 fa)):=by
 intro pins s σ H D I h;obtain⟨P,α,env,S,r,re,af⟩:=h;exact wpAny_Expr_any (thn (fF he I r re af) λv s1 ⟨x,H1,P1,α1,d,S1,G,q⟩=>⟨σ,H1,G.inv,q σ H1 P1 α1 G.rel G.env (qE.refl _) (Bl _)⟩) I.quiet hs
noncomputable def qW (f:DE):DS:=λenv S=>(f env S).toS env λd S1=>.rt d S1
theorem M0 (he:PE X e (tD X fa)):PS X (.Return (Ab e) pos) (tDS X (qW fa)):=by
 intro pins s σ H D I h;obtain⟨P,α,env,S,r,re,af⟩:=h;exact wpAny_Return_some (thn (fF he I r re af) λv s1 ⟨x,H1,P1,α1,d,S1,G,q⟩=>⟨x,σ,H1,G.inv,G.val,q x H1 P1 α1 G.rel (qE.refl _) (Bl _) G.rep⟩)
noncomputable def sIf (t:DT)(f g:DS):DS:=λenv S=>(t env S).toS env λb S1=>if b then f env S1 else g env S1
theorem DZ {as bs:Aa Fx}(hc:PT X c (tDT X ta))(ha:PSs X as (tDS X f))(hb:PSs X bs (tDS X g)):PS X (.If c as bs pos) (tDS X (sIf ta f g)):=by
 intro pins s σ H D I h;obtain⟨P,α,env,S,r,re,af⟩:=h;have af1:qG X P α ((ta env S).bind λd S=>.ok d S) λb S=>qV X P α (if b then f env S else g env S) D:=by
  have:=xH af;cases q:ta env S <;> rw[q] at this <;> exact this
 refine wpAny_If (thn (jF (λQ' q=>hc pins s σ H Q' I q) r re af1) λk s1 ⟨H1,P1,α1,S1,I1,r1,re1,e1,e2,af2⟩=>?_);cases k with
 |true=>exact ha pins s1 σ H1 D I1 ⟨P1,α1,env,S1,r1,re1,qV.base e1 e2 af2⟩
 |false=>exact hb pins s1 σ H1 D I1 ⟨P1,α1,env,S1,r1,re1,qV.base e1 e2 af2⟩
abbrev DG:=D->qC->Sto->Res qC
abbrev DGs:=Aa D->qC->Sto->Res qC
def OkE (X:Cx)(P:Hp)(α : Aa Af)(Q:_L.St->Hp->Prop)(env':qC)(S':Sto):Prop:=∀ σ' H' P' α',Rel X.K H' P' α' S'->qY X.K P' α' σ' env'->qE P P'->α<+:α'->Q σ' H'
def tDG (X:Cx)(g:DG):TG:=λv σ H Q=>∃ P α env S d,Rel X.K H P α S/\qY X.K P α σ env/\Rep X.K P α d v/\qG X P α (g d env S) (OkE X P α Q)
def rB (X:Cx)(g:DGs):TGs:=λvs σ H Q=>∃ P α env S ds,Rel X.K H P α S/\qY X.K P α σ env/\qB X.K P α ds vs/\qG X P α (g ds env S) (OkE X P α Q)
theorem qY.set {K:Aj}{P:Hp}{α:Aa Af}{σ:_L.St}{env:qC}{d:D}{v:V}(re:qY K P α σ env)(i:Ai)(rp:Rep K P α d v):qY K P α (σ.set i (Ab v)) (env.set i (Ab d)):=by
 refine⟨by simp[re.1],λj d' e=>?_⟩
 by_cases hj:i=j
 .subst hj
  by_cases hi:i<env.length
  .rw[Ev hi] at e
   cases e;exact⟨v,by rw[Ev (by rw[<- re.1];exact hi)],rp⟩
  .rw[List.getElem?_eq_none (by simp;omega)] at e;cases e
 .rw[Cs hj] at e ⊢
  exact re.2 j d' e
noncomputable def gNm (i:Ai):DG:=λd env S=>.ok (env.set i (Ab d)) S
theorem J8 {i:Ai}{x:Av}(hN:X.N.Nodup)(hi:X.N[i]? = Ab x:=by rfl)(hx:Loc X.env.scope x:=by first|exact Xe rfl|exact Ut rfl)(hf:X.fn x=true\/X.env.scope.names.lookup x=Ab .local:=by first|exact .inl rfl|exact .inr rfl|assumption):PG X (.Name x pos) (tDG X (gNm i)):=by
 intro pins s σ H v u Q I rv h;obtain⟨P,α,env,S,d,r,re,rp,af⟩:=h;exact GE hN hi hx hf pins s σ H v u Q I rv (af _ H P α r (re.set i rp) (qE.refl _) (Bl _))
noncomputable def wU:DGs:=λds env S=>match ds with
 |[]=>.ok env S
 |_=>.bad
noncomputable def zM (g:DG)(gs:DGs):DGs:=λds env S=>match ds with
 |d::r=>(g d env S).bind λenv1 S1=>gs r env1 S1
 |[]=>.bad
theorem J9:PGs X [] (rB X wU):=by
 intro pins s σ H vs us Q I rv h;obtain⟨P,α,env,S,ds,r,re,rp,af⟩:=h;cases ds with
 |nil=>exact GF pins s σ H vs us Q I rv ⟨rp.nil_inv,af σ H P α r re (qE.refl _) (Bl _)⟩
 |cons d ds=>exact Aq af
theorem XS {es:Aa Bt}{g:DG}{gs:DGs}(h1:PG X e (tDG X g))(h2:PGs X es (rB X gs))(hs:(Go (e::es) X.env).map (·.2)=assign e X.env::(Go es X.env).map (·.2):=by rfl):PGs X (e::es) (rB X (zM g gs)):=by
 intro pins s σ H vs us Q I rv h;obtain⟨P,α,env,S,ds,r,re,rp,af⟩:=h;cases ds with
 |nil=>exact Aq af
 |cons d ds =>
  obtain⟨w,ws,rfl,p1,p2⟩:=rp.cons_inv;refine Y9 h1 h2 hs pins s σ H _ us Q I rv ⟨w,ws,rfl,P,α,env,S,d,r,re,p1,?_⟩;have af':qG X P α ((g d env S).bind λenv1 S1=>gs ds env1 S1) (OkE X P α Q):=af;cases q:g d env S with
  |bad=>rw[q] at af';exact af'
  |ex c x S'=>rw[q] at af';exact af'
  |ok env1 S1 =>
   rw[q] at af';intro σ' H' P' α' r' re' e1 e2;refine⟨P',α',env1,S1,ds,r',re',qB.mono e1 e2 _ _ p2,qG.base' e1 e2 (λenv' S' ok σ2 H2 P2 α2 r2 re2 e3 e4=>ok σ2 H2 P2 α2 r2 re2 (e1.trans e3) (e2.trans e4)) af'⟩
noncomputable def gTp (n:Ai)(gs:DGs):DG:=λd env S=>match d with
 |.tup xs=>if xs.length=n then gs xs env S else .bad
 |_=>.bad
set_option tactic.hygienic true in
theorem FR {es:Aa Bt}{k:Ai}{gs:DGs}{n:Ai}(hc:X.calm=true)(h:PGs X es (rB X gs))(hn:(Go es X.env).length=n:=by rfl)(hst:(Go es X.env).findIdx? (·.1)=none:=by rfl):PG X (.Tuple es k pos) (tDG X (gTp n gs)):=by
 intro pins s σ H v u Q I rv hw;obtain⟨P,α,env,S,d,r,re,rp,af⟩:=hw;cases d with
 |tup xs =>
  simp only[Rep] at rp;obtain⟨a,vs,rfl,q,t⟩:=rp;simp only[gTp] at af
  split at af
  .rename_i hl
   exact N7 hc h hn hst pins s σ H _ u Q I rv ⟨a,vs,rfl,xW r.sub q,by rw[<- t.length];exact hl,P,α,env,S,xs,r,re,t,af⟩
  .exact Aq af
 |_=>exact Aq af
abbrev G3:=D->D->D->Sto->Res Su
def OkU (X:Cx)(P:Hp)(α : Aa Af)(Q:Hp->Prop)(_:Su)(S':Sto):Prop:=∀ H' P' α',Rel X.K H' P' α' S'->qE P P'->α<+:α'->Q H'
def lZ (X:Cx)(g:G3):BU:=λo i v H Q=>∃ P α S a b d,Rel X.K H P α S/\Rep X.K P α a o/\Rep X.K P α b i/\Rep X.K P α d v/\qG X P α (g a b d S) (OkU X P α Q)
noncomputable def gSb (fo fi:DE)(g:G3):DG:=λd env S=>(fo env S).bind λo S1=>(fi env S1).bind λi S2=>(g o i d S2).bind λ_ S3=>.ok env S3
theorem FQ {o i:Bt}{fo fi:DE}{g:G3}(ho:PE X o (tD X fo))(hi:PE X i (tD X fi))(hs:d3 X (lZ X g))
  (ha:∀ v,assign (.Subscript o i pos) X.env v=(do
   let ov <- holding [v] (eval o X.env)
   let iv <- holding [v,ov] (eval i X.env)
   Pb pos
   holding [v,ov,iv] (Zj ov iv v)
   release [v,ov,iv] []):=by intro _;rfl):PG X (.Subscript o i pos) (tDG X (gSb fo fi g)):=by
 intro pins s σ H v u Q I rv h;obtain⟨P,α,env,S,d,r,re,rp,af⟩:=h;rw[ha];refine Ad (Em (thn (zL ho I r re af) λov s1 ⟨x,H1,P1,α1,d1,S1,G1,af1⟩=>?_));refine Ad (Em (thn (zL hi G1.inv G1.rel G1.env (P:=P1) (α:=α1) (Ok:=OkE X P1 α1 Q) (qG.base' G1.same G1.pre (λenv' S' ok σ2 H2 P2 α2 r2 re2 e3 e4=>ok σ2 H2 P2 α2 r2 re2 (G1.same.trans e3) (G1.pre.trans e4)) af1)) λiv s2 ⟨y,H2,P2,α2,d2,S2,G2,af2⟩=>?_));refine Ad (Jm (Ad (Em (thn (hs pins s2 σ H2 x y v ov iv u (λH3=>Q σ H3) G2.inv G1.val G2.val rv ⟨P2,α2,S2,d1,d2,d,G2.rel,Rep.mono G2.same G2.pre _ _ G1.rep,G2.rep,Rep.mono (G1.same.trans G2.same) (G1.pre.trans G2.pre) _ _ rp,?_⟩) λ_ s3 ⟨H3,I3,q3⟩=>?_))))
 .cases q:g d1 d2 d S2 with
  |bad=>rw[q] at af2;exact af2
  |ex c x S'=>rw[q] at af2;exact λu s' z=>af2 u s' (z.base G2.same G2.pre)
  |ok w S3 =>
   rw[q] at af2;exact λH' P' α' r' e1 e2=>af2 σ H' P' α' r' (G2.env.mono e1 e2) (G2.same.trans e1) (G2.pre.trans e2)
 .exact wpAny_release ⟨σ,H3,I3,q3⟩
noncomputable def zZ (f:DE)(g:DG):DS:=λenv S=>(f env S).toS env λd S1=>(g d env S1).toS env λenv' S2=>.nx env' S2
theorem o8 {g:DG}{d:D}{env:qC}{P:Hp}{α:Aa Af}{D':Ends}(h:qV X P α ((g d env S).toS env λenv' S2=>.nx env' S2) D'):qG X P α (g d env S) (OkE X P α D'.nx):=by
 cases q:g d env S with
 |bad=>rw[q] at h;exact h
 |ex c x S'=>rw[q] at h;exact h
 |ok env1 S1=>rw[q] at h;exact h
theorem FU {tg:Bt}{g:DG}(he:PE X e (tD X fa))(hg:PG X tg (tDG X g))(hs:Kv [tg] e pos.line X.env=pure false:=by rfl)(hw:Ku [tg] e X.env=pure none:=by rfl)
  (h1:(Go [tg] X.env).map (·.2)=[assign tg X.env]:=by rfl):PS X (.Assign [tg] e pos) (tDS X (zZ fa g)):=by
 intro pins s σ H D I h;obtain⟨P,α,env,S,r,re,af⟩:=h;refine wpAny_Assign_stores (thn (fF he I r re af) λv s1 ⟨x,H1,P1,α1,d,S1,G,q⟩=>?_) hs hw;rw[h1];exact thn (hg pins s1 σ H1 x v _ G.inv G.val ⟨P1,α1,env,S1,d,G.rel,G.env,G.rep,o8 q⟩) λ_ s2 q=>q
theorem M1 {i:Ai}{x:Av}{pos':Eu}(hN:X.N.Nodup)(he:PE X e (tD X fa))(hi:X.N[i]? = Ab x:=by rfl)(hx:Loc X.env.scope x:=by first|exact Xe rfl|exact Ut rfl)(hs:Mq e (Ab (.Name x pos')) pos.line X.env=pure false:=by rfl)
  (hf:X.fn x=true\/X.env.scope.names.lookup x=Ab .local:=by first|exact .inl rfl|exact .inr rfl|assumption):PS X (.Assign [.Name x pos'] e pos) (tDS X (zZ fa (gNm i))):=by
 intro pins s σ H D I h;obtain⟨P,α,env,S,r,re,af⟩:=h;refine wpAny_Assign_Name (thn (fF he I r re af) λv s1 ⟨y,H1,P1,α1,d,S1,G,q⟩=>?_) hs;exact uH G.inv hN hi hx G.val (λs2 I2=>⟨_,H1,I2,q _ H1 P1 α1 G.rel (G.env.set i G.rep) (qE.refl _) (Bl _)⟩) hf
noncomputable def Z6 (i j:Ai)(env:qC)(S1:Sto):Aa D->Out
 |[x,y]=>.nx ((env.set i (Ab x)).set j (Ab y)) S1
 |_=>.bad
noncomputable def bU (i j:Ai)(f:DA):DS:=λenv S=>(f env S).toS env λds S1=>Z6 i j env S1 ds
theorem FZ {i j:Ai}{x y:Av}{f:DA}{px py pt:Eu} {kt k2 pt2} (hc:X.calm=true) (hN:X.N.Nodup) (ha:PA X [a,b] (tDA X f)) (hi:X.N[i]? = Ab x:=by rfl) (hj:X.N[j]? = Ab y:=by rfl) (hij:i≠j:=by decide)
  (hx:X.env.scope.names.lookup x=Ab .local:=by rfl) (hy:X.env.scope.names.lookup y=Ab .local:=by rfl)
  (hw:Ku [.Tuple [.Name x px,.Name y py] kt pt] (.Tuple [a,b] k2 pt2) X.env=pure (Ab [x,y]):=by rfl)
  (hs:Kv [.Tuple [.Name x px,.Name y py] kt pt] (.Tuple [a,b] k2 pt2) pos.line X.env=pure false:=by rfl) :
  PS X (.Assign [.Tuple [.Name x px,.Name y py] kt pt] (.Tuple [a,b] k2 pt2) pos) (tDS X (bU i j f)):=psW (ND hc hN hi hj hij hx hy ha hw hs) λD σ H ⟨P,α,env,S,r,re,af⟩=>by
 refine⟨P,α,env,S,r,re,?_⟩;have af1:=xH af;cases q:f env S with
 |bad=>rw[q] at af1;exact af1
 |ex c x S'=>rw[q] at af1;exact af1
 |ok ds S1 =>
  rw[q] at af1;intro vs H' P' α' r' e1 e2 rp;have af2:qV X P α (Z6 i j env S1 ds) D:=af1;cases ds with
  |nil=>exact Aq af2
  |cons d ds=>cases ds with
   |nil=>exact Aq af2
   |cons d' ds=>cases ds with
    |cons _ _=>exact Aq af2
    |nil =>
     obtain⟨w,ws,rfl,p1,t⟩:=rp.cons_inv;obtain⟨w',ws',rfl,p2,t⟩:=t.cons_inv;rw[t.nil_inv];exact⟨w,w',rfl,af2 _ _ P' α' r' (((re.mono e1 e2).set i p1).set j p2) e1 e2⟩
end
structure ItD (K:Aj)(J:It)(P:Hp)(α : Aa Af)(ds:Aa D):Prop where
 go:∀ i H P1 α1 S,i<ds.length->Rel K H P1 α1 S->qE P P1->α<+:α1->J.go i H
 yld:∀ i H x H' P1 α1 S,i<ds.length->Rel K H P1 α1 S->qE P P1->α<+:α1->J.yld i H x H'->∃ P2 d,ds[i]? = Ab d/\Rel K H' P2 α1 S/\qE P1 P2/\Rep K P2 α1 d x
 stop:∀ i H P1 α1 S,ds.length<=i->Rel K H P1 α1 S->qE P P1->α<+:α1->J.stop i H
abbrev DI:=qC->Sto->Res (Aa D)
def OkI (X:Cx)(P:Hp)(α : Aa Af)(R:It->Hp->Prop)(ds:Aa D)(S':Sto):Prop:=∀ J H' P' α',Rel X.K H' P' α' S'->qE P P'->α<+:α'->ItD X.K J P' α' ds->R J H'
inductive tDI (X:Cx)(f:DI)(σ : _L.St)(H:Hp)(R:It->Hp->Prop):Prop
 |mk (P:Hp) (α : Aa Af) (env:qC) (S:Sto) (r:Rel X.K H P α S) (re:qY X.K P α σ env) (af:qG X P α (f env S) (OkI X P α R)):tDI X f σ H R
noncomputable def yV {β:Type}(o:Am β)(S:Sto):Res β:=match o with
 |some b=>.ok b S
 |none=>.bad
theorem yW {X:Cx}{β:Type}{o:Am β}{P:Hp}{α:Aa Af}{Ok:β->Sto->Prop}(h:qG X P α (yV o S) Ok):∃ b,o=Ab b/\Ok b S:=by
 cases o with
 |none=>exact Aq h
 |some b=>exact⟨b,rfl,h⟩
theorem vA {X:Cx}{β:Type}{c:Prop}[IQ c]{r:Res β}{P:Hp}{α : Aa Af}{Ok:β->Sto->Prop}(h:qG X P α (if c then r else .bad) Ok):c/\qG X P α r Ok:=by
 by_cases z:c
 .rw[Bp z] at h;exact⟨z,h⟩
 .rw[Bj z] at h;exact Aq h
theorem Z5 {X:Cx}{β:Type}{ds:Aa D}{g:D->Res β}{P:Hp}{α:Aa Af}{Ok:β->Sto->Prop}(h:qG X P α (match ds with|[d]=>g d|_=>.bad) Ok):∃ d,ds=[d]/\qG X P α (g d) Ok:=by
 cases ds with
 |nil=>exact Aq h
 |cons d ds =>
  cases ds with
  |nil=>exact⟨d,rfl,h⟩
  |cons _ _=>exact Aq h
theorem tO {β:Type}{i:Ai}{f:Aa D->Am β}{g:Aa (Key × D)->Am β}{b:β}(h:(match S[i]? with|some (.lst xs)=>f xs|some (.dct kvs)=>g kvs|_=>none)=Ab b):(∃ xs,S[i]? = Ab (.lst xs)/\f xs=Ab b)\/∃ kvs,S[i]? = Ab (.dct kvs)/\g kvs=Ab b:=by
 cases e:S[i]? with
 |none=>rw[e] at h;exact nn h
 |some m =>
  rw[e] at h;cases m with
  |lst xs=>exact .inl ⟨xs,rfl,h⟩
  |dct kvs=>exact .inr ⟨kvs,rfl,h⟩
  |_=>exact nn h
theorem MV {β:Type}{i:Ai}{f:Aa D->Am β}{b:β}(h:(match S[i]? with|some (.lst xs)=>f xs|_=>none)=Ab b):∃ xs,S[i]? = Ab (.lst xs)/\f xs=Ab b:=by
 cases e:S[i]? with
 |none=>rw[e] at h;exact nn h
 |some m =>
  rw[e] at h;cases m with
  |lst xs=>exact⟨xs,rfl,h⟩
  |_=>exact nn h
inductive ItV (d:D)(xs:Aa D):Prop
 |tup (e:d=.tup xs)
 |lst (e:d=.lst xs)
noncomputable def U6 {β:Type}(S:Sto)(n:Ai)(f:Aa D->Res β) : Res β:=match S[n]? with
 |some (.lst xs)=>f xs
 |_=>.bad
theorem kJ {X:Cx}{β:Type}{n:Ai}{f:Aa D->Res β}{P:Hp}{α:Aa Af}{Ok:β->Sto->Prop}(h:qG X P α (U6 S n f) Ok):∃ xs,S[n]? = Ab (.lst xs)/\qG X P α (f xs) Ok:=by
 unfold U6 at h;cases e:S[n]? with
 |none=>rw[e] at h;exact Aq h
 |some m =>
  rw[e] at h;cases m with
  |lst xs=>exact⟨xs,rfl,h⟩
  |_=>exact Aq h
noncomputable def xB:D->Am (Aa D)
 |.tup xs=>Ab xs
 |.lst xs=>Ab xs
 |_=>none
theorem itV {d:D}{xs:Aa D}(h:xB d=Ab xs):ItV d xs:=by
 cases d with
 |tup ys=>exact .tup (congrArg D.tup (Cz h))
 |lst ys=>exact .lst (congrArg D.lst (Cz h))
 |_=>exact nn h
noncomputable def vZ (f:DE):DI:=λenv S=>(f env S).bind λd S1=>yV (xB d) S1
section
variable {X:Cx}{K:Aj}{tg e:Bt}{fa:DE}{pos:Eu}
theorem WO {P:Hp}{α:Aa Af}{a:Af}{ds:Aa D}(q:SqL K P a vs)(t:qB K P α ds vs):ItD K (Itl K a) P α ds where
 go:=λi H P1 α1 S hi r e _=>⟨vs,vs[i]'(by rw[<- t.length];exact hi),(e.trans r.sub).seq q,by simp⟩
 yld:=λi H x H' P1 α1 S hi r e e2 y=>by
  obtain⟨rfl,y⟩:=y;have hx:=y vs ((e.trans r.sub).seq q);obtain⟨v,h1,h2⟩:=t.get (An hi);rw[hx] at h1;cases h1;exact⟨P1,_,An hi,r,qE.refl _,Rep.mono e e2 _ _ h2⟩
 stop:=λi H P1 α1 S hi r e _=>⟨vs,(e.trans r.sub).seq q,by rw[<- t.length];exact hi⟩
theorem K6 {P:Hp}{α:Aa Af}{a:Af}{ds:Aa D}(q:SqT K P a vs)(t:qB K P α ds vs):ItD K (Itt K a) P α ds where
 go:=λi H P1 α1 S hi r e _=>⟨vs,vs[i]'(by rw[<- t.length];exact hi),yX (e.trans r.sub) q,by simp⟩
 yld:=λi H x H' P1 α1 S hi r e e2 y=>by
  obtain⟨rfl,y⟩:=y;have hx:=y vs (yX (e.trans r.sub) q);obtain⟨v,h1,h2⟩:=t.get (An hi);rw[hx] at h1;cases h1;exact⟨P1,_,An hi,r,qE.refl _,Rep.mono e e2 _ _ h2⟩
 stop:=λi H P1 α1 S hi r e _=>⟨vs,yX (e.trans r.sub) q,by rw[<- t.length];exact hi⟩
theorem sA {pins:Aa (Af × Ci)}{σ:_L.St}{H P:Hp}{α:Aa Af}{s:Ag}{v:V}{d:D}{ds:Aa D}(I:Inv X pins σ H s)(r:Rel X.K H P α S)(rv:qF v vv)(rp:Rep X.K P α d v)(hd:xB d=Ab ds)
  (q:OkI X P α R ds S):Ap (Au X.prog X.w) X.A (Nj vv) (PIE X pins σ tg R) X.xe s:=by
 cases d with
 |tup xs =>
  cases hd;simp only[Rep] at rp;obtain⟨a,vs,rfl,sq,t⟩:=rp;cases rv;obtain⟨its,rv,p,hz⟩:=I.tuple (xW r.sub sq);refine Gn (show s.heap.IsTuple a its.toArray from p) ?_
  refine⟨s.heap.objs.size,[s.heap.objs.size],_,_,H,rfl,I.kept (t':=s.toks) λb o e=>Ah _ e,iX a _,⟨_,Ba _ rfl,rfl,rfl⟩,λb hb=>?_,q _ _ P α r (qE.refl _) (Bl _) (K6 sq t)⟩;have e:b=s.heap.objs.size:=by simpa using hb
  subst e;exact I.fpOk (As _) (I.hok.fresh (As _))
 |lst xs =>
  cases hd;simp only[Rep] at rp;obtain⟨a,vs,rfl,sq,t⟩:=rp;cases rv;obtain⟨its,rv,p,hz⟩:=I.list ((xR r.sub sq).l);refine Gd p.isList ?_;refine⟨s.heap.objs.size,[s.heap.objs.size],_,_,H,rfl,I.kept (t':=s.toks) λb o e=>Ah _ e,lG a _,⟨_,Ba _ rfl,rfl,rfl⟩,λb hb=>?_,q _ _ P α r (qE.refl _) (Bl _) (WO sq.l t)⟩;have e:b=s.heap.objs.size:=by simpa using hb
  subst e;exact I.fpOk (As _) (I.hok.fresh (As _))
 |_=>cases hd
theorem OkI.base {P P1:Hp}{α α1:Aa Af}{ds:Aa D}(e:qE P P1)(h:α<+:α1)(k:OkI X P α R ds S):OkI X P1 α1 R ds S:=λJ H' P' α' r q1 q2 q3=>k J H' P' α' r (e.trans q1) (h.trans q2) q3
theorem FS (ha:PE X e (tD X fa)):PI X tg e (tDI X (vZ fa)):=by
 intro pins s σ H R I h;obtain⟨P,α,env,S,r,re,af⟩:=h;refine thn (zL ha I r re af) λvv s1 ⟨v,H1,P1,α1,d,S1,G1,af1⟩=>?_;obtain⟨ds,e1,q⟩:=yW af1;exact sA G1.inv G1.rel G1.val G1.rep e1 (q.base G1.same G1.pre)
noncomputable def xV (lo:Ak)(n:Ai):Aa D:=(Dd n).map λ(i:Ai)=>D.int (lo+(i:Ak))
theorem kL (lo:Ak)(n:Ai):(xV lo n).length=n:=by simp[xV]
theorem l3 {P:Hp}{α:Aa Af}{lo:Ak}{n:Ai}:ItD K (Itr lo n) P α (xV lo n) where
 go:=λi H P1 α1 S hi r e _=>by rw[kL] at hi;exact hi
 yld:=λi H x H' P1 α1 S hi r e e2 y=>by
  obtain⟨rfl,rfl⟩:=y;rw[kL] at hi;exact⟨P1,.int (lo+i),by simp[xV,hi],r,qE.refl _,by simp only[Rep]⟩
 stop:=λi H P1 α1 S hi r e _=>by rw[kL] at hi;exact hi
noncomputable def kO (ds:Aa D):Am (Aa D):=match ds with
 |[.int j]=>if -(2 ^ 62)<=j/\j<2 ^ 62 then Ab (xV 0 j.toNat) else none
 |[.int i,.int j]=>if -(2 ^ 62)<=i/\i<2 ^ 62 /\ -(2 ^ 62)<=j/\j<2 ^ 62 then Ab (xV i (j-i).toNat) else none
 |_=>none
noncomputable def uY (f:DA):DI:=λenv S=>(f env S).bind λds S1=>yV (kO ds) S1
noncomputable def asI:D->Am Ak
 |.int i=>Ab i
 |_=>none
theorem bD {d:D}{i:Ak}(h:asI d=Ab i):d=.int i:=by
 cases d with
 |int k=>exact congrArg D.int (Cz h)
 |_=>exact nn h
inductive RngV:Aa D->Aa D->Prop
 |one (j:Ak) (h : -(2 ^ 62)<=j/\j<2 ^ 62):RngV [.int j] (xV 0 j.toNat)
 |two (i j:Ak) (h : -(2 ^ 62)<=i/\i<2 ^ 62 /\ -(2 ^ 62)<=j/\j<2 ^ 62):RngV [.int i,.int j] (xV i (j-i).toNat)
theorem RV (d:D):kO [d]=(asI d).bind λj=>if -(2 ^ 62)<=j/\j<2 ^ 62 then Ab (xV 0 j.toNat) else none:=by cases d <;> rfl
theorem UD (d d':D):kO [d,d']=(asI d).bind λi=>(asI d').bind λj=>if -(2 ^ 62)<=i/\i<2 ^ 62 /\ -(2 ^ 62)<=j/\j<2 ^ 62 then Ab (xV i (j-i).toNat) else none:=by
 cases d with
 |int i=>cases d' <;> rfl
 |_=>rfl
theorem PN {ds its:Aa D}(h:kO ds=Ab its):RngV ds its:=by
 cases ds with
 |nil=>exact nn h
 |cons d ds =>
  cases ds with
  |nil =>
   obtain⟨j,e,h⟩:=Er.mp ((RV d).symm.trans h);obtain⟨c,rfl⟩:=uB h;rw[bD e];exact .one j c
  |cons d' ds =>
   cases ds with
   |nil =>
    obtain⟨i,e,h⟩:=Er.mp ((UD d d').symm.trans h);obtain⟨j,e',h⟩:=Er.mp h;obtain⟨c,rfl⟩:=uB h;rw[bD e,bD e'];exact .two i j c
   |cons _ _ =>
    have h0:∀ d'' t,kO (d::d'::d''::t)=none:=λd'' t=>by cases d <;> first|rfl|(cases d' <;> rfl)
    exact nn ((h0 _ _).symm.trans h)
theorem tX {P:Hp}{α:Aa Af}{i:Ak}{ds:Aa D}(r:qB K P α (.int i::ds) vs):∃ ws,vs=.int i::ws/\qB K P α ds ws:=by
 obtain⟨w,ws,rfl,p,t⟩:=r.cons_inv;exact⟨ws,congrArg (· :: ws) (by simpa only [Rep] using p),t⟩
theorem PI.weak {iter:Bt}{t t':TI}(h:PI X tg iter t)(w:∀ σ H R,t' σ H R->t σ H R):PI X tg iter t':=λpins s σ H R I q=>h pins s σ H R I (w σ H R q)
end
section
variable {X:Cx}{tg a b:Bt}{f:DA}{p pos:Eu}
theorem XU {e:Bt}{es:Aa Bt}(hg:Gl X "range")(hm:X.mg "range" = none)(ha:PA X (e::es) (tDA X f))(hs:Bm (e::es) X.env=(false,eval e X.env)::Bm es X.env:=by rfl)(hpl:(Gi pos (Bm es X.env)).any (·.1)=false:=by rfl) :
  PI X tg (.Call (.Name "range" p) (e::es) [] pos) (tDI X (uY f)):=by
 intro pins s σ H R I h;obtain⟨P,α,env,S,r,re,af⟩:=h;refine Call_ (wI I hg hm boot_range (Fu (thn (wY ha I r re af pos) λus s1 ⟨vs,H1,P1,α1,ds,S1,I1,rv,r1,re1,rp,e1,e2,af1⟩=>?_) hs hpl));obtain⟨its,hi,q⟩:=yW af1;cases PN hi with
 |one j c =>
  obtain⟨ws,rfl,t1⟩:=tX rp;cases t1.nil_inv;obtain⟨u,rfl,t,rfl⟩:=kU rv;refine call_range_1 (sX I1 om om c.1 c.2 ?_);have z:=q (Itr 0 j.toNat) H1 P1 α1 r1 e1 e2 l3;rw[Int.sub_zero];exact z
 |two i j c =>
  obtain⟨ws,rfl,t1⟩:=tX rp;obtain⟨ws2,rfl,t2⟩:=tX t1;cases t2.nil_inv;obtain⟨u,u',rfl,⟨t,rfl⟩,t',rfl⟩:=iY rv;exact call_range_2 (sX I1 c.1 c.2.1 c.2.2.1 c.2.2.2 (q (Itr i (j-i).toNat) H1 P1 α1 r1 e1 e2 l3))
noncomputable def vO (g:DG)(f:DS):Aa D->qC->Sto->Out
 |[],env,S=>.nx env S
 |d::ds,env,S=>(g d env S).toS env λenv1 S1=>match f env1 S1 with
  |.nx env2 S2=>vO g f ds env2 S2
  |.ct env2 S2=>vO g f ds env2 S2
  |.bk env2 S2=>.nx env2 S2
  |o=>o
noncomputable def kQ (fi:DI)(g:DG)(f:DS):DS:=λenv S=>(fi env S).toS env λds S1=>vO g f ds env S1
inductive LoopW (X:Cx)(P1:Hp)(α1:Aa Af)(g:DG)(f:DS)(ds:Aa D)(D:Ends)(i m:Ai)(σ : _L.St)(H:Hp):Prop
 |mk (hi:i<=ds.length) (hm:m=ds.length-i) (P2:Hp) (α2:Aa Af) (env2:qC) (S2:Sto) (r:Rel X.K H P2 α2 S2) (re:qY X.K P2 α2 σ env2) (e1:qE P1 P2) (e2:α1<+:α2) (af:qV X P2 α2 (vO g f (ds.drop i) env2 S2) D):LoopW X P1 α1 g f ds D i m σ H
theorem FW {iter:Bt}{fi:DI}{g:DG}{f:DS}(hp:OV (Au X.prog X.w) X.A X.env X.xe)(hc:X.calm=true)(hi:PI X tg iter (tDI X fi))(hg:PG X tg (tDG X g))(hb:PSs X body (tDS X f))
  (hs:∀ x,Dz iter X.env x=pure x:=by intro _;rfl):PS X (.For tg iter body [] pos) (tDS X (kQ fi g f)):=psW (NC hp hc hi hg hb hs) λD σ H ⟨P,α,env,S,r,re,af⟩=>by
 refine⟨P,α,env,S,r,re,?_⟩;have af1:=xH af;cases q:fi env S with
 |bad=>rw[q] at af1;exact af1
 |ex c x S'=>rw[q] at af1;exact af1
 |ok ds S1 =>
  rw[q] at af1;have af2:qV X P α (vO g f ds env S1) D:=af1;intro J H1 P1 α1 r1 e1 e2 it;refine⟨LoopW X P1 α1 g f ds D,
   ⟨ds.length,Gj _,rfl,P1,α1,env,S1,r1,re.mono e1 e2,qE.refl _,Bl _,qV.base e1 e2 af2⟩,?_⟩
  rintro i m σ2 H2 ⟨hi,rfl,P2,α2,env2,S2,r2,re2,e3,e4,af3⟩;by_cases hlt:i<ds.length
  .refine .inr ⟨it.go i H2 P2 α2 S2 hlt r2 e3 e4,LoopW X P1 α1 g f ds D (i+1) (ds.length-(i+1)),λσ' H' w=>⟨_,?_,w⟩,λx H3 y=>?_⟩
   .omega
   .obtain⟨P3,d,hd,r3,e5,rp⟩:=it.yld i H2 x H3 P2 α2 S2 hlt r2 e3 e4 y
    have hdr:ds.drop i=d::ds.drop (i+1):=by
     rw[Hk hlt];rw[An hlt] at hd;rw[Cz hd]
    rw[hdr] at af3;have af4:=xH (qV.base e5 (Bl _) af3);refine⟨P3,α2,env2,S2,d,r3,re2.mono e5 (Bl _),rp,?_⟩;cases q2:g d env2 S2 with
    |bad=>rw[q2] at af4;exact af4
    |ex c x S'=>rw[q2] at af4;exact af4
    |ok env3 S3 =>
     rw[q2] at af4;intro σ4 H4 P4 α4 r4 re4 e6 e7;refine⟨P4,α4,env3,S3,r4,re4,?_⟩;have af5:=qV.base e6 e7 af4;cases q3:f env3 S3 with
     |bad=>simp only[q3] at af5;exact af5
     |ex c x env4 S4=>simp only[q3] at af5;exact af5
     |rt d4 S4=>simp only[q3] at af5;exact af5
     |bk env4 S4=>simp only[q3] at af5;exact af5
     |nx env4 S4 =>
      simp only[q3] at af5;exact λσ5 H5 P5 α5 r5 re5 e8 e9=>⟨hlt,rfl,P5,α5,env4,S4,r5,re5,((e3.trans e5).trans e6).trans e8,(e4.trans e7).trans e9,qV.base e8 e9 af5⟩
     |ct env4 S4 =>
      simp only[q3] at af5;exact λσ5 H5 P5 α5 r5 re5 e8 e9=>⟨hlt,rfl,P5,α5,env4,S4,r5,re5,((e3.trans e5).trans e6).trans e8,(e4.trans e7).trans e9,qV.base e8 e9 af5⟩
  .have hdr:ds.drop i=[]:=Mz om
   rw[hdr] at af3;exact .inl ⟨it.stop i H2 P2 α2 S2 om r2 e3 e4,af3 σ2 H2 P2 α2 r2 re2 (qE.refl _) (Bl _)⟩
end
abbrev DF:=Aa D->Sto->Res D
section
variable {X:Cx}{x:Av}{p pos:Eu}{e:Bt}{es:Aa Bt}{F:DF}{fa:DA}
noncomputable def qU (F:DF)(fa:DA):DE:=λenv S=>(fa env S).bind λds S1=>F ds S1
theorem nN {pins:Aa (Af × Ci)}{s1:Ag}{σ:_L.St}{H1 P P1:Hp}{α α1:Aa Af}{ds:Aa D}{S1:Sto}(hc:yI X u F)(I1:Inv X pins σ H1 s1)(r1:Rel X.K H1 P1 α1 S1)(rv:qI vs us)
  (rp:qB X.K P1 α1 ds vs) (e1:qE P P1) (e2:α<+:α1) (af:qG X P α (F ds S1) (OkV X P α Q)):Ap (Au X.prog X.w) X.A (call u us) (EP X pins σ Q) X.xe s1:=hc pins σ H1 s1 P1 α1 S1 vs us ds Q I1 r1 rv rp (qR.base e1 e2 af)
theorem XM {id:Et}(hc:yI X (.builtin id) F)(hg:Gl X x)(hm:X.mg x=none)(hv:Fm x=Ab (.builtin id))(ha:PA X (e::es) (tDA X fa))(hn:x ≠ "__name__":=by decide)(hdb:(x == ("__debug__" : Av))=false:=by decide)
  (he:Bm (e::es) X.env=(false,eval e X.env)::Bm es X.env:=by rfl) (hpl:(Gi pos (Bm es X.env)).any (·.1)=false:=by rfl):PE X (.Call (.Name x p) (e::es) [] pos) (tD X (qU F fa)):=by
 intro pins s σ H Q I h;obtain⟨P,α,env,S,r,re,af⟩:=h;refine Hr (wI I hg hm hv ?_ hn hdb);exact Hw (thn (wY ha I r re af pos) λus s1 ⟨vs,H1,P1,α1,ds,S1,I1,rv,r1,re1,rp,e1,e2,af1⟩=>nN hc I1 r1 rv rp e1 e2 af1) he hpl
theorem oO {T:Et}(hc:yI X (.type T) F)(hg:Gl X x)(hm:X.mg x=none)(hv:Fm x=Ab (.type T))(ha:PA X (e::es) (tDA X fa))(hn:x ≠ "__name__":=by decide)(hdb:(x == ("__debug__" : Av))=false:=by decide)
  (he:Bm (e::es) X.env=(false,eval e X.env)::Bm es X.env:=by rfl) (hpl:(Gi pos (Bm es X.env)).any (·.1)=false:=by rfl):PE X (.Call (.Name x p) (e::es) [] pos) (tD X (qU F fa)):=by
 intro pins s σ H Q I h;obtain⟨P,α,env,S,r,re,af⟩:=h;refine Hr (wI I hg hm hv ?_ hn hdb);exact Fu (thn (wY ha I r re af pos) λus s1 ⟨vs,H1,P1,α1,ds,S1,I1,rv,r1,re1,rp,e1,e2,af1⟩=>nN hc I1 r1 rv rp e1 e2 af1) he hpl
end
theorem zG.there {P:Be}{w:Bx}{H:Hp}{h:Br}{a:Af}{o:HO}(x:zG P w H h a o):∃ ob,h.get? a=Ab ob:=by
 cases o with
 |lst xs=>obtain⟨_,_,_,_,e⟩:=x;exact⟨_,e⟩
 |tup xs=>obtain⟨_,_,_,ob,e,_⟩:=x;exact⟨_,e⟩
 |dK kvs=>obtain⟨_,_,_,_,o,_,_,e,_⟩:=x;exact⟨_,e⟩
 |dT kvs=>obtain⟨_,_,_,_,o,_,_,e,_⟩:=x;exact⟨_,e⟩
 |set S n=>obtain⟨o,_,_,_,e,_⟩:=x;exact⟨_,e⟩
 |ins C dx fs=>obtain⟨_,_,_,e,_⟩:=x;exact⟨_,e⟩
 |own y=>obtain⟨_,e⟩:=x;exact⟨_,e⟩
 |xd fs=>obtain⟨_,⟨_,_,_,e,_⟩,_⟩:=x;exact⟨_,e⟩
 |rng lo hi=>obtain⟨_,_,_,e⟩:=x;exact⟨_,e⟩
 |frz ob u=>obtain⟨e,_⟩:=x;exact⟨_,e⟩
 |tbl ps=>exact⟨_,show h.get? a=Ab _ from x⟩
 |met f y=>exact⟨_,show h.get? a=Ab _ from x⟩
 |ext φ => obtain⟨_,e,_⟩:=x;exact e
section
variable {X:Cx}{pins:Aa (Af × Ci)}{σ : _L.St}{H:Hp}{s:Ag}{B h':Br}
abbrev Fn1 (X:Cx):Prop:=X.ex=[]/\X.stack=X.env::X.outer/\X.env.frame=Ab X.env.locals
theorem Fn1.mem (F:Fn1 X){b:Af}:b∈frs X.stack↔b=X.env.locals\/b∈X.fs:=by
 rw[F.2.1];unfold frs;rw[Fz,F.2.2];exact Ax
theorem Old.there (I:Inv X pins σ H s)(F:Fn1 X){b:Af}(o:Old X pins H b):∃ ob,s.heap.get? b=Ab ob:=by
 rcases o with⟨o,e⟩|e|⟨p,hp,rfl⟩|⟨x,e⟩
 .exact I.base.there b o e (by rw[F.1];simp)
 .cases q:H b with
  |none=>exact absurd q e
  |some u=>exact zG.there (I.hok b u q)
 .exact⟨_,(I.pin p hp).1⟩
 .obtain⟨v,ob,ho,_⟩:=I.cell x b e
  exact⟨ob,ho⟩
theorem Inv.fly (I:Inv X pins σ H s)(F:Fn1 X)(cv:Cv X pins H B s.heap)(st:B.StaysIn h')(up:s.heap.UpToSlots h'):Inv X pins σ H { s with heap:=h' } /\ Cv X pins H B h':=by
 have kp:∀ b o,s.heap.get? b=Ab o->Old X pins H b->b ∉ frs X.stack->h'.get? b=Ab o:=λb o e q n=>st b o (cv b o e q n);have neL:∀ b o,X.s₀.heap.get? b=Ab o->b≠X.env.locals:=λb o e=>Cq (Bc (Az e) I.ok.above);have nofr:∀ b o,X.s₀.heap.get? b=Ab o->b ∉ X.fs->b ∉ frs X.stack:=λb o e n z=>(F.mem.mp z).elim (neL b o e) n;have nx:∀ b,b ∉ X.ex:=λb=>by rw[F.1];simp
 have frU:∀ b,b∈frs X.stack->∀ o,s.heap.get? b=Ab o->∃ sl,h'.get? b=Ab { o with slots:=sl }:=λb hb o e=>by
  obtain⟨_,o',e',nf⟩:=I.stack.mem hb;rw[e] at e';cases e';exact up b o e nf
 have cellK:∀ x c,X.env.cells.lookup x=Ab c->∀ v,s.heap.IsCell c v->h'.IsCell c v:=λx c e v ⟨o,ho,hd⟩=>by
  obtain⟨sl,q⟩:=up c o ho λvs z=>by rw[hd] at z;cases z
  exact⟨_,q,hd⟩
 refine⟨⟨I.ok,I.os,I.bare,⟨λb o e n hb hx=>?_,λb o e n hb hx=>?_,I.base.free,λb o e hx=>?_,I.base.tups,I.base.frzs,I.base.tbls⟩,?_,λx c e=>?_,I.free,I.freeC,λp hp=>?_,λa o e=>?_,I.len⟩,λb o e q n=>?_⟩
 .exact kp b o (I.base.keep b o e n hb hx) (.inl ⟨o,e⟩) (nofr b o e hb)
 .obtain⟨sl,e1⟩:=I.base.slot b o e n hb hx
  obtain⟨sl',e2⟩:=frU b (F.mem.mpr (.inr hb)) _ e1;exact⟨sl',e2⟩
 .obtain⟨o',e1⟩:=I.base.there b o e hx
  by_cases hb:b∈frs X.stack
  .obtain⟨sl,e2⟩:=frU b hb _ e1
   exact⟨_,e2⟩
  .exact⟨o',kp b o' e1 (.inl ⟨o,e⟩) hb⟩
 .obtain⟨m,hn,hl⟩:=I.loc
  refine⟨m,up.ns hn,λi x v e1 e2 e3=>?_⟩;obtain⟨u,r,l⟩:=hl i x v e1 e2 e3;refine⟨u,r,?_⟩;rcases l with l|⟨k,c,e,z⟩
  .exact .inl l
  .exact .inr ⟨k,c,e,cellK x c e _ z⟩
 .obtain⟨v,z⟩:=I.cell x c e
  exact⟨v,cellK x c e v z⟩
 .obtain⟨e,n,ne,nf,d⟩:=I.pin p hp
  exact⟨kp p.1 p.2 e (.inr (.inr (.inl ⟨p,hp,rfl⟩))) λz=>(F.mem.mp z).elim ne nf,n,ne,nf,d⟩
 .refine(I.hok a o e).stay (λb u hb q=>?_) (λ_ q=>q) λ_ _ q=>q
  have hn:H b≠none:=by
   rcases hb with rfl|hb
   .rw[e];intro z;cases z
   .rw[hb];intro z;cases z
  exact kp b u q (.inr (.inl hn)) λz=>hn (I.stkFree b z)
 .obtain⟨o1,e1⟩:=Old.there I F q
  have e2:=cv b o1 e1 q n;have e3:=st b o1 e2;rw[e] at e3;cases e3;exact e2
theorem MW {c:Ac}{e:Af}{g:Br}{args:Aa Ac}(I:Inv X pins σ H s)(hm:Yx g s.heap e c args)(hf:g.FunFrames X.base X.stack)(hk:∀ b o,s.heap.get? b=Ab o->Old X pins H b->g.get? b=Ab o) :
  (NE g (frs X.stack)).StaysIn g/\g.FunFrames (NE g (frs X.stack)) X.stack/\Cv X pins H (NE g (frs X.stack)) s.heap:=
 ⟨λb o q=>Uy _ q,PySem.W.funFrames_hide hf λenv he a ha=>Lv.mpr ⟨env,he,ha⟩,λb o e q n=>Tq _ (hk b o e q) n⟩
theorem QH {M:Ni}{A:Bv}{E:Ac->Ag->Prop}{c:Ac}{e:Af}{Q:Su->Ag->Prop}(I:Inv X pins σ H s)(F:Fn1 X)(hA:A.frames=Ab X.stack)(f:FlyX X pins H c e s.heap)
  (hQ:∀ h' B a0,Vt B X.outer e c a0 h'->Inv X pins σ H { s with heap:=h' } -> Cv X pins H B h'->Q () { s with heap:=h' }) : Ap M A (leaving X.env (.ref e)) Q E s:=by
 cases f with
 |new g args hm hf hk =>
  obtain⟨k1,k2,k3⟩:=MW I hm hf hk;rw[F.2.1] at hA;refine wpAny_leaves_madeW hA F.2.2 k1 (by rw[<- F.2.1];exact k2) hm λh' t x1 x2 x3 x4=>?_
  obtain⟨I1,cv1⟩:=Inv.fly I F k3 x1.1 x4;exact hQ h' _ _ x1 I1 cv1
 |fly B a0 fl cv =>
  rw[F.2.1] at hA;refine wpAny_leaves_onW hA F.2.2 (by rw[<- F.2.1];exact fl) λh' x1 x2=>?_
  obtain⟨I1,cv1⟩:=Inv.fly I F cv x1.1 x2;exact hQ h' _ _ x1 I1 cv1
end
def CXd (P:Be)(w:Bx):CXT:=λouter H s E u s' =>
 ∃ e c H' B a0,u=.ref e/\s'.os=s.os/\Nh s'.gens/\Un (frs outer) [] H H' s.heap s'.heap/\HOk P w H' s'.heap/\Vt B outer e c a0 s'.heap /\
  (∀ b o,s'.heap.get? b=Ab o->((∃ o,s.heap.get? b=Ab o)\/H' b≠none)->b ∉ frs outer->B.get? b=Ab o)/\E c none H'
section
variable {X:Cx}{pins:Aa (Af × Ci)}{σ : _L.St}{H:Hp}{s s':Ag}
theorem M9 {E:XK}(I:Inv X pins σ H s)(F:Fn1 X)(h:CXd X.prog X.w X.stack H s E u s'):∃ e c H',u=.ref e/\Inv X pins σ H' s'/\FlyX X pins H' c e s'.heap/\E c none H':=by
 obtain⟨e,c,H',B,a0,rfl,os,bare,un,hok,fl,cov,q⟩:=h;have I':Inv X pins σ H' s':=Inv.call' I os un hok bare (ch:=[]) λb z=>absurd z (by simp)
 refine⟨e,c,H',rfl,I',.fly B a0 fl λb o eb old n=>cov b o eb ?_ n,q⟩;rcases old with⟨o,z⟩|z|⟨p,hp,rfl⟩|⟨x,z⟩
 .exact .inl (I.base.there b o z (by rw[F.1];simp))
 .exact .inr z
 .exact .inl ⟨_,(I.pin p hp).1⟩
 .obtain⟨v,ob,ho,_⟩:=I.cell x b z
  exact .inl ⟨ob,ho⟩
end
structure RoomC (cm:Ar)(k:Ai)(A:Bv):Prop where
 hd:cm=true->A.handled=none
 dp:A.depth+3*k+5<O0
 un:A.units+16*k+200<Eg
 gd:A.guards=Ab []
theorem RoomC.mono {cm:Ar}{j k:Ai}{A:Bv}(r:RoomC cm k A)(h:j<=k:=by decide):RoomC cm j A:=⟨r.hd,by have:=r.dp;omega,by have:=r.un;omega,r.gd⟩
theorem RoomC.deeper {cm:Ar}{k:Ai}{A:Bv}(r:RoomC cm (k+1) A)(env:IZ):RoomC cm k (A.deeper env):=
 ⟨r.hd,by have:=r.dp;show A.depth+1+3*k+5<_;omega,by have:=r.un;show A.units+3+16*k+200<_;omega,r.gd⟩
theorem RoomC.depth {cm:Ar}{k:Ai}{A:Bv}(r:RoomC cm k A):A.depth<O0:=by have:=r.dp;omega
theorem RoomC.units {cm:Ar}{k:Ai}{A:Bv}(r:RoomC cm k A):A.units+64<Eg:=by have:=r.un;omega
theorem RoomC.of {k:Ai}{A:Bv}(r:Room k A):RoomC true k A:=⟨λ_=>r.hd,r.dp,r.un,r.gd⟩
theorem RoomC.any {cm:Ar}{k:Ai}{A:Bv}(r:RoomC cm k A):RoomC false k A:=⟨(λz=>nomatch z),r.dp,r.un,r.gd⟩
theorem RoomC.mark {cm:Ar}{k:Ai}{A:Bv}(r:RoomC cm k A)(h:Am Ac):RoomC false k (A.mark h):=⟨(λz=>nomatch z),r.dp,r.un,r.gd⟩
abbrev Cx.re (X:Cx)(A:Bv)(cm:Ar)(E:Ac->Ag->Prop):Cx:={ X with A:=A,calm:=cm,xe:=E }
theorem Inv.re {X:Cx}{pins:Aa (Af × Ci)}{σ:_L.St}{H:Hp}{s:Ag}(I:Inv X pins σ H s)(A:Bv)(cm:Ar)(E:Ac->Ag->Prop)(hf:A.frames=Ab X.stack)(hh:cm=true->A.handled=none):Inv (Cx.re X A cm E) pins σ H s:=
 ⟨⟨I.ok.mod,I.ok.kind,I.ok.glob,I.ok.blt,I.ok.above,I.ok.inj,I.ok.has,I.ok.cab,hh,hf,I.ok.stk,I.ok.exf,I.ok.bs,I.ok.bsz,I.ok.noex,I.ok.exfs,I.ok.funs,I.ok.frf⟩,I.os,I.bare,I.base,I.loc,I.cell,I.free,I.freeC,I.pin,I.hok,I.len⟩
structure FnX (P:Be)(w:Bx)(K:Aj)(mg:Av->Am Ac)(base:Br)(cm:Ar)(k:Ai)(f:Af)(fd:Fh)(ps:Aa Av)(sp:Sp):Prop where
 len:∀ vs H Q E,sp vs H Q E->vs.length=ps.length
 run:∀ (A:Bv) (outer:Aa IZ) (s:Ag) (H:Hp) (args:Args) (us:Aa Ac) (vs:Aa V) (Q:VK) (E:XK),RoomC cm k A->Env0 P w K mg base A outer s H->Nl s fd args (ps.zip us)->qI vs us->sp vs H Q E ->
  IS (Au P w) A (.call (.ref f) args) (CR (CXd P w) outer P w H s Q E) s
theorem FnX.ok {P:Be}{w:Bx}{K:Aj}{mg:Av->Am Ac}{base:Br}{k:Ai}{f:Af}{fd:Fh}{ps:Aa Av}(F:FnX P w K mg base true k f fd ps sp):FnOk P w K mg base (CXd P w) k f fd ps sp:=
 ⟨F.len,λA outer s H args us vs Q E hr=>F.run A outer s H args us vs Q E (.of hr)⟩
theorem FnX.any {P:Be}{w:Bx}{K:Aj}{mg:Av->Am Ac}{base:Br}{cm:Ar}{k:Ai}{f:Af}{fd:Fh}{ps:Aa Av}(F:FnX P w K mg base false k f fd ps sp):FnX P w K mg base cm k f fd ps sp:=
 ⟨F.len,λA outer s H args us vs Q E hr=>F.run A outer s H args us vs Q E hr.any⟩
theorem FnX.imp {P:Be}{w:Bx}{K:Aj}{mg:Av->Am Ac}{base:Br}{cm:Ar}{k:Ai}{f:Af}{fd:Fh}{ps:Aa Av}{sp':Sp}(F:FnX P w K mg base cm k f fd ps sp)
  (h:∀ vs H Q E,sp' vs H Q E->sp vs H Q E):FnX P w K mg base cm k f fd ps sp':=
 ⟨λvs H Q E q=>F.len vs H Q E (h _ _ _ _ q),λA outer s H args us vs Q E hr he hb hv hs=>F.run A outer s H args us vs Q E hr he hb hv (h _ _ _ _ hs)⟩
noncomputable def cxC (cm:Ar)(P:Be)(w:Bx)(K:Aj)(mg:Av->Am Ac)(base:Br)(N:Aa Av)(qual:Av)(scope:Eo)(f:Af)(cd:Ac)(A:Bv)(outer:Aa IZ)(s:Ag)(H:Hp)(E:XK):Cx where
 prog:=P
 w:=w
 K:=K
 mg:=mg
 base:=base
 A:=A.deeper (Gq qual scope s.heap.objs.size f cd)
 N:=N
 s₀:=s
 H₀:=H
 env:=Gq qual scope s.heap.objs.size f cd
 outer:=outer
 stack:=Gq qual scope s.heap.objs.size f cd::outer
 ex:=[]
 calm:=cm
 fn:=λ_=>true
 pn:=[]
 xe:=λe s'=>Ap (Au P w) (A.deeper (Gq qual scope s.heap.objs.size f cd)) (leaving (Gq qual scope s.heap.objs.size f cd) e) (λ_ s''=>CXd P w outer H s E e s'') (λe' s''=>CXd P w outer H s E e' s'') s'
section
variable {P:Be}{w:Bx}{K:Aj}{mg:Av->Am Ac}{base:Br}{cm:Ar}{N:Aa Av}{qual:Av}{scope:Eo}{f:Af}{cd:Ac}{A:Bv}{outer:Aa IZ}{s:Ag}{H:Hp}{E:XK}
theorem XG:OV (Au P w) (A.deeper (Gq qual scope s.heap.objs.size f cd)) (Gq qual scope s.heap.objs.size f cd) (cxC cm P w K mg base N qual scope f cd A outer s H E).xe:=PassesOwn.leaving (Q₁:=λe s''=>CXd P w outer H s E e s'')
abbrev xeL (P:Be)(w:Bx)(A:Bv)(env:IZ)(outer:Aa IZ)(H:Hp)(s:Ag)(E:XK):Ac->Ag->Prop:=λe s'=>Ap (Au P w) (A.deeper env) (leaving env e) (λ_ s''=>CXd P w outer H s E e s'') (λe' s''=>CXd P w outer H s E e' s'') s'
theorem XH {X:Cx}{P0:Hp}{α:Aa Af}{c:Ac}{x:D}{s':Ag}(hA:X.A=A.deeper X.env)(k:XOk X P0 α c x S u s')
  (q:∀ H' P' α',Rel X.K H' P' α' S->qE P0 P'->α<+:α'->E c none H'):xeL X.prog X.w A X.env X.outer X.H₀ X.s₀ E u s':=by
 obtain⟨e,pins,σ,H1,P1,α1,rfl,I,r,e1,e2,F,fl⟩:=k;unfold xeL;rw[<- hA];refine QH I F I.ok.frames fl λh' B a0 x1 I1 cv=>?_;refine⟨e,c,H1,B,a0,rfl,I1.os,I1.bare,by have z:=I1.base;rw[F.1] at z;exact z,I1.hok,x1,λb o eb hb n=>cv b o eb ?_ λz=>?_,q H1 P1 α1 r e1 e2⟩
 .rcases hb with z|z
  .exact .inl z
  .exact .inr (.inl z)
 .rcases (Fn1.mem F).mp z with z|z
  .subst z
   rcases hb with⟨o',e'⟩|z
   .exact absurd (Az e') (Na.mpr I1.ok.above)
   .exact z I1.free
  .exact n z
theorem aW {ps:Aa Av}{s1:Ag}(S:FnScope N ps scope)(hd:cm=true->A.handled=none)(e0:Env0 P w K mg base A outer s H)(hl:vs.length=ps.length)(r:qI vs us)
  (x:InCallC s s.heap.objs.size (Tw (Gq qual scope s.heap.objs.size f cd).kindOf (ps.zip us) λ_=>none) (Hj (s.heap.objs.size+1) scope.names []) (Tx (Gq qual scope s.heap.objs.size f cd).kindOf (ps.zip us) λ_=>none) s1) :
  Inv (cxC cm P w K mg base N qual scope f cd A outer s H E) [] (_L.xQ N vs) H s1:=by
 have I:=l0 (CX:=CXd P w) (E:=E) (A:={ A with handled:=none }) S rfl ⟨e0.frames,e0.mod,e0.bs,e0.bsz,e0.funs,e0.frf,e0.hok,e0.bare⟩ hl r x
 have J:=Inv.re I (A.deeper (Gq qual scope s.heap.objs.size f cd)) cm (cxC cm P w K mg base N qual scope f cd A outer s H E).xe (Tg e0.frames) hd;exact J
end
theorem MB {P:Be}{w:Bx}{K:Aj}{mg:Av->Am Ac}{base:Br}{cm:Ar}{k:Ai}{f:Af}{qual:Av}{params:Sb}{scope:Eo}{oc:Ac}{an:Am Af}{osl:Ay (Am Ac)}{x:Av}{kV doc pm cdv ct:Ac}{N ps:Aa Av}
  {A:Bv} {outer:Aa IZ} {s:Ag} {H:Hp} {args:Args} {us:Aa Ac} {vs:Aa V} {Q:VK} {E:XK} (lk:K.lookup f=Ab ⟨oc,od,.func (Gg x qual params body scope .none kV doc pm an cdv ct),osl⟩) (hcd:Kj K cdv qual=true) (S:FnScope N ps scope) (hl:vs.length=ps.length) (hr:RoomC cm (k+1) A)
  (e0:Env0 P w K mg base A outer s H) (hb:Nl s (Gg x qual params body scope .none kV doc pm an cdv ct) args (ps.zip us)) (r:qI vs us)
  (hbody:∃ t,PSs (cxC cm P w K mg base N qual scope f cdv A outer s H E) body t/\t { nx:=λ_ H'=>Q .non H',rt:=Q } (_L.xQ N vs) H) :
  IS (Au P w) A (.call (.ref f) args) (CR (CXd P w) outer P w H s Q E) s:=by
 have KX:K.In s.heap:=e0.mod.kin.keeps λb o e=>(e0.bs b o e).1;have lim:s.heap.NoLimit:=e0.mod.nolimit.keeps λb o e=>(e0.bs b o e).1;have hkind:∀ y∈ps.zip us,scope.names.lookup y.1=Ab .local \/ (scope.names.lookup y.1=Ab .cell/\((Hj (s.heap.objs.size+1) scope.names []).lookup y.1).isSome=true):=λ⟨n,v⟩ hy=>by
  rcases S.par n (Ob hy).1 with q|q
  .exact .inl q
  .exact .inr ⟨q,Jo _ _ _ (.inl q)⟩
 refine Sc hr.depth (KX _ _ lk) rfl S.co S.gen rfl (Va KX hcd) (hb _ _ _ _ ?_);refine OJ S.kind hkind λenv he s1 x=>?_;subst he;refine⟨lim.keeps x.toInCall.keep,codeAny_func ?_⟩;obtain⟨t,ht,hq⟩:=hbody;have I:Inv (cxC cm P w K mg base N qual scope f cdv A outer s H E) [] (_L.xQ N vs) H s1:=aW S hr.hd e0 hl r x;refine II (ht [] s1 (_L.xQ N vs) H _ I hq) (λfl s' hs=>?_) λe s' hs=>hs;have fin:∀ {σ' : _L.St} {H':Hp} {v:V} {u:Ac},Inv (cxC cm P w K mg base N qual scope f cdv A outer s H E) [] σ' H' s'->qF v u->Q v H'->CE outer P w H s Q u s':=
  λ{σ' H' v u} J rv q=>⟨v,H',J.os,J.bare,J.base,J.hok,rv,q⟩
 cases fl with
 |ret u =>
  obtain⟨v,σ',H',J,rv,q⟩:=hs;exact fin J rv q
 |next =>
  obtain⟨σ',H',J,q⟩:=hs;exact fin (v:=V.non) (u:=Dn) J rfl q
 |brk =>
  obtain⟨_,_,_,q⟩:=hs;exact Aq q
 |cont =>
  obtain⟨_,_,_,q⟩:=hs;exact Aq q
def bB (K:Aj)(x:Av)(cdv:Ac):Prop:=∀ c T,El K x=Ab (c,T)->cdv=.ref c
theorem MA {P:Be}{w:Bx}{K:Aj}{mg:Av->Am Ac}{base:Br}{cm:Ar}{k:Ai}{f:Af}{x qual:Av}{st:Fx}{fd:Fh}{N ps:Aa Av}(F:Fun K x qual st f fd)(S:FnScope N ps (qK st))
  (len:∀ vs H Q E,sp vs H Q E->vs.length=ps.length)
  (hbody:∀ (cdv:Ac) (A:Bv) (outer:Aa IZ) (s:Ag) (H:Hp) (vs:Aa V) (Q:VK) (E:XK),fd.code=cdv/\Mod K mg base->RoomC cm k (A.deeper (Gq qual (qK st) s.heap.objs.size f cdv))->sp vs H Q E ->
   ∃ t,PSs (cxC cm P w K mg base N qual (qK st) f cdv A outer s H E) (zQ st) t/\t { nx:=λ_ H'=>Q .non H',rt:=Q } (_L.xQ N vs) H) :
  FnX P w K mg base cm (k+1) f fd ps sp:=by
 obtain⟨oc,od,kV,doc,pm,an,cdv,ct,osl,rfl,lk,hcd⟩:=F.ex;exact⟨len,λA outer s H args us vs Q E hr e0 hb r hsp=>MB lk hcd S (len _ _ _ _ hsp) hr e0 hb r (hbody cdv A outer s H vs Q E ⟨rfl,e0.mod⟩ (hr.deeper _) hsp)⟩
noncomputable def vE (n:Ai)(ds:Aa D):qC:=ds.map Ab++Yw (n-ds.length) none
noncomputable def HS:Out->Res D
 |.rt d S=>.ok d S
 |.nx _ S=>.ok .non S
 |.ex c x _ S=>.ex c x S
 |_=>.bad
noncomputable def qQ (n:Ai)(g:DS):DF:=λds S=>HS (g (vE n ds) S)
def spR (K:Aj)(P:Hp)(α : Aa Af)(R:Res D)(Q:VK)(E:XK):Prop:=match R with
 |.ok d S'=>∀ v H' P' α',Rel K H' P' α' S'->qE P P'->α<+:α'->Rep K P' α' d v->Q v H'
 |.ex c _ S'=>∀ H' P' α',Rel K H' P' α' S'->qE P P'->α<+:α'->E c none H'
 |.bad=>Fd
def spD (K:Aj)(n:Ai)(F:DF):Sp:=λvs H Q E=>vs.length=n/\∃ P α ds S,Rel K H P α S/\qB K P α ds vs/\spR K P α (F ds S) Q E
theorem iM {K:Aj}{P:Hp}{α:Aa Af}{N:Aa Av}{ds:Aa D}(r:qB K P α ds vs):qY K P α (_L.xQ N vs) (vE N.length ds):=by
 refine⟨by simp[vE,_L.xQ,r.length],λi d e=>?_⟩
 unfold vE at e;unfold _L.xQ;by_cases hi:i<ds.length
 .rw[Bo (by simpa using hi),Du] at e
  rw[Bo (by rw[Ao,<- r.length];exact hi),Du]
  cases q:ds[i]? with
  |none=>rw[q] at e;cases e
  |some d' =>
   rw[q] at e;cases e;obtain⟨v,h1,h2⟩:=r.get q;exact⟨v,by rw[h1];rfl,h2⟩
 .rw[Dc (by simpa using hi),Qq] at e
  split at e <;> cases e
section
variable {P:Be}{w:Bx}{K:Aj}{mg:Av->Am Ac}{base:Br}{cm:Ar}
theorem X7 {qual:Av}{scope:Eo}{f:Af}{cdv:Ac}{A:Bv}{outer:Aa IZ}{s:Ag}{H P':Hp}{E:XK}{N:Aa Av}{g:DS}{α:Aa Af}{ds:Aa D}{S':Sto}(hb:PSs (cxC cm P w K mg base N qual scope f cdv A outer s H E) body (tDS (cxC cm P w K mg base N qual scope f cdv A outer s H E) g))
  (r:Rel K H P' α S') (rp:qB K P' α ds vs) (af:spR K P' α (qQ N.length g ds S') Q E):∃ t,PSs (cxC cm P w K mg base N qual scope f cdv A outer s H E) body t/\t { nx:=λ_ H'=>Q .non H',rt:=Q } (_L.xQ N vs) H:=by
 refine⟨_,hb,P',α,vE N.length ds,S',r,iM rp,?_⟩;unfold qQ at af;cases q:g (vE N.length ds) S' with
 |rt d S1=>rw[q] at af;exact λv H' P1 α1 r1 e1 e2 p1=>af v H' P1 α1 r1 e1 e2 p1
 |nx env S1=>rw[q] at af;exact λσ' H' P1 α1 r1 re1 e1 e2=>af .non H' P1 α1 r1 e1 e2 (by simp only[Rep])
 |bk env S1=>rw[q] at af;exact Aq af
 |ct env S1=>rw[q] at af;exact Aq af
 |ex c x env S1=>rw[q] at af;exact λu s' z=>XH (A:=A) rfl z λH' P1 α1 r1 e1 e2=>af H' P1 α1 r1 e1 e2
 |bad=>rw[q] at af;exact Aq af
theorem fnX {x qual:Av}{st:Fx}{f:Af}{fd:Fh}{N ps:Aa Av}{k:Ai}{g:DS}(F:Fun K x qual st f fd)(S:FnScope N ps (qK st))
  (hbody:∀ (cdv:Ac) (A:Bv) (outer:Aa IZ) (s:Ag) (H:Hp) (E:XK),fd.code=cdv/\Mod K mg base->RoomC cm k (A.deeper (Gq qual (qK st) s.heap.objs.size f cdv)) ->
   PSs (cxC cm P w K mg base N qual (qK st) f cdv A outer s H E) (zQ st) (tDS (cxC cm P w K mg base N qual (qK st) f cdv A outer s H E) g)) :
  FnX P w K mg base cm (k+1) f fd ps (spD K ps.length (qQ N.length g)):=by
 refine MA F S (λvs H Q E h=>h.1) λcdv A outer s H vs Q E hc hr h=>?_;obtain⟨hl,P',α,ds,S',r,rp,af⟩:=h;exact X7 (hbody cdv A outer s H E hc hr) r rp af
theorem FnX.eq {k:Ai}{f:Af}{fd:Fh}{ps:Aa Av}{n:Ai}{F G:DF}(h:FnX P w K mg base cm k f fd ps (spD K n F))(e:∀ ds S,ds.length=n->G ds S≠.bad->F ds S=G ds S):FnX P w K mg base cm k f fd ps (spD K n G):=by
 refine h.imp λvs H Q E ⟨hl,P',α,ds,S,r,rp,af⟩=>⟨hl,P',α,ds,S,r,rp,?_⟩;have hd:ds.length=n:=by rw[rp.length];exact hl
 cases q:G ds S with
 |ok d S'=>rw[e ds S hd (by rw[q];intro z;cases z)];exact af
 |ex c x S'=>rw[e ds S hd (by rw[q];intro z;cases z)];exact af
 |bad=>rw[q] at af;exact Aq af
end
section
variable {X:Cx}{cm:Ar}{k:Ai}{f:Af}{fd:Fh}{ps:Aa Av}{F:DF}{x:Av}{p pos:Eu}{e:Bt}{es:Aa Bt}{fa:DA}{n:Ai}
noncomputable def qH (n:Ai)(F:DF)(fa:DA):DE:=λenv S=>(fa env S).bind λds S1=>if ds.length=n then F ds S1 else .bad
def EX (X:Cx)(P:Hp)(α : Aa Af)(R:Res D):XK:=λc _ H'=>match R with
 |.ex c' _ S'=>c=c'/\∃ P' α',Rel X.K H' P' α' S'/\qE P P'/\α<+:α'
 |_=>Fd
theorem LQ {P:Hp}{α:Aa Af}{R:Res D}(af:qR X P α R Q):spR X.K P α R Q (EX X P α R):=by
 cases R with
 |ok d S'=>exact af
 |ex c x S'=>exact λH' P' α' r' e1 e2=>⟨rfl,P',α',r',e1,e2⟩
 |bad=>exact af
theorem X9 {pins:Aa (Af × Ci)}{σ:_L.St}{H:Hp}{s:Ag}{P:Hp}{α:Aa Af}{R:Res D}(hF:(∃ c x S',R=.ex c x S')->Fn1 X)(I:Inv X pins σ H s)(af:qR X P α R Q)
  (h:IS (Au X.prog X.w) X.A (.call u ⟨us,[]⟩) (CR (CXd X.prog X.w) X.stack X.prog X.w H s Q (EX X P α R)) s):Ap (Au X.prog X.w) X.A (call u us) (EP X pins σ Q) X.xe s:=by
 refine Uc (IJ h λr s' hq=>?_);cases r with
 |error u =>
  have hq:CXd X.prog X.w X.stack H s (EX X P α R) u s':=hq;cases R with
  |ok d S'=>obtain⟨_,_,_,_,_,_,_,_,_,_,_,_,q⟩:=hq;exact Aq q
  |bad=>exact Aq af
  |ex c' x' S' =>
   have hG:=hF ⟨_,_,_,rfl⟩;obtain⟨a,c,H',rfl,I',fl,rfl,P',α',r',e1,e2⟩:=M9 I hG hq;exact af _ _ ⟨a,pins,σ,H',P',α',rfl,I',r',e1,e2,hG,fl⟩
 |ok fl =>
  cases fl with
  |ret u=>exact I.after hq
  |next=>exact Aq hq
  |brk=>exact Aq hq
  |cont=>exact Aq hq
theorem PR {pins:Aa (Af × Ci)}{σ:_L.St}{H:Hp}{s:Ag}{P:Hp}{α:Aa Af}{ds:Aa D}(G:FnX X.prog X.w X.K X.mg X.base cm k f fd ps (spD X.K n F))(hr:RoomC cm k X.A)(hb:vL X.K fd ps [])(hF:Fn1 X)
  (I:Inv X pins σ H s) (r:Rel X.K H P α S) (rv:qI vs us) (rp:qB X.K P α ds vs) (hn:ds.length=n) (af:qR X P α (F ds S) Q):Ap (Au X.prog X.w) X.A (call (.ref f) us) (EP X pins σ Q) X.xe s:=by
 have hsp:spD X.K n F vs H Q (EX X P α (F ds S)):=⟨by rw[<- rp.length];exact hn,P,α,ds,S,r,rp,LQ af⟩
 have hl:us.length=ps.length:=by rw[<- rv.length];exact G.len _ _ _ _ hsp
 have hb':=hb s us I.kIn (by rw[Gz];exact hl)
 rw[Gz] at hb';exact X9 (λ_=>hF) I af (G.run X.A X.stack s H ⟨us,[]⟩ us vs Q _ hr I.env0 hb' rv hsp)
theorem nR {env:qC}{S S1:Sto}{P:Hp}{α:Aa Af}{ds:Aa D}{Ok:D->Sto->Prop}(h:qG X P α (if ds.length=n then F ds S1 else .bad) Ok):ds.length=n/\qG X P α (F ds S1) Ok:=by
 by_cases hn:ds.length=n
 .rw[Bp hn] at h;exact⟨hn,h⟩
 .rw[Bj hn] at h;exact Aq h
theorem UZ (G:FnX X.prog X.w X.K X.mg X.base cm k f fd ps (spD X.K n F))(hr:RoomC cm k X.A)(hF:Fn1 X)(hg:Gl X x)(hm:X.mg x=Ab (.ref f))(hk:Gh X.K (.ref f)=true)(hb:vL X.K fd ps [])
  (ha:PA X (e::es) (tDA X fa)) (hdb:(x == ("__debug__" : Av))=false:=by decide) (he:Bm (e::es) X.env=(false,eval e X.env)::Bm es X.env:=by rfl) (hpl:(Gi pos (Bm es X.env)).any (·.1)=false:=by rfl) :
  PE X (.Call (.Name x p) (e::es) [] pos) (tD X (qH n F fa)):=by
 intro pins s σ H Q I h;obtain⟨P,α,env,S,r,re,af⟩:=h;refine Hr (pM I hg hm ?_ hdb);refine Ve (h₀:=X.base) I.ok.mod.kin hk (thn (wY ha I r re af pos) λus s1 ⟨vs,H1,P1,α1,ds,S1,I1,rv,r1,re1,rp,e1,e2,af1⟩=>⟨I1.kIn,?_⟩) he hpl;obtain⟨hn,af2⟩:=nR (env:=env) (S:=S) af1;exact PR G hr hb hF I1 r1 rv rp hn (qR.base e1 e2 af2)
end
noncomputable abbrev d8:Aa Ac:=[.type "ValueError",.type "Exception",.type "BaseException",.type "object"]
noncomputable def SM:Ac->Ar
 |.str _ _=>true
 |_=>false
noncomputable def jJ (K:Aj)(N:Af):Ar:=(match No N K with
 |some o=>match o.data with
  |.dict es _=>es.toList.all λe=>SM e.key
  |_=>false
 |none=>false)&&decide (Es K N "__init__" = Ab none)
theorem wV {K:Aj}{N:Af}(h:jJ K N=true):Yy K N=true/\Es K N "__init__" = Ab none:=by
 unfold jJ at h;rw[Bi,Cb] at h;refine⟨?_,h.2⟩;have h1:=h.1;unfold Yy;cases e:No N K with
 |none=>rw[e] at h1;cases h1
 |some o =>
  rw[e] at h1;obtain⟨oc,od,dt,sl⟩:=o;cases dt with
  |dict es ep =>
   simp only at h1 ⊢;rw[Array.all_toList] at h1;refine Eq.trans (congrArg (λf=>Array.all es f) (funext λe=>?_)) h1;cases e.key <;> rfl
  |_=>cases h1
noncomputable def lW (K:Aj)(C:Af)(f:Ac->Wm->Ay (Am Ac)->Ar):Ar:=match No C K with
 |some o=>(match o.data with|.cls cd=>f o.cls cd o.slots|_=>false)
 |none=>false
theorem sN {K:Aj}{f:Ac->Wm->Ay (Am Ac)->Ar}(h:lW K C f=true):∃ oc od cd sl,No C K=Ab ⟨oc,od,.cls cd,sl⟩/\f oc cd sl=true:=by
 unfold lW at h;cases e:No C K with
 |none=>rw[e] at h;exact Ee h
 |some o =>
  rw[e] at h;obtain⟨oc,od,dt,sl⟩:=o;cases dt with
  |cls cd=>exact⟨oc,od,cd,sl,rfl,h⟩
  |_=>exact Ee h
noncomputable def bH (K:Aj)(C A:Af):Ar:=lW K C λoc cd sl=>lW K A λ_ ca _=>decide (oc=.type "type")&&(decide (cd.mro=.ref C::.ref A::d8)&&(!cd.hasDel&&(jJ K cd.ns&&(jJ K ca.ns&&(decide (sl.toList.length=6)&&decide (sl.toList[4]? = Ab (Ab (.builtin "ValueError.__new__"))))))))
inductive ExcO (h:Br)(C:Af):Prop
 |mk (nm q:Av) (N:Af) (bs bm:Aa Ac) (hdct:Ar) (sn:Aa Av) (sub:Aa Ac) (ab:Ar) (col:Am Ar) (dd:Am Af) (k0 k1 k2 k3 k5:Am Ac) (mN:Av->Am Ac) (hC:h.get? C=Ab (excClassObj nm q C N bs bm hdct sn sub ab col dd k0 k1 k2 k3 k5 "ValueError.__new__")) (hN:h.Ns N mN) (hni:mN "__init__" = none) (T:OwnTail h d8 bm):ExcO h C
theorem tR {β:Type}{l:Aa β}{n:Ai}(h:l.length=n+1):∃ a t,l=a::t/\t.length=n:=by
 cases l with
 |nil=>exact Nat.noConfusion h
 |cons a t=>exact⟨a,t,rfl,Nat.succ.inj h⟩
theorem six {β:Type}{l:Aa β}(h:l.length=6):∃ a b c d e f,l=[a,b,c,d,e,f]:=by
 obtain⟨a,t,e1,h⟩:=tR h;obtain⟨b,t2,e2,h⟩:=tR h;obtain⟨c,t3,e3,h⟩:=tR h;obtain⟨d,t4,e4,h⟩:=tR h;obtain⟨e,t5,e5,h⟩:=tR h;obtain⟨f,t6,e6,h⟩:=tR h;exact⟨a,b,c,d,e,f,by rw[e1,e2,e3,e4,e5,e6,Md.mp h]⟩
theorem T9 {cd:Wm}{tl:Aa Ac}{k0 k1 k2 k3 k4 k5:Am Ac}{n:Et}(hm:cd.mro=.ref C::tl)(hd:cd.hasDel=false)(hs:sl.toList=[k0,k1,k2,k3,k4,k5])(hn:sl.toList[4]? = Ab (Ab (.builtin n))) :
  (⟨.type "type",od,.cls cd,sl⟩:Ci)=excClassObj cd.name cd.qualname C cd.ns cd.bases tl cd.hasDict cd.slotNames cd.subclasses cd.abstract cd.collection od k0 k1 k2 k3 k5 n:=by
 rw[hs] at hn;cases hn;cases cd;cases sl;cases hm;cases hd;cases hs;rfl
theorem JQ {K:Aj}{h:Br}{A:Af}{cd:Wm}(KI:K.In h)(e:No C K=Ab ⟨.type "type",od,.cls cd,sl⟩)(h2:cd.mro=.ref C::.ref A::d8)(h3:cd.hasDel=false)(h4:jJ K cd.ns=true)(h6:sl.toList.length=6)(h7:sl.toList[4]? = Ab (Ab (.builtin "ValueError.__new__")))(T:OwnTail h d8 (.ref A::d8)):ExcO h C:=by
 obtain⟨k0,k1,k2,k3,x,k5,es⟩:=six h6;exact⟨_,_,_,_,_,_,_,_,_,_,_,k0,k1,k2,k3,k5,_,(KI _ _ e).trans (congrArg Ab (T9 h2 h3 es h7)),.of_isNs (Vf KI (wV h4).1),Ps KI (wV h4).1 (wV h4).2,T⟩
theorem JR {K:Aj}{h:Br}{A:Af}(KI:K.In h)(z:bH K C A=true):ExcO h C:=by
 obtain⟨oc,od,cd,sl,e,z⟩:=sN z;obtain⟨qc,qd,ca,ql,e2,z⟩:=sN z;have a1:=Fy.mp z;have a2:=Fy.mp a1.2;have a3:=Fy.mp a2.2;have a4:=Fy.mp a3.2;have a5:=Fy.mp a4.2;have a6:=Fy.mp a5.2;rw[Cf a1.1] at e;exact JQ KI e (Cf a2.1) (Mr _▸a3.1) a4.1 (Cf a6.1) (Cf a6.2) (.own (KI _ _ e2) (.of_isNs (Vf KI (wV a5.1).1)) (Ps KI (wV a5.1).1 (wV a5.1).2) .base)
section
variable {X:Cx}{pos:Eu}{fa:DA}
noncomputable def jK (c:Ac)(fa:DA):DS:=λenv S=>(fa env S).toS env λds S1=>if ds.length<=lim then .ex c .non env S1 else .bad
inductive GotAS (X:Cx)(pins:Aa (Af × Ci))(σ : _L.St)(env:qC)(P:Hp)(α : Aa Af)(us:Aa Ac)(s1:Ag)(k:Aa D->Sto->Out)(E:Ends):Prop
 |mk (vs:Aa V) (H1 P1:Hp) (α1:Aa Af) (ds:Aa D) (S1:Sto) (I:Inv X pins σ H1 s1) (rv:qI vs us) (r:Rel X.K H1 P1 α1 S1) (re:qY X.K P1 α1 σ env) (rp:qB X.K P1 α1 ds vs) (e1:qE P P1) (e2:α<+:α1) (q:qV X P1 α1 (k ds S1) E):GotAS X pins σ env P α us s1 k E
theorem UW {es:Aa Bt}{k:Aa D->Sto->Out}{pins:Aa (Af × Ci)}{s:Ag}{σ:_L.St}{H P:Hp}{α:Aa Af}{env:qC}{D:Ends}(he:PA X es (tDA X fa))(I:Inv X pins σ H s)(r:Rel X.K H P α S)
  (re:qY X.K P α σ env) (af:qV X P α ((fa env S).toS env k) D) (pos:Eu) :
  Ap (Au X.prog X.w) X.A (spliced (Gi pos (Bm es X.env))) (λus s1=>GotAS X pins σ env P α us s1 k D) X.xe s:=by
 have af1:qG X P α ((fa env S).bind λd S=>.ok d S) λd S=>qV X P α (k d S) D:=by
  have:=xH af;cases q:fa env S <;> rw[q] at this <;> exact this
 exact thn (wY he I r re af1 pos) λu s1 ⟨vs,H1,P1,α1,ds,S1,I1,rv,r1,re1,rp,e1,e2,q⟩=>⟨vs,H1,P1,α1,ds,S1,I1,rv,r1,re1,rp,e1,e2,qV.base e1 e2 q⟩
theorem XZ {x:Av}{Ae:Af}{e₀:Bt}{qJ:Aa Bt}{np cpos:Eu}(hc:X.calm=true)(hF:Fn1 X)(hg:Gl X x)(hm:X.mg x=Ab (.ref C))(hx:bH X.K C Ae=true)(ha:PA X (e₀::qJ) (tDA X fa))
  (hdb:(x == ("__debug__" : Av))=false:=by decide) (he:Bm (e₀::qJ) X.env=(false,eval e₀ X.env)::Bm qJ X.env:=by rfl) (hpl:(Gi cpos (Bm qJ X.env)).any (·.1)=false:=by rfl) :
  PS X (.Raise (Ab (.Call (.Name x np) (e₀::qJ) [] cpos)) none pos) (tDS X (jK (.ref C) fa)):=by
 intro pins s σ H D I h;obtain⟨P,α,env,S,r,re,af⟩:=h;obtain⟨nm,qn,N,bs,tl,hdct,sn,sub,ab,col,dd,k0,k1,k2,k3,k5,mN,hC,hN,hni,T⟩:=JR I.mod.kin hx;refine wpAny_Raise_call_subT (C:=C) (nm:=nm) (q:=qn) (N:=N) (bs:=bs) (bm:=tl) (hdct:=hdct) (sn:=sn) (sub:=sub) (ab:=ab) (col:=col) (dd:=dd) (k0:=k0) (k1:=k1) (k2:=k2) (k3:=k3) (k5:=k5)
  OL (mN:=mN) (T.hasType OL.hasBase) (I.ok.hd hc) (by rw[he];show (false||(Gi cpos (Bm qJ X.env)).any (·.1))=false;rw[hpl];rfl) hni (pM I hg hm ⟨rfl,?_⟩ hdb)
 have run:=UW ha I r re af cpos;rw[he] at run ⊢;refine Tj (thn run λus s2 ⟨vs,H1,P1,α1,ds,S1,I1,rv,r1,re1,rp,e1,e2,q⟩=>?_);have hl:us.length=ds.length:=by rw[rp.length,rv.length]
 by_cases hz:ds.length<=lim
 .rw[Bp hz] at q
  refine⟨rfl,by rw[hl,<- zV];exact hz,I1.bk _ _ hC,hN.keeps I1.bk,T.keeps I1.bk,λh' e hm=>q _ _ ⟨e,pins,σ,H1,P1,α1,rfl,I1.kept (t':=s2.toks) hm.keeps,r1,qE.refl _,Bl _,hF,.new s2.heap us hm I1.stack λb o eb old=>?_⟩⟩
  obtain⟨o1,q1⟩:=Old.there I1 hF old;have q2:=hm.keeps b o1 q1;rw[eb] at q2;cases q2;exact q1
 .rw[Bj hz] at q;exact Aq q
end
abbrev Cx.tryIn (X:Cx)(E:Ac->Ag->Prop)(pn:Aa (Af × Ci)):Cx:={ X with xe:=E,pn:=pn }
end _D
namespace _D
open PySem PySem.Spec PyProof.Rows _L PySem.W
structure ExnK (K:Aj)(C:Af):Prop where
 ga:findIn K (.ref C) "__getattribute__" = Ab (Ab (.builtin "BaseException.__getattribute__"))
 hk:findIn K (.ref C) "__getattr__" = Ab none
 cl:findIn K (.ref C) "__class__" = Ab (Ab (.builtin "object.__class__"))
 sp:specialIn K (.builtin "object.__class__") "__get__" = Ab (Ab (.builtin "getset_descriptor.__get__"))
 tk:takesIn K (.builtin "object.__class__")=Ab true
 mo:mroIn K C (.type "object")=Ab true
 mb:mroIn K C (.type "BaseException")=Ab true
 isC:(clsIn K C).isSome=true
section
variable {prog:Be}{w:Bx}{A:Bv}{E:Ac->Ag->Prop}{s:Ag}{K:Aj}{x C:Af}
abbrev VF (x C:Af)(h:Br):Prop:=∃ ob,h.get? x=Ab ob/\ob.cls=.ref C
theorem VF.type {M:Ni}{h:Br}(I:VF x C h):Looks M h (typeOf (.ref x)) (.ref C):=by
 obtain⟨ob,e,c⟩:=I;rw[<- c];exact(Looks.ld e).andThen .now
end
end _D
namespace _D
open PySem PySem.Spec PyProof.Rows _L
variable {cells:Aa (Av × Af)}{α α1:Aa Af}{ds:Aa D}{E:Ac->Ag->Prop}{C:Af}{s:Ag}{K:Aj}{w:Bx}{o:Ci}{H P P1:Hp}{S S1:Sto}
theorem j6 {α:Type}{t:Jw α}{Q Q':α->Ag->Prop}{M:Ni}{A:Bv}(h:Ap M A t Q (λ_ _=>Fd) s)(hQ:∀ a s,Q a s->Q' a s):Ap M A t Q' E s:=II h hQ λ_ _ x=>x.elim
noncomputable def uI (ifs:Aa Bt)(env:IZ):Jw Ar:=forIn ifs true λc r=>if r=true then do let ok <- Zz c env (eval c env);pure (Jp ok) else pure (Jp r)
def PTs (X:Cx)(ifs:Aa Bt)(t:DT):Prop:=
 ∀ (pins:Aa (Af × Ci)) (s:Ag) (σ : _L.St) (H:Hp) (Q:Ar->Hp->Prop),Inv X pins σ H s->tDT X t σ H Q->Ap (Au X.prog X.w) X.A (uI ifs X.env) (TP X pins σ Q) X.xe s
noncomputable def x8:DT:=λ_ S=>.ok true S
section
variable {X:Cx}
theorem bA {prog:Be}{A:Bv}{env:IZ}{Q:Ar->Ag->Prop}:∀ (ifs:Aa Bt) {s:Ag},Q false s ->
  Ap (Au prog w) A (forIn ifs false λc r=>if r=true then do let ok <- Zz c env (eval c env);pure (Jp ok) else pure (Jp r)) Q E s
 |[],s,h=>by rw[Ml];exact Al h
 |c::cs,s,h=>by
  rw[Lg];rw[Bj (by simp)]
  refine Ad (Al ?_);exact bA cs h
theorem JJ:PTs X [] x8:=λpins s σ H Q I ⟨P,α,env,S,r,re,af⟩=>by
 unfold uI;rw[Ml];exact Al ⟨H,I,af H P α r (qE.refl _) (Bl _)⟩
theorem W2 {c:Bt}{cs:Aa Bt}{t u:DT}(h1:PT X c (tDT X t))(h2:PTs X cs u):PTs X (c::cs) (xX t u):=λpins s σ H Q I ⟨P,α,env,S,r,re,af⟩=>by
 unfold uI;rw[Lg,Bp rfl];refine Ad (Ad (thn (jF (λQ' q=>h1 pins s σ H Q' I q) r re af) λb s1 ⟨H1,P1,α1,S1,I1,r1,re1,e1,e2,af1⟩=>Al ?_));cases b with
 |true=>exact h2 pins s1 σ H1 Q I1 ⟨P1,α1,env,S1,r1,re1,wD.base e1 e2 af1⟩
 |false=>exact bA cs ⟨H1,I1,af1 H1 P1 α1 r1 e1 e2⟩
theorem N0 {e:Bt}{f:DE}{pins:Aa (Af × Ci)}{σ:_L.St}{env:qC}{d:D}(he:PE X e (tD X f))(I:Inv X pins σ H s)(r:Rel X.K H P α S)(re:qY X.K P α σ env)(q:f env S=.ok d S1) :
  Ap (Au X.prog X.w) X.A (eval e X.env) (λu s1=>∃ v H1 P1 α1,Got X pins σ env P α u s1 v H1 P1 α1 d S1) X.xe s:=by
 refine thn (zL (g:=λd S=>Res.ok d S) (Ok:=λd' S'=>d'=d/\S'=S1) he I r re (by rw[q];exact⟨rfl,rfl⟩)) λu s1 ⟨v,H1,P1,α1,d',S',G,h1,h2⟩=>?_
 have e1:d'=d:=h1;have e2:S'=S1:=h2;subst e1;subst e2;exact⟨v,H1,P1,α1,G⟩
theorem RK {ifs:Aa Bt}{t:DT}{pins:Aa (Af × Ci)}{σ:_L.St}{env:qC}{b:Ar}(he:PTs X ifs t)(I:Inv X pins σ H s)(r:Rel X.K H P α S)(re:qY X.K P α σ env)(q:t env S=.ok b S1) :
  Ap (Au X.prog X.w) X.A (uI ifs X.env) (λb' s1=>b'=b/\∃ H1 P1 α1,Inv X pins σ H1 s1/\Rel X.K H1 P1 α1 S1/\qY X.K P1 α1 σ env/\qE P P1/\α<+:α1) X.xe s:=by
 refine thn (he pins s σ H (λb' H1=>b'=b/\∃ P1 α1,Rel X.K H1 P1 α1 S1/\qY X.K P1 α1 σ env/\qE P P1/\α<+:α1) I ⟨P,α,env,S,r,re,?_⟩) λb' s1 ⟨H1,I1,e,P1,α1,q1,q2,q3,q4⟩=>⟨e,H1,P1,α1,I1,q1,q2,q3,q4⟩;rw[q];exact λH' P' α' r' e1 e2=>⟨rfl,P',α',r',re.mono e1 e2,e1,e2⟩
theorem HU {tg:Bt}{g:DG}{pins:Aa (Af × Ci)}{σ:_L.St}{env env1:qC}{d:D}{v:V}{u:Ac}(hg:PG X tg (tDG X g))(I:Inv X pins σ H s)(r:Rel X.K H P α S)(re:qY X.K P α σ env)(rv:qF v u)
  (rp:Rep X.K P α d v) (q:g d env S=.ok env1 S1) :
  Ap (Au X.prog X.w) X.A (assign tg X.env u) (λ_ s1=>∃ σ1 H1 P1 α1,Inv X pins σ1 H1 s1/\Rel X.K H1 P1 α1 S1/\qY X.K P1 α1 σ1 env1/\qE P P1/\α<+:α1) X.xe s:=by
 refine thn (hg pins s σ H v u (λσ1 H1=>∃ P1 α1,Rel X.K H1 P1 α1 S1/\qY X.K P1 α1 σ1 env1/\qE P P1/\α<+:α1) I rv ⟨P,α,env,S,d,r,re,rp,?_⟩) λ_ s1 ⟨σ1,H1,I1,P1,α1,q1,q2,q3,q4⟩=>⟨σ1,H1,P1,α1,I1,q1,q2,q3,q4⟩;rw[q];exact λσ' H' P' α' r' re' e1 e2=>⟨P',α',r',re',e1,e2⟩
def gE (K:Aj)(P:Hp)(α : Aa Af)(ds:Aa D)(o:Ci):Prop:=∃ (its:Aa Ac) (n:Ai) (vs:Aa V),o={ cls:=.type "list",data:=.seq its.toArray n } /\ qI vs its/\qB K P α ds vs/\ds.length<=lim
theorem gE.mono (e:qE P P1)(h:α<+:α1)(a:gE K P α ds o):gE K P1 α1 ds o:=by
 obtain⟨its,n,vs,q1,q2,q3,q4⟩:=a;exact⟨its,n,vs,q1,q2,qB.mono e h _ _ q3,q4⟩
theorem gE.cell (a:gE K P α ds o):∀ v,o.data≠.cell v:=by
 obtain⟨its,n,vs,rfl,_⟩:=a;intro v z;cases z
theorem Inv.pin1 {pins:Aa (Af × Ci)}{σ:_L.St}{a:Af}(I:Inv X pins σ H s)(f:x5 X pins H a)(e:s.heap.get? a=Ab o)(d:∀ v,o.data≠.cell v):Inv X (pins++[(a,o)]) σ H s:=
 I.pins_of λp hp=>(Ce.mp hp).elim (λz=>I.pin p (Bq _ z)) λz=>by
  have e':p=(a,o):=by simpa using z
  subst e';exact⟨e,f.1,f.2.1,f.2.2.1,d⟩
theorem Inv.pinned1 {pins:Aa (Af × Ci)}{σ:_L.St}{a:Af}(I:Inv X (pins++[(a,o)]) σ H s):s.heap.get? a=Ab o/\H a=none:=by
 have:=I.pin (a,o) (Bq _ (Bq _ (by simp)))
 exact⟨this.1,this.2.1⟩
end
structure Acc where
 m:Ar
 O:Aj->Hp->Aa Af->Aa D->Ci->Prop
 mono:∀ {K:Aj} {P P1:Hp} {α α1:Aa Af} {ds:Aa D} {o:Ci},qE P P1->α<+:α1->O K P α ds o->O K P1 α1 ds o
 cell:∀ {K:Aj} {P:Hp} {α : Aa Af} {ds:Aa D} {o:Ci},O K P α ds o->∀ v,o.data≠.cell v
@[reducible] def accL:Acc:=⟨false,gE,gE.mono,gE.cell⟩
noncomputable def xJ (m:Ar)(elt:Bt)(gens:Aa Dg)(scope:Eo)(pos:Eu):Bt:=match m with
 |false=>.ListComp elt gens scope pos
 |true=>.SetComp elt gens scope pos
structure TurnSt (B:Acc)(Y:Cx)(pins:Aa (Af × Ci))(P1:Hp)(α1:Aa Af)(fp:Aa Af)(acc:Af)(env:qC)(S:Sto)(ds:Aa D)(s:Ag)(σ : _L.St)(H P:Hp)(α : Aa Af)(o:Ci):Prop where
 inv:Inv Y pins σ H s
 rel:Rel Y.K H P α S
 env:qY Y.K P α σ env
 same:qE P1 P
 pre:α1<+:α
 fpn:∀ b∈fp,H b=none
 acn:H acc=none
 at':s.heap.get? acc=Ab o
 acc:B.O Y.K P α ds o
noncomputable def yJ (cells:Aa (Av × Af)):Aa (Av × Hx)->Aa (Av × Af)->Aa (Av × Af)
 |[],cs=>cs
 |(n,k)::r,cs=>yJ cells r (if k == .free then (n,(cells.lookup n).getD 0)::cs else cs)
theorem lH {env:IZ}{scope:Eo}(h:∀ y∈scope.names,y.2=.free->∃ c,env.cells.lookup y.1=Ab c):Yr scope env=pure (yJ env.cells scope.names []):=by
 have go:∀ (l:Aa (Av × Hx)) (cs:Aa (Av × Af)),(∀ y∈l,y.2=.free->∃ c,env.cells.lookup y.1=Ab c) ->
   (forIn l cs λx cs=>match x with|(name,kind)=>if (kind == Hl)=true then do let a <- cellOf env name;pure (Jp ((name,a)::cs)) else pure (Jp cs):Jw (Aa (Av × Af)))=pure (yJ env.cells l cs):=by
  intro l
  induction l with
  |nil=>intro cs _;rfl
  |cons y r ih =>
   intro cs hl;obtain⟨n,k⟩:=y;rw[Lg];by_cases hk:k=.free
   .subst hk
    obtain⟨c,hc⟩:=hl (n,.free) Dl rfl;have hc':env.cells.lookup n=Ab c:=hc;have e:cellOf env n=pure c:=by unfold cellOf;rw[hc']
    simp only[Gr,Dx,e,pure_bind];rw[ih _ λz hz=>hl z (Cg _ hz)];simp only[yJ,Gr,Dx,hc',Qg]
   .have hb:(k == Hl)=false:=by simpa using hk
    simp only[hb,By,Ef,pure_bind];rw[ih _ λz hz=>hl z (Cg _ hz)];simp only[yJ,hb,By,Ef]
 unfold Yr;have:=go scope.names [] h;simp only[bind_pure];exact this
theorem pY {x:Av}{c:Af}:∀ (l:Aa (Av × Hx)) (cs:Aa (Av × Af)),(yJ cells l cs).lookup x=Ab c->cs.lookup x=Ab c\/((x,Hl)∈l/\c=(cells.lookup x).getD 0)
 |[],cs,h=>.inl h
 |(n,k)::r,cs,h=>by
  rcases pY r _ h with h|⟨h1,h2⟩
  .by_cases hk:k=.free
   .subst hk
    simp only[Gr,Dx,Je] at h;cases hb:x == n with
    |true =>
     rw[hb] at h;have e:x=n:=by simpa using hb
     subst e;exact .inr ⟨Dl,(Cz h).symm⟩
    |false=>rw[hb] at h;exact .inl h
   .have hb:(k == Hl)=false:=by simpa using hk
    simp only[hb,By,Ef] at h;exact .inl h
  .exact .inr ⟨Cg _ h1,h2⟩
theorem nP {x:Av}:∀ (l:Aa (Av × Hx)) (cs:Aa (Av × Af)),((x,Hl)∈l\/∃ c,cs.lookup x=Ab c)->∃ c,(yJ cells l cs).lookup x=Ab c
 |[],cs,h=>by
  rcases h with h|h
  .cases h
  .exact h
 |(n,k)::r,cs,h=>by
  refine nP r _ ?_;rcases h with h|⟨c,h⟩
  .rcases Ax.mp h with e|h
   .cases e
    exact .inr ⟨(cells.lookup x).getD 0,by simp only[Gr,Dx,Je]⟩
   .exact .inl h
  .by_cases hk:k=.free
   .subst hk
    simp only[Gr,Dx,Je];cases hb:x == n with
    |true=>exact .inr ⟨_,rfl⟩
    |false=>exact .inr ⟨c,h⟩
   .have hb:(k == Hl)=false:=by simpa using hk
    simp only[hb,By,Ef];exact .inr ⟨c,h⟩
structure CompSc (scX:Eo)(NX:Aa Av)(scope:Eo)(N':Aa Av)(cap:Aa (Am Ai)):Prop where
 kind:scope.kind=.function
 names:∀ y∈scope.names,y.2=.local -> scope.names.lookup y.1=Ab .local
 cel:∀ y∈scope.names,y.2=.cell->scope.names.lookup y.1=Ab .cell
 free:∀ y∈scope.names,y.2=.free->scX.names.lookup y.1=Ab .cell\/scX.names.lookup y.1=Ab .free
 fr2:∀ y∈scope.names,y.2=.free->scope.names.lookup y.1=Ab .free
 len:cap.length=N'.length
 caps:((cap.zip N').all λp=>match p.1 with|none=>true|some i=>NX[i]? == Ab p.2&&scope.names.lookup p.2 == Ab .free)=true
 nd:N'.Nodup
noncomputable def yO (cap:Aa (Am Ai))(σ : _L.St):_L.St:=cap.map λo=>match o with
 |none=>none
 |some i=>(σ[i]?).join
noncomputable def zR (cap:Aa (Am Ai))(env:qC):qC:=cap.map λo=>match o with
 |none=>none
 |some i=>(env[i]?).join
theorem ZM {σ:_L.St}{env:qC}(re:qY K P α σ env)(cap:Aa (Am Ai)):qY K P α (yO cap σ) (zR cap env):=by
 refine⟨by simp[yO,zR],λj d e=>?_⟩
 unfold zR at e;unfold yO;rw[Du] at e ⊢;cases q:cap[j]? with
 |none=>rw[q] at e;cases e
 |some o =>
  rw[q] at e;cases o with
  |none=>cases e
  |some i =>
   have e':(env[i]?).join=Ab d:=by simpa using e
   cases z:env[i]? with
   |none=>rw[z] at e';cases e'
   |some w =>
    rw[z] at e';have e'':w=Ab d:=e';subst e'';obtain⟨v,h1,h2⟩:=re.2 i d z;exact⟨v,by simp[h1],h2⟩
noncomputable def qN (X:Cx)(N':Aa Av)(scope:Eo)(cl:Aa (Av × Af))(C:Af)(ex:Aa Af)(s₀:Ag)(H₀:Hp):Cx:=
 { X with N:=N',s₀:=s₀,H₀:=H₀,env:=compEnvC scope cl C X.env,outer:=X.stack,stack:=X.stack,ex:=ex,fn:=λx=>decide (scope.names.lookup x=Ab .cell),pn:=[],xe:=λ_ _=>Fd }
theorem uD {scope:Eo}{env:IZ}:∀ {names:Aa (Av × Hx)} {x:Av} {k:Hx},
  (names.map λ(n,k)=>if (k == Hl&&env.scope.kind == .function&&env.kindOf n == Ab .cell) then (n,Np) else (n,k)).lookup x=Ab k ->
  names.lookup x=Ab k\/(k=.cell/\names.lookup x=Ab .free)
 |[],_,_,h=>by simp at h
 |(n,k0)::r,x,k,h=>by
  rw[De,Je] at h;rw[Je];dsimp only at h;cases hb:(k0 == Hl&&env.scope.kind == .function&&env.kindOf n == Ab .cell) with
  |true =>
   rw[hb] at h;simp only[Dx] at h;cases hx:x == n with
   |true =>
    rw[hx] at h;have e:Np=k:=Cz h;have hk:k0=.free:=by
     have:=(Bi _ _).mp hb;have:=(Bi _ _).mp this.1;simpa using this.1
    subst hk;exact .inr ⟨e.symm,rfl⟩
   |false=>rw[hx] at h;exact uD (scope:=scope) h
  |false =>
   rw[hb] at h;simp only[By,Ef] at h;cases hx:x == n with
   |true=>rw[hx] at h;exact .inl h
   |false=>rw[hx] at h;exact uD (scope:=scope) h
section
variable {X:Cx}{scope:Eo}{N':Aa Av}{cap:Aa (Am Ai)}{pins:Aa (Af × Ci)}{σ : _L.St}{H2:Hp}{s2:Ag}{fp:Aa Af}
theorem jT (S:CompSc X.env.scope X.N scope N' cap){x:Av}{k:Hx}(h:(relabel scope X.env).names.lookup x=Ab k):scope.names.lookup x=Ab k\/(k=.cell/\scope.names.lookup x=Ab .free):=uD (scope:=scope) h
theorem oI (S:CompSc X.env.scope X.N scope N' cap)(ok:X.Ok){x:Av}{c:Af}(h:(yJ X.env.cells scope.names []).lookup x=Ab c):X.env.cells.lookup x=Ab c/\(x,Hl)∈scope.names:=by
 rcases pY _ _ h with h|⟨hm,hc⟩
 .cases h
 .have:=S.free _ hm rfl
  obtain⟨c',hc'⟩:=ok.has x this;rw[hc',Qg] at hc;rw[hc',hc];exact⟨rfl,hm⟩
noncomputable def Y5 (scope:Eo)(C:Af):Aa (Av × Af):=Hj (C+1) scope.names []
noncomputable def jR (X:Cx)(scope:Eo)(C:Af):Aa (Av × Af):=Hj (C+1) scope.names (yJ X.env.cells scope.names [])
theorem yF:∀ (names:Aa (Av × Hx)) (lo:Ai) (acc:Aa (Av × Af)),Hj lo names acc=Hj lo names [] ++ acc
 |[],_,_=>rfl
 |(n,k)::r,lo,acc=>by
  unfold Hj
  split
  .rw[yF r _ ((n,lo)::acc),yF r _ [(n,lo)],Cc];rfl
  .exact yF r lo acc
set_option tactic.hygienic true in
theorem gH:∀ (names:Aa (Av × Hx)) (lo:Ai) {n:Av} {c:Af},(n,c)∈Hj lo names [] -> (n,Np)∈names
 |[],_,_,_,h=>by cases h
 |(n0,k)::r,lo,n,c,h=>by
  unfold Hj at h
  split at h
  .rename_i hk
   rw[yF] at h;rcases Ce.mp h with h|h
   .exact Cg _ (gH r _ h)
   .have e:(n,c)=(n0,lo):=by simpa using h
    cases e;have:k=Np:=by simpa using hk
    rw[this];exact Dl
  .exact Cg _ (gH r _ h)
theorem xD (S:CompSc X.env.scope X.N scope N' cap)(ok:X.Ok){C:Af}{x:Av}{c:Af}(h:(jR X scope C).lookup x=Ab c):((x,c)∈Y5 scope C/\scope.names.lookup x=Ab .cell)\/(X.env.cells.lookup x=Ab c/\(x,Hl)∈scope.names):=by
 unfold jR at h;rw[yF,Vg] at h;cases q:(Hj (C+1) scope.names []).lookup x with
 |some c' =>
  rw[q] at h;cases h;have m:=Ga q;exact .inl ⟨m,S.cel _ (gH _ _ m) rfl⟩
 |none =>
  rw[q] at h;exact .inr (oI S ok h)
theorem dI (S:CompSc X.env.scope X.N scope N' cap)(ok:X.Ok){C:Af}{x:Av}(h:scope.names.lookup x=Ab .cell\/scope.names.lookup x=Ab .free):∃ c,(jR X scope C).lookup x=Ab c:=by
 unfold jR;rw[yF,Vg];rcases h with h|h
 .have:=Jo scope.names (C+1) [] (x:=x) (.inl h)
  obtain⟨c,hc⟩:=Lp.mp this;exact⟨c,by rw[hc];rfl⟩
 .obtain⟨c',hc'⟩:=nP (cells:=X.env.cells) scope.names [] (.inl (Ga h))
  rw[hc'];cases (Hj (C+1) scope.names []).lookup x with
  |none=>exact⟨c',rfl⟩
  |some c=>exact⟨c,rfl⟩
theorem UV (S:CompSc X.env.scope X.N scope N' cap)(I2:Inv X pins σ H2 s2)(hf:∀ b∈fp,x5 X pins H2 b)(hlt:∀ b∈fp,b<s2.heap.objs.size)(hC:s2.heap.objs.size<=C){h1:Br}(co:CellsOk h1 (C+1) (Y5 scope C)) :
  (qN X N' scope (jR X scope C) C fp s2 H2).Ok where
 mod:=I2.ok.mod
 kind:=S.kind
 glob:=I2.ok.glob
 blt:=I2.ok.blt
 above:=hC
 inj:=λx y c h1 h2=>by
  rcases xD S I2.ok h1 with⟨m1,_⟩|⟨m1,_⟩ <;> rcases xD S I2.ok h2 with⟨m2,_⟩|⟨m2,_⟩
  .exact PySem.name_of_addr co.apart m1 m2
  .obtain⟨v,ob,hob,_⟩:=I2.cell y c m2
   exact absurd (Bc (Az hob) hC) (Na.mpr (Fe (co.empty x c m1).2))
  .obtain⟨v,ob,hob,_⟩:=I2.cell x c m1
   exact absurd (Bc (Az hob) hC) (Na.mpr (Fe (co.empty y c m2).2))
  .exact I2.ok.inj x y c m1 m2
 has:=λx hx=>by
  have hx':(relabel scope X.env).names.lookup x=Ab .cell\/(relabel scope X.env).names.lookup x=Ab .free:=hx;refine dI S I2.ok ?_;rcases hx' with h|h
  .rcases jT S h with h|⟨_,h⟩
   .exact .inl h
   .exact .inr h
  .rcases jT S h with h|⟨z,_⟩
   .exact .inr h
   .cases z
 cab:=λx c h h2=>by
  have hx:scope.names.lookup x=Ab .cell:=Cf h;rcases xD S I2.ok h2 with⟨m,_⟩|⟨_,m⟩
  .exact Dh hC (Fe (co.empty x c m).2)
  .have:=S.fr2 _ m rfl
   have this':scope.names.lookup x=Ab .free:=this;rw[hx] at this';cases this'
 hd:=I2.ok.hd
 frames:=I2.ok.frames
 stk:=.inl rfl
 exf:=λb hb=>⟨Cq (Bc (hlt b hb) hC),λx c h=>by
  rcases xD S I2.ok h with⟨m,_⟩|⟨m,_⟩
  .exact Ft (Cq (Ia (Bc (hlt b hb) hC) (co.empty x c m).2))
  .exact(hf b hb).2.2.2.2.1 x c m⟩
 bs:=I2.bs
 bsz:=Dh I2.ok.bsz I2.sz
 noex:=λb o e hb=>by
  obtain⟨_,_,_,h,_⟩:=hf b hb;rcases h with h|h
  .exact I2.ok.noex b o e h
  .exact absurd (Bc (Az e) (Dh I2.ok.bsz h)) (Ek _)
 exfs:=λb hb hb2=>by
  obtain⟨_,h1,h2,_⟩:=hf b hb;rcases Ax.mp (I2.stkSub b hb2) with z|z
  .exact h1 z
  .exact h2 z
 funs:=I2.stack
 frf:=I2.stkFree
theorem XF {s4:Ag}{m:Av->Am Ac}(S:CompSc X.env.scope X.N scope N' cap)(I2:Inv X pins σ H2 s2)(hf:∀ b∈fp,x5 X pins H2 b)(hlt:∀ b∈fp,b<s2.heap.objs.size)(hC:s2.heap.objs.size<=C)
  (hn:s4.heap.Ns C m) (os:s4.os=s2.os) (gens:s4.gens=s2.gens) (keep:∀ b o,s2.heap.get? b=Ab o->s4.heap.get? b=Ab o) (co:CellsOk s4.heap (C+1) (Y5 scope C)) :
  Inv (qN X N' scope (jR X scope C) C fp s2 H2) [] (yO cap σ) H2 s4 where
 ok:=UV S I2 hf hlt hC co
 os:=os
 bare:=gens▸I2.bare
 base:=Un.kept keep
 loc:=by
  refine⟨m,hn,λj x v h1 h2 h3=>?_⟩;have h1':N'[j]? = Ab x:=h1;unfold yO at h2;rw[Du] at h2;cases q:cap[j]? with
  |none=>rw[q] at h2;cases h2
  |some o =>
   rw[q] at h2;cases o with
   |none=>cases h2
   |some i =>
    have e':(σ[i]?).join=Ab v:=by simpa using h2
    have hσ:σ[i]? = Ab (Ab v):=by
     cases z:σ[i]? with
     |none=>rw[z] at e';cases e'
     |some w=>rw[z] at e';have:w=Ab v:=e';rw[this]
    have hz:(Ab i,x)∈cap.zip N':=by
     refine List.mem_iff_getElem?.mpr ⟨j,?_⟩;rw[List.getElem?_zip_eq_some];exact⟨q,h1'⟩
    have hc:=Ca.mp S.caps _ hz;simp only[Bi,Qh] at hc;obtain⟨hN,hfr⟩:=hc;have hk:=S.free _ (Ga hfr) rfl;obtain⟨mo,hmo,hl⟩:=I2.loc;have vis:Vis X.env.scope x:=by
     rcases hk with k|k
     .exact .inr (.inl k)
     .exact .inr (.inr k)
    obtain⟨u,ru,lk⟩:=hl i x v hN hσ vis;refine⟨u,ru,?_⟩;rcases lk with⟨kl,_⟩|⟨_,c,hcl,hcell⟩
    .have kl':X.env.scope.names.lookup x=Ab .local:=kl
     rcases hk with k|k
     .have k':X.env.scope.names.lookup x=Ab .cell:=k
      rw[kl'] at k';cases k'
     .have k':X.env.scope.names.lookup x=Ab .free:=k
      rw[kl'] at k';cases k'
    .obtain⟨c',hc'⟩:=dI S I2.ok (C:=C) (.inr hfr)
     have e2:X.env.cells.lookup x=Ab c':=by
      rcases xD S I2.ok hc' with⟨_,z⟩|⟨z,_⟩
      .rw[hfr] at z;cases z
      .exact z
     rw[hcl] at e2;cases e2;refine .inr ⟨?_,c,hc',?_⟩
     .have h3':Vis (relabel scope X.env) x:=h3
      rcases h3' with h|h|h
      .rcases jT S h with h|⟨z,_⟩
       .rw[hfr] at h;cases h
       .cases z
      .exact .inl h
      .exact .inr h
     .obtain⟨ob,hob,hd⟩:=hcell
      exact⟨ob,keep c ob hob,hd⟩
 cell:=λx c h=>by
  rcases xD S I2.ok h with⟨m,_⟩|⟨m,_⟩
  .exact⟨none,(co.empty x c m).1⟩
  .obtain⟨v,ob,hob,hd⟩:=I2.cell x c m
   exact⟨v,ob,keep c ob hob,hd⟩
 free:=I2.hok.fresh hC
 freeC:=λx c h=>by
  rcases xD S I2.ok h with⟨m,_⟩|⟨m,_⟩
  .exact I2.hok.fresh (Dh hC (Fe (co.empty x c m).2))
  .exact I2.freeC x c m
 pin:=λp hp=>absurd (show p∈([]:Aa (Af × Ci)) from hp) (by simp)
 hok:=I2.hok.kept keep
 len:=by
  show (yO cap σ).length=N'.length;simp[yO,S.len]
end
theorem Q1 {P:Be}{h:Br}{a:Af}{o:HO}(x:HOk P w H h)(hn:H a=none)(new:zG P w (upd H a o) h a o):HOk P w (upd H a o) h:=λb u e=>by
 by_cases hb:b=a
 .subst hb;rw[qX] at e;cases e;exact new
 .rw[qO hb] at e
  exact(x b u e).stay (λc v _ q=>q) (λc q=>by rw[qO (z9 q hn)];exact q) λc xs q=>by rw[qO (z9 q hn)];exact q
theorem nZ {P:Be}{h h':Br}(x:HOk P w H h)(hn:H C=none)(k:∀ b o,b≠C->h.get? b=Ab o->h'.get? b=Ab o):HOk P w H h':=λb u e =>
 (x b u e).stay (λc v hc q=>k c v (by
  rintro rfl;rcases hc with z|z
  .subst z;rw[hn] at e;cases e
  .rw[hn] at z;cases z) q) (λ_ q=>q) λ_ _ q=>q
section
variable {X:Cx}{elt tg iter:Bt}{ifs:Aa Bt}{scope:Eo}{pos:Eu}{N':Aa Av}{cap:Aa (Am Ai)}{fi:DI}{g:DG}{t:DT}{fe:DE}
def j8 (X:Cx)(pins:Aa (Af × Ci))(σ : _L.St)(P1:Hp)(α1:Aa Af)(ds:Aa D)(SF:Sto)(acc C:Af)(s:Ag):Prop:=
 ∃ (H' P':Hp) (α' : Aa Af) (vs:Aa V),Inv X pins σ (upd H' acc (.lst vs)) s/\Rel X.K H' P' α' SF/\H' acc=none/\qE P1 P'/\α1<+:α'/\qB X.K P' α' ds vs/\H' C=none
theorem dH {Y:Cx}{pins:Aa (Af × Ci)}{σ σ':_L.St}{H2:Hp}{s2 s':Ag}{fp:Aa Af}{acc:Af}{H' P':Hp}{α':Aa Af}{envF:qC}{SF:Sto}{cl:Aa (Av × Af)}(I2:Inv X pins σ H2 s2)
  (hf:∀ b∈fp,x5 X pins H2 b) (hY:Y=qN X N' scope cl C fp s2 H2) (hC:s2.heap.objs.size<=C) (hA:s2.heap.objs.size<=acc) (hne:acc≠C) (st:TurnSt accL Y [] P1 α1 fp acc envF SF ds s' σ' H' P' α' o)
  {h':Br} (sb:Ep C s'.heap h'):j8 X pins σ P1 α1 ds SF acc C { s' with heap:=h' }:=by
 subst hY;obtain⟨its,n,vs,rfl,rv,rp,hz⟩:=st.acc;have kC:∀ b o,b≠C->s'.heap.get? b=Ab o->h'.get? b=Ab o:=λb o hb e=>(sb.2 b hb).trans e;have nC:∀ b o,s2.heap.get? b=Ab o->b≠C:=λb o e=>Cq (Bc (Az e) hC);have nA:∀ b o,s2.heap.get? b=Ab o->b≠acc:=λb o e=>Cq (Bc (Az e) hA);have base:Un (frs X.stack) fp H2 H' s2.heap s'.heap:=st.inv.base;have nt:∀ b u,H' b=Ab u->b≠acc:=λb u e=>z9 e st.acn;have un:Un (frs X.stack) fp H2 (upd H' acc (.lst vs)) s2.heap h':=by
  refine⟨λb ob q hn hb hx=>kC b ob (nC b ob q) (base.keep b ob q hn hb hx),λb ob q hn hb hx=>?_,λb ob q hn hx=>?_,λb ob q hx=>?_,λb xs q=>?_,λb ob u q=>?_,λb ps q=>?_⟩
  .obtain⟨sl,e⟩:=base.slot b ob q hn hb hx
   exact⟨sl,kC b _ (nC b ob q) e⟩
  .rw[qO (nA b ob q)];exact base.free b ob q hn hx
  .obtain⟨o',e⟩:=base.there b ob q hx
   exact⟨o',kC b o' (nC b ob q) e⟩
  .have:=base.tups b xs q;rw[qO (nt _ _ this)];exact this
  .have:=base.frzs b ob u q;rw[qO (nt _ _ this)];exact this
  .obtain⟨more,e⟩:=base.tbls b ps q
   exact⟨more,by rw[qO (nt _ _ e)];exact e⟩
 have hok':HOk X.prog X.w H' h':=nZ st.inv.hok st.inv.free kC;have hat:h'.get? acc=Ab { cls:=.type "list",data:=.seq its.toArray n }:=kC acc _ hne st.at';have hok:HOk X.prog X.w (upd H' acc (.lst vs)) h':=Q1 hok' st.acn ⟨by rw[<- rp.length,<- zV];exact hz,its,n,rv,hat⟩
 refine⟨H',P',α',vs,?_,st.rel,st.acn,st.same,st.pre,rp,st.inv.free⟩;exact I2.call' (s':={ s' with heap:=h' }) (ch:=fp) (st.inv.os) un hok st.inv.bare λb hb=>by
  obtain⟨_,h1,h2,h3,h4,h5⟩:=hf b hb;exact⟨h3,h1,h4,h5⟩
theorem mL (S:CompSc X.env.scope X.N scope N' cap)(ok:X.Ok):Yr scope X.env=pure (yJ X.env.cells scope.names []):=lH λy hy hk=>ok.has y.1 (S.free y hy hk)
theorem JM {pins:Aa (Af × Ci)}{σ:_L.St}{SF:Sto}{acc:Af}{Q:VK}(c:j8 X pins σ P1 α1 ds SF acc C s)(ok:OkV X P1 α1 Q (.lst ds) SF):EP X pins σ Q (.ref acc) s:=by
 obtain⟨H',P',α',vs,I,r,hn,e1,e2,rp,_⟩:=c;exact⟨.ref acc,_,I,rfl,yB r hn rp λv H2 P2 α2 r2 q1 q2 q3=>ok v H2 P2 α2 r2 (e1.trans q1) (e2.trans q2) q3⟩
end
end _D
section
namespace _D
open PySem PySem.Spec PyProof.Rows _L PySem.SeqAt
noncomputable def b01 (b:Ar):Ak:=if b then 1 else 0
mutual
noncomputable def eqD:D->D->Ar
 |.non,.non=>true
 |.bl a,.bl b=>a == b
 |.bl a,.int b=>b01 a == b
 |.int a,.bl b=>a == b01 b
 |.int a,.int b=>a == b
 |.str a,.str b=>a == b
 |.tup xs,.tup ys=>zX xs ys
 |.lst xs,.lst ys=>zX xs ys
 |_,_=>false
noncomputable def zX:Aa D->Aa D->Ar
 |[],[]=>true
 |x::xs,y::ys=>eqD x y&&zX xs ys
 |_,_=>false
end
noncomputable def pl:Ai->D->Ar
 |_,.non=>true
 |_,.bl _=>true
 |_,.int _=>true
 |_,.str _=>true
 |n+1,.tup xs=>xs.all (pl n)
 |n+1,.lst xs=>xs.all (pl n)
 |_,_=>false
theorem nV (x y:D)(xs ys:Aa D):zX (x::xs) (y::ys)=(eqD x y&&zX xs ys):=rfl
theorem wG:∀ (xs ys:Aa D),zX xs ys=((Dd (min xs.length ys.length)).all (λj=>eqD (xs.getD j .non) (ys.getD j .non))&&xs.length == ys.length)
 |[],[]=>rfl
 |[],y::ys=>rfl
 |x::xs,[]=>rfl
 |x::xs,y::ys=>by
  have ih:=wG xs ys;rw[nV,ih,Bd,Bd,Nat.succ_min_succ,Jq,Nq,Kl,Bool.and_assoc];have e:(xs.length+1 == ys.length+1)=(xs.length == ys.length):=by simp
  rw[e];rfl
theorem W7 {xs ys:Aa D}(h:xs.length≠ys.length):zX xs ys=false:=by
 rw[wG];simp[h]
theorem mT (xs ys:Aa D):eqD (.tup xs) (.tup ys)=zX xs ys:=rfl
theorem mS (xs ys:Aa D):eqD (.lst xs) (.lst ys)=zX xs ys:=rfl
section
variable {X:Cx}{pins:Aa (Af × Ci)}{σ : _L.St}{H P:Hp}{α : Aa Af}{S:Sto}{s:Ag}
inductive Kd (X:Cx)(P:Hp)(α : Aa Af)(s:Ag):D->Ac->Prop where
 |non:Kd X P α s .non .none
 |bl (b:Ar):Kd X P α s (.bl b) (.bool b)
 |int (i:Ak) (t:Ry):Kd X P α s (.int i) (.int i t)
 |str (x:Av) (t:Ry):Kd X P α s (.str x) (.str x t)
 |tup (a:Af) (xs:Aa D) (its:Aa Ac) (vs:Aa V) (rp:qB X.K P α xs vs) (rv:qI vs its) (h:s.heap.IsTuple a its.toArray) (q:SqT X.K P a vs):Kd X P α s (.tup xs) (.ref a)
 |lst (a:Af) (xs:Aa D) (its:Aa Ac) (vs:Aa V) (rp:qB X.K P α xs vs) (rv:qI vs its) (h:s.heap.IsList a its.toArray) (q:SqX X.K P a vs):Kd X P α s (.lst xs) (.ref a)
theorem y8 (I:Inv X pins σ H s)(r:Rel X.K H P α S){n:Ai}{d:D}{v:V}{u:Ac}(h:pl n d=true)(p:Rep X.K P α d v)(rv:qF v u):Kd X P α s d u:=by
 cases d with
 |non=>simp only[Rep] at p;subst p;cases rv;exact .non
 |bl b=>simp only[Rep] at p;subst p;cases rv;exact .bl b
 |int i=>simp only[Rep] at p;subst p;obtain⟨t,rfl⟩:=rv;exact .int i t
 |str x=>simp only[Rep] at p;subst p;obtain⟨t,rfl⟩:=rv;exact .str x t
 |tup xs =>
  simp only[Rep] at p;obtain⟨a,vs,rfl,q,t⟩:=p;cases rv;obtain⟨its,r1,p1,_⟩:=I.tuple (xW r.sub q);exact .tup a xs its vs t r1 p1 q
 |lst xs =>
  simp only[Rep] at p;obtain⟨a,vs,rfl,q,t⟩:=p;cases rv;obtain⟨its,r1,p1,_⟩:=I.list ((xR r.sub q).l);exact .lst a xs its vs t r1 p1.isList q
 |_=>cases n <;> exact Ee h
theorem xY {ds:Aa D}{vs:Aa V}{its:Aa Ac}(rp:qB X.K P α ds vs)(rv:qI vs its){j:Ai}(h:j<its.toArray.size):∃ v,Rep X.K P α (ds.getD j .non) v/\qF v its.toArray[j]/\ds.getD j .non∈ds:=by
 have l1:=rp.length;have l2:=rv.length;have hj:j<its.length:=by simpa using h
 have hd:j<ds.length:=by lia
 obtain⟨v,e1,p⟩:=rp.get (An hd);obtain⟨u,e2,q⟩:=rv.get e1;have e3:its.toArray[j]=u:=by
  have:its[j]? = Ab its[j]:=An hj;rw[this] at e2;simpa using Cz e2
 have e4:ds.getD j .non=ds[j]:=by simp[HT,hd]
 rw[e3,e4];exact⟨v,p,q,Qi hd⟩
theorem xT {n:Ai}{ds:Aa D}(h:ds.all (pl n)=true){d:D}(hd:d∈ds):pl n d=true:=Ca.mp h d hd
theorem t9 {h:Br}{a:Af}{xs ys:Ay Ac}(h1:h.IsTuple a xs)(h2:h.IsTuple a ys):xs=ys:=by
 obtain⟨o,e,_,n,d⟩:=h1;obtain⟨o',e',_,n',d'⟩:=h2;cases e.symm.trans e';cases d.symm.trans d';rfl
theorem eP {h:Br}{a:Af}{xs ys:Ay Ac}(h1:h.IsList a xs)(h2:h.IsList a ys):xs=ys:=by
 obtain⟨o,e,_,n,d⟩:=h1;obtain⟨o',e',_,n',d'⟩:=h2;cases e.symm.trans e';cases d.symm.trans d';rfl
theorem aY {h:Br}{a:Af}{xs ys:Ay Ac}(h1:h.IsTuple a xs)(h2:h.IsList a ys):Fd:=by
 obtain⟨o,e,c,_⟩:=h1;obtain⟨o',e',c',_⟩:=h2;cases e.symm.trans e';exact absurd (c.symm.trans c') (by decide)
inductive Seqs (X:Cx)(P:Hp)(α : Aa Af)(xs ys:Aa D)(its its2:Aa Ac):Prop
 |mk (vs ws:Aa V) (rp:qB X.K P α xs vs) (rv:qI vs its) (rp2:qB X.K P α ys ws) (rv2:qI ws its2):Seqs X P α xs ys its its2
theorem Seqs.len1 {xs ys:Aa D}{its its2:Aa Ac}(q:Seqs X P α xs ys its its2):xs.length=its.length:=by
 obtain⟨vs,ws,rp,rv,_,_⟩:=q;exact rp.length.trans rv.length
theorem Seqs.len2 {xs ys:Aa D}{its its2:Aa Ac}(q:Seqs X P α xs ys its its2):ys.length=its2.length:=by
 obtain⟨vs,ws,_,_,rp,rv⟩:=q;exact rp.length.trans rv.length
inductive SameR (X:Cx)(P:Hp)(α : Aa Af):D->D->Prop
 |eq {d d':D} (h:eqD d d'=true):SameR X P α d d'
 |tt (xs ys:Aa D) (its:Aa Ac) (q:Seqs X P α xs ys its its):SameR X P α (.tup xs) (.tup ys)
 |ll (xs ys:Aa D) (its:Aa Ac) (q:Seqs X P α xs ys its its):SameR X P α (.lst xs) (.lst ys)
theorem cG {d d':D}{u:Ac}(k1:Kd X P α s d u)(k2:Kd X P α s d' u):SameR X P α d d':=by
 cases k1 with
 |non=>cases k2;exact .eq rfl
 |bl b=>cases k2;exact .eq (Gr _)
 |int i t=>cases k2;exact .eq (Gr _)
 |str x t=>cases k2;exact .eq (Gr _)
 |tup a xs its vs rp rv h q =>
  cases k2 with
  |tup _ ys its2 ws rp2 rv2 h2 q2 =>
   cases t9 h h2;exact .tt xs ys its ⟨vs,ws,rp,rv,rp2,rv2⟩
  |lst _ ys its2 ws rp2 rv2 h2 q2=>exact(aY h h2).elim
 |lst a xs its vs rp rv h q =>
  cases k2 with
  |lst _ ys its2 ws rp2 rv2 h2 q2 =>
   cases eP h h2;exact .ll xs ys its ⟨vs,ws,rp,rv,rp2,rv2⟩
  |tup _ ys its2 ws rp2 rv2 h2 q2=>exact(aY h2 h).elim
theorem nW (I:Inv X pins σ H s)(r:Rel X.K H P α S){m:Ai}(ih:∀ (d d':D) (u:Ac),pl m d=true->pl m d'=true->Kd X P α s d u->Kd X P α s d' u->eqD d d'=true){xs ys:Aa D}{its:Aa Ac}(h1:xs.all (pl m)=true)(h2:ys.all (pl m)=true)(q:Seqs X P α xs ys its its):zX xs ys=true:=by
 obtain⟨vs,ws,rp,rv,rp2,rv2⟩:=q;have l1:=rp.length.trans rv.length;have l2:=rp2.length.trans rv2.length;rw[wG,l1,l2,Qs,Bi];refine⟨Ca.mpr λj hj=>?_,xL⟩;have hj:j<its.toArray.size:=Dt.mp hj;obtain⟨w1,y1,z1,m1⟩:=xY rp rv hj;obtain⟨w2,y2,z2,m2⟩:=xY rp2 rv2 hj;exact ih _ _ _ (xT h1 m1) (xT h2 m2) (y8 I r (xT h1 m1) y1 z1) (y8 I r (xT h2 m2) y2 z2)
theorem eG (I:Inv X pins σ H s)(r:Rel X.K H P α S):∀ (n:Ai) (d d':D) (u:Ac),pl n d=true->pl n d'=true->Kd X P α s d u->Kd X P α s d' u->eqD d d'=true:=by
 intro n
 induction n with
 |zero =>
  intro d d' u h1 h2 k1 k2;cases cG k1 k2 with
  |eq h=>exact h
  |tt=>exact Ee h1
  |ll=>exact Ee h1
 |succ m ih =>
  intro d d' u h1 h2 k1 k2;cases cG k1 k2 with
  |eq h=>exact h
  |tt xs ys its q=>exact(mT xs ys).trans (nW I r ih h1 h2 q)
  |ll xs ys its q=>exact(mS xs ys).trans (nW I r ih h1 h2 q)
structure E3 (A:Bv)(s:Ag)(u u':Ac)(b:Ar):Prop where
 eq:Ys A s u u' b
 rc:RcAt A s u u' b
 ne:RcNeAt A s u u' (!b)
inductive EqR (X:Cx)(P:Hp)(α : Aa Af)(A:Bv)(s:Ag):D->D->Ac->Ac->Prop
 |of {d d':D} {u u':Ac} (b:Ar) (e:eqD d d'=b) (h:E3 A s u u' b):EqR X P α A s d d' u u'
 |tt (a b:Af) (xs ys:Aa D) (its its2:Aa Ac) (ha:s.heap.IsTuple a its.toArray) (hb:s.heap.IsTuple b its2.toArray) (q:Seqs X P α xs ys its its2):EqR X P α A s (.tup xs) (.tup ys) (.ref a) (.ref b)
 |ll (a b:Af) (xs ys:Aa D) (its its2:Aa Ac) (ha:s.heap.IsList a its.toArray) (hb:s.heap.IsList b its2.toArray) (q:Seqs X P α xs ys its its2):EqR X P α A s (.lst xs) (.lst ys) (.ref a) (.ref b)
theorem VO {A:Bv}{d d':D}{u u':Ac}(hu:A.units<Eg)(k1:Kd X P α s d u)(k2:Kd X P α s d' u'):EqR X P α A s d d' u u':=by
 cases k1 with
 |non  =>
  cases k2 with
  |non  => exact .of _ rfl ⟨Zl _,RcAt.none_none,RcNeAt.none_none⟩
  |bl b=>exact .of _ rfl ⟨EqAt.none_bool b,RcAt.none_bool b,RcNeAt.none_bool b⟩
  |int b tb=>exact .of _ rfl ⟨EqAt.none_int b tb,RcAt.none_int b tb,RcNeAt.none_int b tb⟩
  |str b tb=>exact .of _ rfl ⟨EqAt.none_str b tb,RcAt.none_str b tb,RcNeAt.none_str b tb⟩
  |tup b ys its2 ws rp2 rv2 hb qb=>exact .of _ rfl ⟨EqAt.none_tuple hb hu,RcAt.none_tuple hb hu,RcNeAt.none_tuple hb hu⟩
  |lst b ys its2 ws rp2 rv2 hb qb=>exact .of _ rfl ⟨EqAt.none_list hb hu,RcAt.none_list hb hu,RcNeAt.none_list hb hu⟩
 |bl a =>
  cases k2 with
  |non  => exact .of _ rfl ⟨EqAt.bool_none a,RcAt.bool_none a,RcNeAt.bool_none a⟩
  |bl b=>exact .of _ rfl ⟨EqAt.bool_bool a b,RcAt.bool_bool a b,RcNeAt.bool_bool a b⟩
  |int b tb=>exact .of _ rfl ⟨EqAt.bool_int a b tb,RcAt.bool_int a b tb,RcNeAt.bool_int a b tb⟩
  |str b tb=>exact .of _ rfl ⟨EqAt.bool_str a b tb,RcAt.bool_str a b tb,RcNeAt.bool_str a b tb⟩
  |tup b ys its2 ws rp2 rv2 hb qb=>exact .of _ rfl ⟨EqAt.bool_tuple a hb hu,RcAt.bool_tuple a hb hu,RcNeAt.bool_tuple a hb hu⟩
  |lst b ys its2 ws rp2 rv2 hb qb=>exact .of _ rfl ⟨EqAt.bool_list a hb hu,RcAt.bool_list a hb hu,RcNeAt.bool_list a hb hu⟩
 |int a ta =>
  cases k2 with
  |non  => exact .of _ rfl ⟨EqAt.int_none a ta,RcAt.int_none a ta,RcNeAt.int_none a ta⟩
  |bl b=>exact .of _ rfl ⟨EqAt.int_bool a ta b,RcAt.int_bool a ta b,RcNeAt.int_bool a ta b⟩
  |int b tb=>exact .of _ rfl ⟨ZB a ta b tb,RcAt.int_int a ta b tb,RcNeAt.int_int a ta b tb⟩
  |str b tb=>exact .of _ rfl ⟨EqAt.int_str a ta b tb,RcAt.int_str a ta b tb,RcNeAt.int_str a ta b tb⟩
  |tup b ys its2 ws rp2 rv2 hb qb=>exact .of _ rfl ⟨EqAt.int_tuple a ta hb hu,RcAt.int_tuple a ta hb hu,RcNeAt.int_tuple a ta hb hu⟩
  |lst b ys its2 ws rp2 rv2 hb qb=>exact .of _ rfl ⟨EqAt.int_list a ta hb hu,RcAt.int_list a ta hb hu,RcNeAt.int_list a ta hb hu⟩
 |str a ta =>
  cases k2 with
  |non  => exact .of _ rfl ⟨EqAt.str_none a ta,RcAt.str_none a ta,RcNeAt.str_none a ta⟩
  |bl b=>exact .of _ rfl ⟨EqAt.str_bool a ta b,RcAt.str_bool a ta b,RcNeAt.str_bool a ta b⟩
  |int b tb=>exact .of _ rfl ⟨EqAt.str_int a ta b tb,RcAt.str_int a ta b tb,RcNeAt.str_int a ta b tb⟩
  |str b tb=>exact .of _ rfl ⟨EqAt.str_str a ta b tb,RcAt.str_str a ta b tb,RcNeAt.str_str a ta b tb⟩
  |tup b ys its2 ws rp2 rv2 hb qb=>exact .of _ rfl ⟨EqAt.str_tuple a ta hb hu,RcAt.str_tuple a ta hb hu,RcNeAt.str_tuple a ta hb hu⟩
  |lst b ys its2 ws rp2 rv2 hb qb=>exact .of _ rfl ⟨EqAt.str_list a ta hb hu,RcAt.str_list a ta hb hu,RcNeAt.str_list a ta hb hu⟩
 |tup a xs its vs rp rv ha qa =>
  cases k2 with
  |non  => exact .of _ rfl ⟨EqAt.tuple_none ha hu,RcAt.tuple_none ha hu,RcNeAt.tuple_none ha hu⟩
  |bl b=>exact .of _ rfl ⟨EqAt.tuple_bool b ha hu,RcAt.tuple_bool b ha hu,RcNeAt.tuple_bool b ha hu⟩
  |int b tb=>exact .of _ rfl ⟨EqAt.tuple_int b tb ha hu,RcAt.tuple_int b tb ha hu,RcNeAt.tuple_int b tb ha hu⟩
  |str b tb=>exact .of _ rfl ⟨EqAt.tuple_str b tb ha hu,RcAt.tuple_str b tb ha hu,RcNeAt.tuple_str b tb ha hu⟩
  |tup b ys its2 ws rp2 rv2 hb qb=>exact .tt a b xs ys its its2 ha hb ⟨vs,ws,rp,rv,rp2,rv2⟩
  |lst b ys its2 ws rp2 rv2 hb qb=>exact .of _ rfl ⟨EqAt.tuple_list ha hb hu,RcAt.tuple_list ha hb hu,RcNeAt.tuple_list ha hb hu⟩
 |lst a xs its vs rp rv ha qa =>
  cases k2 with
  |non  => exact .of _ rfl ⟨EqAt.list_none ha hu,RcAt.list_none ha hu,RcNeAt.list_none ha hu⟩
  |bl b=>exact .of _ rfl ⟨EqAt.list_bool b ha hu,RcAt.list_bool b ha hu,RcNeAt.list_bool b ha hu⟩
  |int b tb=>exact .of _ rfl ⟨EqAt.list_int b tb ha hu,RcAt.list_int b tb ha hu,RcNeAt.list_int b tb ha hu⟩
  |str b tb=>exact .of _ rfl ⟨EqAt.list_str b tb ha hu,RcAt.list_str b tb ha hu,RcNeAt.list_str b tb ha hu⟩
  |tup b ys its2 ws rp2 rv2 hb qb=>exact .of _ rfl ⟨EqAt.list_tuple ha hb hu,RcAt.list_tuple ha hb hu,RcNeAt.list_tuple ha hb hu⟩
  |lst b ys its2 ws rp2 rv2 hb qb=>exact .ll a b xs ys its its2 ha hb ⟨vs,ws,rp,rv,rp2,rv2⟩
theorem E3.cast {A:Bv}{u u':Ac}{b c:Ar}(e:c=b)(h:E3 A s u u' b):E3 A s u u' c:=e▸h
theorem VP {A:Bv}{a b:Af}{xs ys:Aa D}{its its2:Aa Ac}(hu:A.units<Eg)(ha:s.heap.IsTuple a its.toArray)(hb:s.heap.IsTuple b its2.toArray)(l1:xs.length=its.length)(l2:ys.length=its2.length)
  (sub:∀ j (h1:j<its.toArray.size) (h2:j<its2.toArray.size),Ys A.in1 s its.toArray[j] its2.toArray[j] (eqD (xs.getD j .non) (ys.getD j .non))) (same:a=b->zX xs ys=true):E3 A s (.ref a) (.ref b) (zX xs ys):=by
 have e:zX xs ys=((Dd (min its.toArray.size its2.toArray.size)).all (λj=>eqD (xs.getD j .non) (ys.getD j .non))&&its.toArray.size == its2.toArray.size):=by rw[wG,l1,l2];rfl
 have R1:=RcAt.tuples ha hb hu sub;have R2:=RcNeAt.tuples ha hb hu sub;rw[<- e] at R1 R2;refine⟨?_,R1,R2⟩;by_cases hab:a=b
 .rw[same hab,hab]
  exact Zl _
 .exact dL hab R1
theorem SC {A:Bv}{a b:Af}{xs ys:Aa D}{its its2:Aa Ac}(hu:A.units<Eg)(ha:s.heap.IsList a its.toArray)(hb:s.heap.IsList b its2.toArray)(l1:xs.length=its.length)(l2:ys.length=its2.length)
  (sub:∀ j (h1:j<its.toArray.size) (h2:j<its2.toArray.size),Ys A.in1 s its.toArray[j] its2.toArray[j] (eqD (xs.getD j .non) (ys.getD j .non))) (same:a=b->zX xs ys=true):E3 A s (.ref a) (.ref b) (zX xs ys):=by
 have R:RcAt A s (.ref a) (.ref b) (zX xs ys)/\RcNeAt A s (.ref a) (.ref b) (!zX xs ys):=by
  by_cases hl:its.length=its2.length
  .have e:zX xs ys=(Dd its.toArray.size).all (λj=>eqD (xs.getD j .non) (ys.getD j .non)):=by rw[wG,l1,l2,<- hl,Qs,xL,Zm];rfl
   rw[e];exact⟨RcAt.lists ha hb hl hu sub,RcNeAt.lists ha hb hl hu sub⟩
  .rw[W7 (by rw[l1,l2];exact hl)]
   have hn:(its.toArray.size != its2.toArray.size)=true:=Qj.mpr hl;exact⟨RcAt.lists_lengths ha hb hn hu,RcNeAt.lists_lengths ha hb hn hu⟩
 refine⟨?_,R.1,R.2⟩;by_cases hab:a=b
 .rw[same hab,hab]
  exact Zl _
 .exact dL hab R.1
theorem dQ (I:Inv X pins σ H s)(r:Rel X.K H P α S):∀ (n:Ai) (A:Bv) (d d':D) (u u':Ac),A.units+n<Eg->pl n d=true->pl n d'=true->Kd X P α s d u->Kd X P α s d' u'->E3 A s u u' (eqD d d'):=by
 intro n
 induction n with
 |zero =>
  intro A d d' u u' hu h1 h2 k1 k2;cases VO hu k1 k2 with
  |of b e h=>exact h.cast e
  |tt=>exact Ee h1
  |ll=>exact Ee h1
 |succ m ih =>
  intro A d d' u u' hu h1 h2 k1 k2;have hu0:A.units<Eg:=Lx (Hm _ _) hu;have hu1:A.in1.units+m<Eg:=by show A.units+1+m<Eg;lia
  have sub:∀ {xs ys:Aa D} {its its2:Aa Ac},xs.all (pl m)=true->ys.all (pl m)=true->Seqs X P α xs ys its its2 ->
    ∀ j (h1:j<its.toArray.size) (h2:j<its2.toArray.size),Ys A.in1 s its.toArray[j] its2.toArray[j] (eqD (xs.getD j .non) (ys.getD j .non)):=λ{xs ys its its2} a1 a2 ⟨vs,ws,b1,b2,c1,c2⟩ j g1 g2=>by
   obtain⟨w1,y1,z1,m1⟩:=xY b1 b2 g1;obtain⟨w2,y2,z2,m2⟩:=xY c1 c2 g2;exact(ih A.in1 _ _ _ _ hu1 (xT a1 m1) (xT a2 m2) (y8 I r (xT a1 m1) y1 z1) (y8 I r (xT a2 m2) y2 z2)).eq
  cases VO hu0 k1 k2 with
  |of b e h=>exact h.cast e
  |tt a b xs ys its its2 ha hb q=>exact(VP hu0 ha hb q.len1 q.len2 (sub h1 h2 q) λe=>by subst e;exact(mT xs ys).symm.trans (eG I r (m+1) _ _ _ h1 h2 k1 k2)).cast (mT xs ys)
  |ll a b xs ys its its2 ha hb q=>exact(SC hu0 ha hb q.len1 q.len2 (sub h1 h2 q) λe=>by subst e;exact(mS xs ys).symm.trans (eG I r (m+1) _ _ _ h1 h2 k1 k2)).cast (mS xs ys)
noncomputable def zU:Ai:=30
noncomputable def gEq:G2:=λa b S=>if pl zU a&&pl zU b then .ok (.bl (eqD a b)) S else .bad
noncomputable def gNe:G2:=λa b S=>if pl zU a&&pl zU b then .ok (.bl (!eqD a b)) S else .bad
set_option tactic.hygienic true in
theorem R6 (hu:X.A.units+64<Eg):OpD X (Co .Eq) gEq:=by
 intro pins σ H s P α S v u vv uu a b Q I r rv ru pa pb af;unfold gEq at af
 split at af
 .rename_i h
  rw[Bi] at h;exact(dQ I r zU X.A a b vv uu (by unfold zU;lia) h.1 h.2 (y8 I r h.1 pa rv) (y8 I r h.2 pb ru)).rc _ _ _ _ ⟨.bl _,H,I,rfl,xr af r (by simp only[Rep])⟩
 .exact Aq af
set_option tactic.hygienic true in
theorem RB (hu:X.A.units+64<Eg):OpD X (Co .NotEq) gNe:=by
 intro pins σ H s P α S v u vv uu a b Q I r rv ru pa pb af;unfold gNe at af
 split at af
 .rename_i h
  rw[Bi] at h;exact(dQ I r zU X.A a b vv uu (by unfold zU;lia) h.1 h.2 (y8 I r h.1 pa rv) (y8 I r h.2 pb ru)).ne _ _ _ _ ⟨.bl _,H,I,rfl,xr af r (by simp only[Rep])⟩
 .exact Aq af
end
end _D
end
namespace _D
open PySem PySem.Spec PyProof.Rows _L
variable {pins:Aa (Af × Ci)}{kvs:Aa (Key × D)}{its us:Aa Ac}{xs ds:Aa D}{vs:Aa V}{f:Ac->Ac->Jw Ac}{s:Ag}{d:D}{v:V}{Q:VK}{σ:_L.St}
section
variable {X:Cx}
noncomputable def i2 (C:Ak->Ak->Ar)(f:Ak->Ak->D):G2:=λa b S=>match a,b with
 |.int i,.int j=>if C i j then .ok (f i j) S else .bad
 |_,_=>.bad
theorem aU {C:Ak->Ak->Ar}{f:Ak->Ak->D}{a b:D}{S:Sto}{P:Hp}{α:Aa Af}{Ok:D->Sto->Prop}(h:qG X P α (i2 C f a b S) Ok):∃ i j,a=.int i/\b=.int j/\C i j=true/\Ok (f i j) S:=by
 cases a with
 |int i =>
  cases b with
  |int j =>
   obtain⟨hc,h⟩:=vA (X:=X) h;exact⟨i,j,rfl,rfl,hc,h⟩
  |_=>exact Aq h
 |_=>exact Aq h
theorem xI {P:Hp}{α:Aa Af}{i:Ak}(r:Rep X.K P α (.int i) v):v=.int i:=by simpa only [Rep] using r
theorem fY {C':Ak->Ak->Prop}{v:Ak->Ak->V}{C:Ak->Ak->Ar}{d:Ak->Ak->D}(h:OpR X f (rI C' v))(hC:∀ i j,C i j=true->C' i j)(hv:∀ P α i j,Rep X.K P α (d i j) (v i j)):OpD X f (i2 C d):=
 OpD.of h λH P α S x y a b Q r p1 p2 af=>by
  obtain⟨i,j,rfl,rfl,hc,ok⟩:=aU af;exact⟨i,j,xI p1,xI p2,hC i j hc,xr ok r (hv P α i j)⟩
theorem gV {v:Ak->Ak->V}{d:Ak->Ak->D}(h:OpR X f (rI0 v))(hv:∀ P α i j,Rep X.K P α (d i j) (v i j)):OpD X f (i2 (λ_ _=>true) d):=
 OpD.of h λH P α S x y a b Q r p1 p2 af=>by
  obtain⟨i,j,rfl,rfl,_,ok⟩:=aU af;exact⟨i,j,xI p1,xI p2,xr ok r (hv P α i j)⟩
noncomputable def wB:G2:=i2 (λ_ _=>true) λi j=>.int (i-j)
theorem TL:OpD X (Fg .Sub) wB:=gV TY λP α i j=>by simp only[Rep]
noncomputable def dB (i j:Ak):Ar:=decide (-(2 ^ 64)<i/\i<2 ^ 64)||decide (-(2 ^ 64)<j/\j<2 ^ 64)
theorem KZ:OpD X (Fg .Mult) (i2 dB λi j=>.int (i*j)):=fY TV (λi j h=>by
 unfold dB at h;rw[Rk] at h;rcases h with h|h
 .exact .inl (Cf h)
 .exact .inr (Cf h)) λP α i j=>by simp only[Rep]
noncomputable def F1 (i j:Ak):Ar:=decide (0<j/\j<1073741824)
noncomputable def bN:G2:=i2 F1 λi j=>.int (i/j)
theorem TC:OpD X (Fg .FloorDiv) bN:=fY G9 (λi j h=>(Cf h:0<j/\j<1073741824)) λP α i j=>by simp only[Rep]
noncomputable def u9:G2:=i2 (λ_ j=>decide (0<j)) λi j=>.int (i % j)
theorem TJ:OpD X (Fg .Mod) u9:=fY TU (λi j h=>Cf h) λP α i j=>by simp only[Rep]
noncomputable def HB (i j:Ak):Ar:=decide (0<=j/\j<=1000000/\i.natAbs<2 ^ 64)
noncomputable def aS:G2:=i2 HB λi j=>.int (i ^ j.toNat)
theorem TK:OpD X (Fg .Pow) aS:=fY TX (λi j h=>(Cf h:0<=j/\j<=1000000/\i.natAbs<2 ^ 64)) λP α i j=>by simp only[Rep]
noncomputable def gLt:G2:=i2 (λ_ _=>true) λi j=>.bl (decide (i<j))
noncomputable def gLe:G2:=i2 (λ_ _=>true) λi j=>.bl (decide (i<=j))
noncomputable def gGt:G2:=i2 (λ_ _=>true) λi j=>.bl (decide (j<i))
noncomputable def gGe:G2:=i2 (λ_ _=>true) λi j=>.bl (decide (j<=i))
theorem U5:OpD X (Co .Lt) gLt:=gV RF λP α i j=>by simp only[Rep]
theorem RA:OpD X (Co .LtE) gLe:=gV RE λP α i j=>by simp only[Rep]
theorem R8:OpD X (Co .Gt) gGt:=gV RD λP α i j=>by simp only[Rep]
theorem R7:OpD X (Co .GtE) gGe:=gV RC λP α i j=>by simp only[Rep]
noncomputable def yT:D->Sto->Res D:=λa S=>match a with
 |.int i=>.ok (.int (-i)) S
 |_=>.bad
theorem D3:UnD X (WP .USub) yT:=by
 intro pins σ H s P α S v vv a Q I r rv p af;cases a with
 |int i=>exact D4 pins s σ H v vv Q I rv ⟨i,xI p,xr af r (by simp only[Rep])⟩
 |_=>exact Aq af
noncomputable def gIs:G2:=λa b S=>match b with
 |.non=>match a with
  |.non=>.ok (.bl true) S
  |_=>.ok (.bl false) S
 |_=>.bad
noncomputable def jG:G2:=λa b S=>match b with
 |.non=>match a with
  |.non=>.ok (.bl false) S
  |_=>.ok (.bl true) S
 |_=>.bad
theorem c5 {P:Hp}{α:Aa Af}(r:Rep X.K P α d v):decide (v=.non)=(match d with|.non=>true|_=>false):=by
 cases d <;> simp only[Rep] at r
 case non=>subst r;rfl
 case bl=>subst r;rfl
 case int=>subst r;rfl
 case str=>subst r;rfl
 case ty=>subst r;rfl
 case clo=>obtain⟨rfl,_⟩:=r;rfl
 case obj=>obtain⟨rfl,_⟩:=r;rfl
 case tup=>obtain⟨a,vs,rfl,_⟩:=r;rfl
 case lst=>obtain⟨a,vs,rfl,_⟩:=r;rfl
 case dct0=>obtain⟨a,rfl,_⟩:=r;rfl
 case loc=>obtain⟨a,rfl,_⟩:=r;rfl
 case exn=>obtain⟨a,rfl,_⟩:=r;rfl
 case fd=>obtain⟨a,o,vs,rfl,_⟩:=r;rfl
theorem R9:OpD X (Co .Is) gIs:=OpD.of TR λH P α S x y a b Q r p1 p2 af=>by
 cases b with
 |non =>
  simp only[Rep] at p2;refine⟨p2,?_⟩;rw[c5 p1];cases a <;> exact xr af r (by simp only[Rep])
 |_=>exact Aq af
theorem Y3:OpD X (Co .IsNot) jG:=OpD.of GA λH P α S x y a b Q r p1 p2 af=>by
 cases b with
 |non =>
  simp only[Rep] at p2;refine⟨p2,?_⟩;rw[c5 p1];cases a <;> exact xr af r (by simp only[Rep] <;> rfl)
 |_=>exact Aq af
noncomputable def xA:G2:=λa b S=>match a,b with
 |.int i,.int j=>.ok (.int (i+j)) S
 |.str x,.str y=>if x.length+y.length<=lim then .ok (.str (x++y)) S else .bad
 |.tup xs,.tup ys=>if xs.length+ys.length<=lim then .ok (.tup (xs++ys)) S else .bad
 |.lst xs,.lst ys=>if xs.length+ys.length<=lim then .ok (.lst (xs++ys)) S else .bad
 |_,_=>.bad
theorem yP {H P:Hp}{α:Aa Af}{S:Sto}(I:Inv X pins σ H s)(r:Rel X.K H P α S)(p:Rep X.K P α (.tup xs) v) :
  ∃ a vs its,v=.ref a/\SqT X.K P a vs/\qB X.K P α xs vs/\qI vs its/\Oy s.heap a its.toArray/\xs.length=its.length/\xs.length<=lim:=by
 simp only[Rep] at p;obtain⟨a,vs,rfl,q,t⟩:=p;obtain⟨its,rv,p1,z⟩:=I.tuple (xW r.sub q);exact⟨a,vs,its,rfl,q,t,rv,p1,by rw[t.length,rv.length],by rw[t.length,zV];exact z⟩
theorem jH {H P:Hp}{α:Aa Af}{S:Sto}(I:Inv X pins σ H s)(r:Rel X.K H P α S)(p:Rep X.K P α (.lst xs) v) :
  ∃ a vs its n,v=.ref a/\SqX X.K P a vs/\qB X.K P α xs vs/\qI vs its/\s.heap.get? a=Ab { cls:=.type "list",data:=.seq its.toArray n } /\ xs.length=its.length/\xs.length<=lim:=by
 simp only[Rep] at p;obtain⟨a,vs,rfl,q,t⟩:=p;have:∃ its n,qI vs its/\s.heap.get? a=Ab { cls:=.type "list",data:=.seq its.toArray n } /\ vs.length<=sizeLine:=by
  rcases q with q|⟨its,n,e,z,rv⟩
  .obtain⟨z,its,n,rv,e⟩:=(cF r.sub q).ok I.hok
   exact⟨its,n,rv,e,z⟩
  .exact⟨its,n,rv,I.kIn _ _ e,z⟩
 obtain⟨its,n,rv,e,z⟩:=this;exact⟨a,vs,its,n,rfl,q,t,rv,e,by rw[t.length,rv.length],by rw[t.length,zV];exact z⟩
theorem sC {H P:Hp}{α:Aa Af}{S:Sto}(I:Inv X pins σ H s)(r:Rel X.K H P α S)(t:qB X.K P α xs vs)(rv:qI vs its)(hz:xs.length<=lim)
  (ok:OkV X P α Q (.tup xs) S):EP X pins σ Q (.ref s.heap.objs.size) { s with heap:=s.heap.push { cls:=.type "tuple",data:=.seq its.toArray } }:=by
 refine⟨.ref s.heap.objs.size,_,I.laid (t':=s.toks) (o:=.tup vs) (λb ob q=>Ah _ q) (As _) ⟨by rw[<- t.length,<- zV];exact hz,its,rv,We _ _⟩,rfl,kK r (I.hok.fresh (As _)) t ok⟩
theorem WS {H P:Hp}{α:Aa Af}{S:Sto}(I:Inv X pins σ H s)(r:Rel X.K H P α S)(t:qB X.K P α xs vs)(rv:qI vs its)(hz:xs.length<=lim)
  (ok:OkV X P α Q (.lst xs) S):EP X pins σ Q (.ref s.heap.objs.size) { s with heap:=s.heap.push { cls:=.type "list",data:=.seq its.toArray } }:=by
 refine⟨.ref s.heap.objs.size,_,I.laid (t':=s.toks) (o:=.lst vs) (λb ob q=>Ah _ q) (As _) ⟨by rw[<- t.length,<- zV];exact hz,its,0,rv,Ba _ rfl⟩,rfl,yB r (I.hok.fresh (As _)) t ok⟩
theorem BX {H P:Hp}{α:Aa Af}{S:Sto}{ys:Aa D}{u:V}{vv uu:Ac}(I:Inv X pins σ H s)(r:Rel X.K H P α S)(rv:qF v vv)(ru:qF u uu)(pa:Rep X.K P α (.tup xs) v)(pb:Rep X.K P α (.tup ys) u)(hl:xs.length+ys.length<=lim)(af:OkV X P α Q (.tup (xs++ys)) S) :
  Ap (Au X.prog X.w) X.A (Fg .Add vv uu) (EP X pins σ Q) X.xe s:=by
 obtain⟨a,vs,its,rfl,q1,t1,rv1,h1,l1,_⟩:=yP I r pa;obtain⟨b,ws,its2,rfl,q2,t2,rv2,h2,l2,_⟩:=yP I r pb;cases rv;cases ru;by_cases hx:its=[]
 .obtain⟨⟨cls,dd,data,sl⟩,ho,hc,n,hd⟩:=id h1
  obtain⟨⟨cls2,dd2,data2,sl2⟩,ho2,hc2,n2,hd2⟩:=id h2;simp only at hc hd hc2 hd2;subst hc hd hc2 hd2;have hxs:xs=[]:=Md.mp (by rw[l1,hx];rfl)
  subst hxs;exact Vr ⟨_,ho,rfl⟩ ⟨_,ho2,rfl⟩ Qf Tz My Mc (Lr _ _) (tuple_addW0 a b its.toArray its2.toArray n n2 dd dd2 sl sl2 (by simp[hx]))
   ⟨ho,ho2,⟨.ref b,H,I,rfl,xr af r pb⟩⟩
 .refine _H.cat_tup h1 h2 hx (λz=>⟨.ref a,H,I,rfl,xr af r ?_⟩) (λz=>?_) (by rw[<- l1,<- l2,<- zV];exact hl)
  .have hys:ys=[]:=Md.mp (by rw[l2,z];rfl)
   rw[hys,Gz];exact pa
  .exact sC I r (t1.append t2) (rv1.append rv2) (by rw[Ct];exact hl) af
theorem BW {H P:Hp}{α:Aa Af}{S:Sto}{ys:Aa D}{u:V}{vv uu:Ac}(I:Inv X pins σ H s)(r:Rel X.K H P α S)(rv:qF v vv)(ru:qF u uu)(pa:Rep X.K P α (.lst xs) v)(pb:Rep X.K P α (.lst ys) u)(hl:xs.length+ys.length<=lim)(af:OkV X P α Q (.lst (xs++ys)) S) :
  Ap (Au X.prog X.w) X.A (Fg .Add vv uu) (EP X pins σ Q) X.xe s:=by
 obtain⟨a,vs,its,n,rfl,q1,t1,rv1,h1,l1,_⟩:=jH I r pa;obtain⟨b,ws,its2,n2,rfl,q2,t2,rv2,h2,l2,_⟩:=jH I r pb;cases rv;cases ru;refine PySem.P.add_list h1 h2 ?_ (by rw[Bh,Bh,<- l1,<- l2,<- zV];exact hl)
 rw[List.append_toArray];exact WS I r (t1.append t2) (rv1.append rv2) (by rw[Ct];exact hl) af
inductive AddV (a b:D)(S:Sto):Prop
 |bad (e:xA a b S=.bad)
 |int (i j:Ak) (ea:a=.int i) (eb:b=.int j)
 |str (x y:Av) (ea:a=.str x) (eb:b=.str y)
 |tup (x y:Aa D) (ea:a=.tup x) (eb:b=.tup y)
 |lst (x y:Aa D) (ea:a=.lst x) (eb:b=.lst y)
theorem H8 (a b:D)(S:Sto):AddV a b S:=by
 cases a with
 |int i=>cases b with
  |int j=>exact .int i j rfl rfl
  |_=>exact .bad rfl
 |str i=>cases b with
  |str j=>exact .str i j rfl rfl
  |_=>exact .bad rfl
 |tup i=>cases b with
  |tup j=>exact .tup i j rfl rfl
  |_=>exact .bad rfl
 |lst i=>cases b with
  |lst j=>exact .lst i j rfl rfl
  |_=>exact .bad rfl
 |_=>exact .bad rfl
theorem TB:OpD X (Fg .Add) xA:=by
 intro pins σ H s P α S v u vv uu a b Q I r rv ru pa pb af;cases H8 a b S with
 |bad e=>rw[e] at af;exact Aq af
 |int i j ea eb =>
  subst ea eb;exact TQ pins s σ H v u vv uu Q I rv ru ⟨i,j,xI pa,xI pb,xr af r (by simp only[Rep])⟩
 |str x y ea eb =>
  subst ea eb;obtain⟨hl,af⟩:=vA (X:=X) af;simp only[Rep] at pa pb;exact iH pins s σ H v u vv uu Q I rv ru ⟨x,y,pa,pb,by rw[<- zV];exact hl,xr af r (by simp only[Rep])⟩
 |tup xs ys ea eb =>
  subst ea eb;obtain⟨hl,af⟩:=vA (X:=X) af;exact BX I r rv ru pa pb hl af
 |lst xs ys ea eb =>
  subst ea eb;obtain⟨hl,af⟩:=vA (X:=X) af;exact BW I r rv ru pa pb hl af
noncomputable def gIx:G2:=λa b S=>match b with
 |.int k=>match a with
  |.tup xs=>yV (atI xs k) S
  |.lst xs=>yV (atI xs k) S
  |.loc i=>match S[i]? with
   |some (.lst xs)=>yV (atI xs k) S
   |_=>.bad
  |_=>.bad
 |_=>.bad
theorem mI {P:Hp}{α:Aa Af}{k:Ak}(rp:qB X.K P α ds vs)(h:atI ds k=Ab d):∃ v,atI vs k=Ab v/\Rep X.K P α d v:=by
 unfold atI at h ⊢;rw[<- rp.length];cases q:ixN ds.length k with
 |none=>rw[q] at h;cases h
 |some j =>
  rw[q] at h;obtain⟨v,h1,h2⟩:=rp.get (show ds[j]? = Ab d from h)
  exact⟨v,h1,h2⟩
theorem HN:IxD X gIx:=by
 intro value slice pins σ H s P α S v u vv uu a b Q I r rv ru pa pb af hs;cases b with
 |int k =>
  have hk:=xI pb;cases a with
  |tup xs =>
   obtain⟨d,e,ok⟩:=yW (X:=X) af;simp only[Rep] at pa;obtain⟨p,vs,rfl,q,t⟩:=pa;obtain⟨w,e1,rw'⟩:=mI t e;exact MK value slice pins s σ H _ u vv uu Q I rv ru ⟨p,vs,k,w,rfl,hk,xW r.sub q,e1,xr ok r rw'⟩ hs
  |lst xs =>
   obtain⟨d,e,ok⟩:=yW (X:=X) af;simp only[Rep] at pa;obtain⟨p,vs,rfl,q,t⟩:=pa;obtain⟨w,e1,rw'⟩:=mI t e;exact eT value slice pins s σ H _ u vv uu Q I rv ru ⟨p,vs,k,w,rfl,hk,(xR r.sub q).l,e1,xr ok r rw'⟩ hs
  |loc i =>
   obtain⟨xs,hS,af⟩:=kJ (X:=X) (f:=λxs=>yV (atI xs k) S) af;obtain⟨d,e,ok⟩:=yW (X:=X) af;simp only[Rep] at pa;obtain⟨p,rfl,q⟩:=pa;obtain⟨vs,z,t⟩:=r.at' i p _ q hS;obtain⟨w,e1,rw'⟩:=mI t e;exact eT value slice pins s σ H _ u vv uu Q I rv ru ⟨p,vs,k,w,rfl,hk,.of z,e1,xr ok r rw'⟩ hs
  |_=>exact Aq af
 |_=>exact Aq af
noncomputable def mZ:G3:=λo i d S=>match o,i with
 |.loc n,.int k=>match S[n]? with
  |some (.lst xs)=>match ixN xs.length k with
   |some j=>.ok () (S.set n (.lst (xs.set j d)))
   |none=>.bad
  |_=>.bad
 |_,_=>.bad
theorem RZ:d3 X (lZ X mZ):=by
 intro pins s σ H o i v ov iv u Q I ro ri rv h;obtain⟨P,α,S,a,b,d,r,pa,pb,pd,af⟩:=h;cases a with
 |loc n =>
  cases b with
  |int k =>
   obtain⟨xs,hS,af⟩:=kJ (X:=X) (f:=λxs=>match ixN xs.length k with|some j=>.ok () (S.set n (.lst (xs.set j d)))|none=>.bad) af
   cases hj:ixN xs.length k with
   |none=>rw[hj] at af;exact Aq af
   |some j =>
    rw[hj] at af;simp only[Rep] at pa;obtain⟨p,rfl,q⟩:=pa;obtain⟨vs,z,t⟩:=r.at' n p _ q hS;refine YZ pins s σ H _ i v ov iv u Q I ro ri rv ⟨p,vs,k,j,rfl,xI pb,z,by rw[<- t.length];exact hj,?_⟩
    refine af _ P α (r.put (m':=.lst (xs.set j d)) q hS (by intro z;cases z) ⟨vs.set j v,qX,t.set pd j⟩) (qE.refl _) (Bl _)
  |_=>exact Aq af
 |_=>exact Aq af
noncomputable def i9:D->Sto->Am Ai
 |.tup xs,_=>Ab xs.length
 |.lst xs,_=>Ab xs.length
 |.str x,_=>if x.length<=lim then Ab x.length else none
 |.dct0,_=>Ab 0
 |.loc i,S=>match S[i]? with
  |some (.lst xs)=>Ab xs.length
  |_=>none
 |_,_=>none
noncomputable def dU:DF:=λds S=>match ds with
 |[d]=>match i9 d S with
  |some n=>.ok (.int n) S
  |none=>.bad
 |_=>.bad
end
section
variable {X:Cx}
theorem uR {P:Hp}{α:Aa Af}(rp:qB X.K P α [d] vs)(rv:qI vs us):∃ v u,vs=[v]/\us=[u]/\Rep X.K P α d v/\qF v u:=by
 obtain⟨v,ws,rfl,p,t⟩:=rp.cons_inv;have:=t.nil_inv;subst this;obtain⟨u,rfl,q⟩:=kU rv;exact⟨v,u,rfl,rfl,p,q⟩
theorem lX {P:Hp}{α:Aa Af}{e:D}(rp:qB X.K P α [d,e] vs)(rv:qI vs us):∃ v w u x,vs=[v,w]/\us=[u,x]/\Rep X.K P α d v/\Rep X.K P α e w/\qF v u/\qF w x:=by
 obtain⟨v,ws,rfl,p,t⟩:=rp.cons_inv;obtain⟨w,ws,rfl,p',t⟩:=t.cons_inv;have:=t.nil_inv;subst this;obtain⟨u,x,rfl,q,q'⟩:=iY rv;exact⟨v,w,u,x,rfl,rfl,p,p',q,q'⟩
noncomputable def i8 (d:D)(S:Sto):Am Ai:=match d with
 |.dct0=>none
 |_=>i9 d S
theorem MU {H P:Hp}{α:Aa Af}{S:Sto}{n:Ai}(r:Rel X.K H P α S)(p:Rep X.K P α d v)(hn:i8 d S=Ab n):BS X.K v H n:=by
 cases d with
 |str x =>
  cases (show v=.str x from p)
  obtain⟨hl,rfl⟩:=uB hn;exact⟨by rw[<- zV];exact hl,rfl⟩
 |tup xs =>
  simp only[Rep] at p;obtain⟨a,ws,rfl,sq,t⟩:=p;cases hn;exact .inr ⟨ws,xW r.sub sq,t.length⟩
 |lst xs =>
  simp only[Rep] at p;obtain⟨a,ws,rfl,sq,t⟩:=p;cases hn;exact .inl ⟨ws,(xR r.sub sq).l,t.length⟩
 |loc i =>
  simp only[Rep] at p;obtain⟨a,rfl,e⟩:=p;obtain⟨xs,hS,hn⟩:=MV (f:=λxs=>Ab xs.length) hn;cases hn;obtain⟨ws,z,t⟩:=r.at' i a _ e hS;exact .inl ⟨ws,.of z,t.length⟩
 |_=>exact nn hn
inductive LenD1 (ds:Aa D)(S:Sto)(r:Res D):Prop
 |bad (e:r=.bad)
 |of (d:D) (n:Ai) (ed:ds=[d]) (hn:i8 d S=Ab n) (e:r=.ok (.int n) S)
theorem SQ (ds:Aa D)(S:Sto):LenD1 ds S (match ds with|[.dct0]=>.bad|_=>dU ds S):=by
 cases ds with
 |nil=>exact .bad rfl
 |cons d ds =>
  cases ds with
  |cons _ _=>cases d <;> exact .bad rfl
  |nil =>
   have z:(match [d] with|[D.dct0]=>Res.bad|_=>dU [d] S)=(match i8 d S with|some n=>Res.ok (D.int n) S|none=>.bad):=by cases d <;> rfl
   rw[z];cases hn:i8 d S with
   |none=>exact .bad rfl
   |some n=>exact .of d n rfl hn rfl
theorem F6 (hD:Ng):yI X (.builtin "len") (λds S=>match ds with|[.dct0]=>.bad|_=>dU ds S):=by
 intro pins σ H s P α S vs us ds Q I r rv rp af;have af1:qG X P α (match ds with|[D.dct0]=>Res.bad|_=>dU ds S) (OkV X P α Q):=af
 clear af;cases SQ ds S with
 |bad e=>rw[e] at af1;exact Aq af1
 |of d n ed hn e =>
  rw[e] at af1;subst ed;obtain⟨v,u,rfl,rfl,p,q⟩:=uR rp rv;exact XA pins s σ H _ _ Q I rv ⟨v,n,rfl,MU r p hn,xr af1 r (by simp only[Rep])⟩
noncomputable def tyD:D->Sto->Am Et
 |.non,_=>Ab "NoneType"
 |.bl _,_=>Ab "bool"
 |.int _,_=>Ab "int"
 |.str _,_=>Ab "str"
 |.tup _,_=>Ab "tuple"
 |.lst _,_=>Ab "list"
 |.dct0,_=>Ab "dict"
 |.loc i,S=>match S[i]? with
  |some (.lst _)=>Ab "list"
  |some (.dct _)=>Ab "dict"
  |_=>none
 |_,_=>none
noncomputable def jZ (a b:Et):Ar:=a == b||(a == "bool" && b == "int")
noncomputable def bS (b:Et):Ar:=b == "int" || b == "bool" || b == "tuple" || b == "list" || b == "str" || b == "dict"
noncomputable def MR (a b:Et):Am Ar:=if (Ic a == Ic b)=true then Ab true else if PySem.W.kitMeta b=true then (fastBuiltinMro a).map (·.contains (.type b)) else none
noncomputable def tyL:Aa Et:=["NoneType","bool","int","str","tuple","list","dict"]
noncomputable def okL:Aa Et:=["int","bool","tuple","list","str","dict"]
theorem K9:(tyL.all λa=>okL.all λb=>decide (MR a b=Ab (jZ a b)))=true:=by decide +kernel
theorem TM {b:Et}(hb:bS b=true):b∈okL:=by simpa [bS,okL,or_assoc] using hb
theorem KA {K:Aj}{a b:Et}(ha:a∈tyL)(hb:bS b=true):Ki K (.type a) (.type b)=Ab (jZ a b):=
 Cf (p:=MR a b=Ab (jZ a b)) (Ca.mp (Ca.mp K9 a ha) b (TM hb))
noncomputable def vI:DF:=λds S=>match ds with
 |[d,.ty b]=>if bS b then match tyD d S with
   |some a=>.ok (.bl (jZ a b)) S
   |none=>.bad
  else .bad
 |_=>.bad
inductive TyV (X:Cx)(H:Hp)(v:V)(a:Et):Prop
 |of (t:TyOf X.K H v (.type a))
 |tup (p:Af) (vs:Aa V) (e:v=.ref p) (q:SqT X.K H p vs) (ea:a = "tuple")
 |lst (p:Af) (vs:Aa V) (e:v=.ref p) (q:SqL X.K H p vs) (ea:a = "list")
theorem D1 {S:Sto}{a:Et}(h:tyD d S=Ab a):a∈tyL:=by
 cases d with
 |non=>cases h;exact .head _
 |bl b=>cases h;exact .tail _ (.head _)
 |int i=>cases h;exact .tail _ (.tail _ (.head _))
 |str x=>cases h;exact .tail _ (.tail _ (.tail _ (.head _)))
 |tup xs=>cases h;exact .tail _ (.tail _ (.tail _ (.tail _ (.head _))))
 |lst xs=>cases h;exact .tail _ (.tail _ (.tail _ (.tail _ (.tail _ (.head _)))))
 |dct0=>cases h;exact .tail _ (.tail _ (.tail _ (.tail _ (.tail _ (.tail _ (.head _))))))
 |loc i =>
  rcases tO (f:=λ_=>Ab "list") (g:=λ_=>Ab "dict") h with⟨_,_,h⟩|⟨_,_,h⟩
  .cases h;exact .tail _ (.tail _ (.tail _ (.tail _ (.tail _ (.head _)))))
  .cases h;exact .tail _ (.tail _ (.tail _ (.tail _ (.tail _ (.tail _ (.head _))))))
 |_=>exact nn h
theorem E8 {H P:Hp}{α:Aa Af}{S:Sto}{a:Et}(r:Rel X.K H P α S)(p:Rep X.K P α d v)(h:tyD d S=Ab a):TyV X H v a:=by
 cases d with
 |non=>cases h;cases (show v=.non from p);exact .of .non
 |bl b=>cases h;cases (show v=.bl b from p);exact .of (.bl b)
 |int i=>cases h;cases (show v=.int i from p);exact .of (.int i)
 |str x=>cases h;cases (show v=.str x from p);exact .of (.str x)
 |tup xs =>
  cases h;simp only[Rep] at p;obtain⟨a,vs,e,q,t⟩:=p;exact .tup a vs e (xW r.sub q) rfl
 |lst xs =>
  cases h;simp only[Rep] at p;obtain⟨a,vs,e,q,t⟩:=p;exact .lst a vs e (xR r.sub q).l rfl
 |dct0 =>
  cases h;simp only[Rep] at p;obtain⟨a,rfl,q⟩:=p;exact .of (.dK (r.sub _ _ q))
 |loc i =>
  simp only[Rep] at p;obtain⟨a,rfl,q⟩:=p;rcases tO (f:=λ_=>Ab "list") (g:=λ_=>Ab "dict") h with⟨xs,hS,h⟩|⟨kvs,hS,h⟩
  .cases h
   obtain⟨vs,z,t⟩:=r.at' i a _ q hS;exact .of (.lst z)
  .cases h
   obtain⟨vs,z,t⟩:=r.at' i a _ q hS;exact .of (.dK z)
 |_=>exact nn h
inductive IsiV (ds:Aa D)(S:Sto):Prop
 |bad (e:vI ds S=.bad)
 |of (d:D) (b a:Et) (ed:ds=[d,.ty b]) (hb:bS b=true) (ha:tyD d S=Ab a) (e:vI ds S=.ok (.bl (jZ a b)) S)
theorem HM (ds:Aa D)(S:Sto):IsiV ds S:=by
 cases ds with
 |nil=>exact .bad rfl
 |cons d ds =>
  cases ds with
  |nil=>exact .bad rfl
  |cons e ds =>
   cases ds with
   |cons _ _=>cases e <;> exact .bad rfl
   |nil =>
    cases e with
    |ty b =>
     have z:vI [d,.ty b] S=if bS b then (match tyD d S with|some a=>.ok (.bl (jZ a b)) S|none=>.bad) else .bad:=rfl
     by_cases hb:bS b=true
     .rw[Bp hb] at z
      cases ha:tyD d S with
      |none=>rw[ha] at z;exact .bad z
      |some a=>rw[ha] at z;exact .of d b a rfl hb ha z
     .rw[Bj hb] at z
      exact .bad z
    |_=>exact .bad rfl
theorem F5:yI X (.builtin "isinstance") vI:=by
 intro pins σ H s P α S vs us ds Q I r rv rp af;cases HM ds S with
 |bad e=>rw[e] at af;exact Aq af
 |of d b a ed hb ha e =>
  subst ed;rw[e] at af;obtain⟨v,w,u,x,rfl,rfl,p,p',q,q'⟩:=lX rp rv;simp only[Rep] at p';subst p';cases (show x=Ic b from q')
  have kit:=KA (K:=X.K) (D1 ha) hb;have fin:∀ tk,EP X pins σ Q (.bool (jZ a b)) { s with toks:=tk }:=λtk=>⟨.bl _,H,I.tok tk,rfl,xr af r (by simp only[Rep])⟩
  cases E8 r p ha with
  |of ht=>exact Q2 I q ht kit fin
  |tup p' ws e sq ea =>
   subst e ea;cases (show u=Dm p' from q)
   obtain⟨its,rv',⟨o,h1,h2,_⟩,_⟩:=I.tuple sq;exact Fa Uz I.kIn ⟨o,h1,h2⟩ kit (λz=>nomatch z) fin
  |lst p' ws e sq ea =>
   subst e ea;cases (show u=Dm p' from q)
   obtain⟨its,rv',⟨o,_,h1,h2,_⟩,_⟩:=I.list sq;exact Fa OW I.kIn ⟨o,h1,h2⟩ kit (λz=>nomatch z) fin
noncomputable def wF:Aa D->Am (Aa Ar)
 |[]=>Ab []
 |.bl b::r=>(wF r).map (b::·)
 |_=>none
theorem jQ {P:Hp}{α:Aa Af}:∀ {ds:Aa D} {bs:Aa Ar} {vs:Aa V} {us:Aa Ac},wF ds=Ab bs->qB X.K P α ds vs->qI vs us->us=bs.map Hv
 |[],bs,vs,us,h,rp,rv=>by
  cases h;have:=rp.nil_inv;subst this;cases rv;rfl
 |d::ds,bs,vs,us,h,rp,rv=>by
  cases d with
  |bl b =>
   obtain⟨bs',q,rfl⟩:=Ha.mp (show (wF ds).map (b::·)=Ab bs from h)
   obtain⟨w,ws,rfl,p,t⟩:=rp.cons_inv;simp only[Rep] at p;subst p;cases rv with
   |cons q1 q2 =>
    cases (show _=Hv b from q1)
    rw[jQ q t q2];rfl
  |_=>exact nn h
noncomputable def gP (any:Ar):DF:=λds S=>match ds with
 |[d]=>match (xB d).bind wF with
  |some bs=>.ok (.bl (if any then bs.any id else bs.all id)) S
  |none=>.bad
 |_=>.bad
theorem lA (bs:Aa Ar):((Dd bs.length).all λi=>bs.getD i false)=bs.all id:=by
 induction bs with
 |nil=>rfl
 |cons b bs ih =>
  rw[Bd,Jq,Nq,Kl,Nq,<- ih];rfl
theorem lB (bs:Aa Ar):((Dd bs.length).any λi=>bs.getD i false)=bs.any id:=by
 induction bs with
 |nil=>rfl
 |cons b bs ih =>
  rw[Bd,Jq,IU,Qt,IU,<- ih];rfl
theorem Q5 {H:Hp}{o:Ci}{h':Br}{tk:Ai}(I:Inv X pins σ H s)(k:∀ b ob,b ∉ [s.heap.objs.size]->(s.heap.push o).get? b=Ab ob->h'.get? b=Ab ob):Inv X pins σ H { s with heap:=h',toks:=tk }:=
 I.kept λb u e=>k b u (by simp;exact Cq (Az e)) (Ah _ e)
theorem uS {bs:Aa Ar}(hi:its=bs.map Hv){A:Bv}:TruthOf X.prog X.w A (λi v=>its.toArray[i]? = Ab v) (λi=>bs.getD i false):=λi v s' Q' E' hv hQ=>by
 subst hi;have hv':(bs.map Hv)[i]? = Ab v:=by simpa using hv
 rw[Du] at hv';cases e:bs[i]? with
 |none=>rw[e] at hv';exact nn hv'
 |some b =>
  rw[e] at hv';cases Cz hv';have:bs.getD i false=b:=by simp[HT,e]
  have hQ':Q' (bs.getD i false) s':=hQ;rw[this] at hQ';exact Wf hQ'
theorem JS {any:Ar}{S:Sto}{P:Hp}{α:Aa Af}{Ok:D->Sto->Prop}(h:qG X P α (gP any ds S) Ok):∃ d xs bs,ds=[d]/\ItV d xs/\wF xs=Ab bs/\Ok (.bl (if any then bs.any id else bs.all id)) S:=by
 obtain⟨d,rfl,h1⟩:=Z5 (X:=X) (β:=D) (g:=λd=>match (xB d).bind wF with|some bs=>.ok (D.bl (if any then bs.any id else bs.all id)) S|none=>.bad) h
 cases hb:(xB d).bind wF with
 |none=>rw[hb] at h1;exact Aq h1
 |some bs =>
  rw[hb] at h1;obtain⟨xs,hx,hbs⟩:=Er.mp hb;exact⟨d,xs,bs,rfl,itV hx,hbs,h1⟩
theorem F3 (any:Ar)(hc:X.calm=true):yI X (.builtin (if any then "any" else "all")) (gP any):=by
 intro pins σ H s P α S vs us ds Q I r rv rp af;obtain⟨d,xs,bs,ed,hd,hbs,ok⟩:=JS af;clear af;subst ed;obtain⟨v,u,rfl,rfl,p,q⟩:=uR rp rv;clear rp;have fin:∀ {o:Ci} (h':Br) (tk:Ai),(∀ b ob,b ∉ [s.heap.objs.size]->(s.heap.push o).get? b=Ab ob->h'.get? b=Ab ob)->EP X pins σ Q (.bool (if any then bs.any id else bs.all id)) { s with heap:=h',toks:=tk }:=
  λ{o} h' tk k=>⟨.bl _,H,Q5 I k,rfl,xr ok r (by simp only[Rep])⟩
 clear rv ok;have hh:X.A.in1.handled=none:=I.ok.hd hc;cases hd with
 |tup ed =>
  subst ed;obtain⟨a,ws,its,rfl,sq,t,rvi,ht,hl,_⟩:=yP I r p;cases (show u=Dm a from q)
  have hi:=jQ hbs t rvi;have hlen:its.toArray.size=bs.length:=by rw[hi];simp
  have hne:a≠s.heap.objs.size:=by obtain⟨o,e,_⟩:=ht;exact Cq (Az e)
  have W:=wE (prog:=X.prog) (w:=X.w) hh s.heap.objs.size a hne its.toArray;have hT:∀ o,(s.heap.push o).IsTuple a its.toArray:=λo=>by obtain⟨o,e,c⟩:=ht;exact⟨o,Ah _ e,c⟩
  have ht':s.heap.IsTuple a its.toArray:=ht;cases any with
  |false =>
   refine call_all_walk (Gn ht' ⟨s.heap.objs.size,_,_,_,_,_,_,rfl,W,⟨⟨_,Ba _ rfl,rfl,rfl⟩,hT _⟩,uS hi,λh' tk k=>?_⟩);rw[hlen,lA];exact fin h' tk k
  |true =>
   refine call_any_walk (Gn ht' ⟨s.heap.objs.size,_,_,_,_,_,_,rfl,W,⟨⟨_,Ba _ rfl,rfl,rfl⟩,hT _⟩,uS hi,λh' tk k=>?_⟩);rw[hlen,lB];exact fin h' tk k
 |lst ed =>
  subst ed;obtain⟨a,ws,its,n,rfl,sq,t,rvi,ht,hl,_⟩:=jH I r p;cases (show u=Dm a from q)
  have hL:s.heap.IsList a its.toArray:=⟨_,ht,rfl,n,rfl⟩;have hi:=jQ hbs t rvi;have hlen:its.toArray.size=bs.length:=by rw[hi];simp
  have hne:a≠s.heap.objs.size:=Cq (Az ht);have W:=x0 (prog:=X.prog) (w:=X.w) hh s.heap.objs.size a hne its.toArray;have hL':∀ o,(s.heap.push o).IsList a its.toArray:=λo=>⟨_,Ah _ ht,rfl,n,rfl⟩;cases any with
  |false =>
   refine call_all_walk (Gd hL ⟨s.heap.objs.size,_,_,_,_,_,_,rfl,W,⟨⟨_,Ba _ rfl,rfl,rfl⟩,hL' _⟩,uS hi,λh' tk k=>?_⟩);rw[hlen,lA];exact fin h' tk k
  |true =>
   refine call_any_walk (Gd hL ⟨s.heap.objs.size,_,_,_,_,_,_,rfl,W,⟨⟨_,Ba _ rfl,rfl,rfl⟩,hL' _⟩,uS hi,λh' tk k=>?_⟩);rw[hlen,lB];exact fin h' tk k
noncomputable def aQ:DF:=λds S=>match ds with
 |[.int i]=>.ok (.int i) S
 |[.bl b]=>.ok (.int (b01 b)) S
 |_=>.bad
inductive IntV (ds:Aa D)(S:Sto):Prop
 |bad (e:aQ ds S=.bad)
 |int (i:Ak) (e:ds=[.int i])
 |bl (b:Ar) (e:ds=[.bl b])
theorem HK (ds:Aa D)(S:Sto):IntV ds S:=by
 cases ds with
 |nil=>exact .bad rfl
 |cons d ds =>
  cases ds with
  |cons _ _=>cases d <;> exact .bad rfl
  |nil =>
   cases d with
   |int i=>exact .int i rfl
   |bl b=>exact .bl b rfl
   |_=>exact .bad rfl
theorem F4:yI X (.type "int") aQ:=by
 intro pins σ H s P α S vs us ds Q I r rv rp af;cases HK ds S with
 |bad e=>rw[e] at af;exact Aq af
 |int i e =>
  subst e;obtain⟨v,u,rfl,rfl,p,q⟩:=uR rp rv;exact nO pins s σ H _ _ Q I rv (.inl ⟨_,by rw[xI p],xr af r (by simp only[Rep])⟩)
 |bl b e =>
  subst e;obtain⟨v,u,rfl,rfl,p,q⟩:=uR rp rv;simp only[Rep] at p;subst p;exact nO pins s σ H _ _ Q I rv (.inr ⟨_,rfl,xr af r (by simp only[Rep];rfl)⟩)
noncomputable def v8:DF:=λds S=>match ds with
 |[d]=>match xB d with
  |some xs=>.ok (.tup xs) S
  |none=>.bad
 |_=>.bad
theorem XD:yI X (.type "tuple") v8:=by
 intro pins σ H s P α S vs us ds Q I r rv rp af;obtain⟨d,rfl,af1⟩:=Z5 (X:=X) (β:=D) (g:=λd=>match xB d with|some xs=>.ok (D.tup xs) S|none=>.bad) af
 obtain⟨xs,hx,af2⟩:∃ xs,xB d=Ab xs/\OkV X P α Q (.tup xs) S:=by
  cases hx:xB d with
  |none=>rw[hx] at af1;exact Aq af1
  |some xs=>rw[hx] at af1;exact⟨xs,rfl,af1⟩
 obtain⟨v,u,rfl,rfl,p,q⟩:=uR rp rv;cases itV hx with
 |tup e =>
  subst e;have p0:=p;simp only[Rep] at p;obtain⟨a,ws,rfl,sq,t⟩:=p;exact gB pins s σ H _ _ Q I rv ⟨a,ws,rfl,.inr ⟨xW r.sub sq,xr af2 r p0⟩⟩
 |lst e =>
  subst e;simp only[Rep] at p;obtain⟨a,ws,rfl,sq,t⟩:=p;exact gB pins s σ H _ _ Q I rv ⟨a,ws,rfl,.inl ⟨(xR r.sub sq).l,λl hl=>kK r hl t af2⟩⟩
end
section
variable {X:Cx}
structure ClsK (K:Aj)(cl:Aa Af):Prop where
 ex:∀ C∈cl,ExnK K C
 one:∀ C∈cl,∀ B∈cl,Ki K (.ref C) (.ref B)=Ab (C == B)
 ve:∀ C∈cl,Ki K (.ref C) (.type "ValueError")=Ab true
noncomputable def A0 (cl:Aa Af):DF:=λds S=>match ds with
 |[.exn (.ref C),.obj B]=>if cl.contains C&&cl.contains B then .ok (.bl (C == B)) S else .bad
 |[.exn (.ref C),.ty b]=>if cl.contains C&&(b == "ValueError") then .ok (.bl true) S else .bad
 |_=>vI ds S
def MtD (X:Cx)(id:Et)(g:D->Aa D->Sto->Res D):Prop:=
 ∀ (pins:Aa (Af × Ci)) (σ : _L.St) (H:Hp) (s:Ag) (P:Hp) (α : Aa Af) (S:Sto) (v:V) (vv:Ac) (vs:Aa V) (us:Aa Ac) (a:D) (ds:Aa D) (Q:VK),Inv X pins σ H s->Rel X.K H P α S->qF v vv->Rep X.K P α a v->qI vs us->qB X.K P α ds vs->qR X P α (g a ds S) Q ->
  Ap (Au X.prog X.w) X.A (call (.builtin id) (vv::us)) (EP X pins σ Q) X.xe s
noncomputable def dBm (T:Et)(g:D->Aa D->Sto->Res D)(fo:DE)(fa:DA):DE:=λenv S=>(fo env S).bind λa S1=>if (tyD a S1 == Ab T)=true then (fa env S1).bind λds S2=>g a ds S2 else .bad
theorem rE {H P:Hp}{α:Aa Af}{S:Sto}{a:D}{T:Et}(r:Rel X.K H P α S)(p:Rep X.K P α a v)(h:tyD a S=Ab T)(hT:T = "list" \/ T = "dict" \/ T = "int" \/ T = "str"):tyV X.K T v H:=by
 cases a with
 |int i=>cases h;simp only[Rep] at p;subst p;rfl
 |str x=>cases h;simp only[Rep] at p;subst p;rfl
 |lst xs =>
  cases h;simp only[Rep] at p;obtain⟨b,vs,rfl,q,t⟩:=p;exact .inl ⟨rfl,vs,(xR r.sub q).l⟩
 |dct0 =>
  cases h;simp only[Rep] at p;obtain⟨b,rfl,q⟩:=p;exact .inr (.inr (.inl ⟨rfl,.inl ⟨[],r.sub _ _ q⟩⟩))
 |loc i =>
  simp only[Rep] at p;obtain⟨b,rfl,q⟩:=p;rcases tO (f:=λ_=>Ab "list") (g:=λ_=>Ab "dict") h with⟨xs,hS,h⟩|⟨kvs,hS,h⟩
  .cases h
   obtain⟨vs,z,t⟩:=r.at' i b _ q hS;exact .inl ⟨rfl,vs,SqL.of z⟩
  .cases h
   obtain⟨vs,z,t⟩:=r.at' i b _ q hS;exact .inr (.inr (.inl ⟨rfl,.inl ⟨vs,z⟩⟩))
 |non=>cases h;exact absurd hT (by decide)
 |bl b=>cases h;exact absurd hT (by decide)
 |tup xs=>cases h;exact absurd hT (by decide)
 |_=>exact nn h
variable {o e:Bt}{es:Aa Bt}{fo:DE}{fa:DA}{name:Av}{apos cpos:Eu}{T id:Et}{g:D->Aa D->Sto->Res D}
theorem FD {P:Hp}{α:Aa Af}{a:D}{S:Sto}{β:Type}{k:Res β}{Ok:β->Sto->Prop}(h:qG X P α (if (tyD a S == Ab T)=true then k else .bad) Ok):tyD a S=Ab T/\qG X P α k Ok:=by
 by_cases z:(tyD a S == Ab T)=true
 .rw[Bp z] at h;exact⟨Qh.mp z,h⟩
 .rw[Bj z] at h;exact Aq h
theorem DP (pa:PlainAttrs T)(slot:Slot T name id)(hty:typeOf (.builtin id)=pure (.type "method_descriptor"))(hT:T = "list" \/ T = "dict" \/ T = "int" \/ T = "str")(hm:MtD X id g)(ho:PE X o (tD X fo))(ha:PA X (e::es) (tDA X fa))
  (hbase:Kx o name X.env (eval o X.env)=eval o X.env:=by rfl)
  (hfew:((Gi cpos (Bm (e::es) X.env)).all (λx=>!x.1)&&(backToKw cpos (keywordEach [] X.env)).all (λx=>x.1.isSome)
   && decide ((e::es).length+([]:Aa Zn).length+(if ([] : Aa Zn).isEmpty then 0 else 1)<30))=true:=by rfl)
  (hline:(apos.endLine == cpos.line)=true:=by rfl) (hs:Bm (e::es) X.env=(false,eval e X.env)::Bm es X.env:=by rfl) (hplain:(Gi cpos (Bm es X.env)).any (·.1)=false:=by rfl) :
  PE X (.Call (.Attribute o name apos) (e::es) [] cpos) (tD X (dBm T g fo fa)):=by
 intro pins s σ H Q I h;obtain⟨P,α,env,S,r,re,af⟩:=h;refine wpAny_Call_method_late hbase hfew hline rfl (thn (zL ho I r re af) λvv s1 ⟨v,H1,P1,α1,d,S1,G1,af1⟩=>?_);obtain⟨ht,af2⟩:=FD af1;obtain⟨h1,h2⟩:=rD G1.inv G1.val (rE G1.rel G1.rep ht hT);refine⟨T,id,pa,slot,hty,h1,h2,?_⟩;have hA:=wY ha G1.inv G1.rel G1.env (P:=P1) (α:=α1) (Ok:=OkV X P1 α1 Q) (qR.base G1.same G1.pre (r:=(fa env S1).bind λds S2=>g d ds S2) af2) cpos;rw[hs] at hA ⊢;refine Nb (by show (false||(Gi cpos (Bm es X.env)).any (·.1))=false;rw[hplain] <;> rfl) (Tj ?_)
 exact thn hA λus s2 ⟨vs,H2,P2,α2,ds,S2,I2,rv,r2,re2,rp2,e1,e2,af3⟩=>hm pins σ H2 s2 P2 α2 S2 v vv vs us d ds Q I2 r2 G1.val (Rep.mono e1 e2 _ _ G1.rep) rv rp2 (qR.base e1 e2 af3)
noncomputable def wR:D->Aa D->Sto->Res D:=λa ds S=>match a,ds with
 |.loc i,[d]=>match S[i]? with
  |some (.lst xs)=>if xs.length<lim then .ok .non (S.set i (.lst (xs++[d]))) else .bad
  |_=>.bad
 |_,_=>.bad
inductive ApV (a:D)(ds:Aa D)(S:Sto):Prop
 |bad (e:wR a ds S=.bad)
 |of (i:Ai) (d:D) (xs:Aa D) (ea:a=.loc i) (ed:ds=[d]) (hS:S[i]? = Ab (.lst xs)) (hl:xs.length<lim) (e:wR a ds S=.ok .non (S.set i (.lst (xs++[d]))))
theorem apV (a:D)(ds:Aa D)(S:Sto):ApV a ds S:=by
 cases a with
 |loc i =>
  cases ds with
  |nil=>exact .bad rfl
  |cons d ds =>
   cases ds with
   |cons _ _=>exact .bad rfl
   |nil =>
    have z:wR (.loc i) [d] S=(match S[i]? with|some (.lst xs)=>(if xs.length<lim then .ok .non (S.set i (.lst (xs++[d]))) else .bad)|_=>.bad):=rfl
    cases hS:S[i]? with
    |none=>rw[hS] at z;exact .bad z
    |some m =>
     rw[hS] at z;cases m with
     |lst xs =>
      by_cases hl:xs.length<lim
      .exact .of i d xs rfl rfl hS hl (z.trans (Bp hl))
      .exact .bad (z.trans (Bj hl))
     |_=>exact .bad z
 |_=>exact .bad rfl
theorem QR:MtD X "list.append" wR:=by
 intro pins σ H s P α S v vv vs us a ds Q I r rv p rvs rps af;cases apV a ds S with
 |bad e=>rw[e] at af;exact Aq af
 |of i d xs ea ed hS hl e =>
  rw[e] at af;subst ea ed;obtain⟨w,u,rfl,rfl,p',q'⟩:=uR rps rvs;simp only[Rep] at p;obtain⟨b,rfl,q⟩:=p;obtain⟨ws,z,t⟩:=r.at' i b _ q hS;refine QX pins s σ H (.ref b) [w] vv [u] Q I rv (.cons q' .nil) ⟨b,ws,w,rfl,rfl,z,by rw[<- t.length,<- zV];exact hl,?_⟩
  exact xr af (r.put (m':=.lst (xs++[d])) q hS (by intro z;cases z) ⟨ws++[w],qX,t.append (.cons p' .nil)⟩) (by simp only[Rep])
end
noncomputable def yU:D->Am Key
 |.int i=>Ab (.inl i)
 |.str x=>Ab (.inr x)
 |_=>none
noncomputable def wC (kvs:Aa (Key × D))(k:Key):Am D:=(kvs.find? λkv=>decide (kv.1=k)).map (·.2)
noncomputable def yC (kvs:Aa (Key × D))(k:Key)(v:D):Aa (Key × D):=
 if (kvs.any λkv=>decide (kv.1=k))=true then kvs.map (λkv=>if kv.1=k then (kv.1,v) else kv) else kvs++[(k,v)]
section
variable {K:Aj}{P:Hp}{α : Aa Af}
theorem eV {vs:Aa (Key × V)}(r:KVs K P α kvs vs):kvs.length=vs.length:=Paired.length r
theorem eX {k:Key}:∀ {kvs:Aa (Key × D)} {vs:Aa (Key × V)},KVs K P α kvs vs->(∀ d,wC kvs k=Ab d->∃ v,yE vs k=Ab v/\Rep K P α d v)/\(wC kvs k=none->yE vs k=none)
 |_,_,.nil=>⟨λd h=>by simp[wC] at h,λ_=>rfl⟩
 |(k1,d1)::kvs,(k2,v2)::vs,.cons z t=>by
  obtain⟨e,r⟩:=z;dsimp only at e r;subst e;obtain⟨h1,h2⟩:=eX (k:=k) t;unfold wC yE at *;by_cases hk:k1=k
  .subst hk
   constructor
   .intro d h
    simp at h;subst h;exact⟨v2,by simp,r⟩
   .intro h
    simp at h
  .constructor
   .intro d h
    rw[Rl (by simpa using hk)] at h ⊢
    exact h1 d h
   .intro h
    rw[Rl (by simpa using hk)] at h ⊢
    exact h2 h
theorem KB {k:Key}{vs:Aa (Key × V)}(h:KVs K P α kvs vs):(kvs.any λkv=>decide (kv.1=k))=(vs.any λkv=>decide (kv.1=k)):=by
 induction h with
 |nil=>rfl
 |cons z t ih=>rw[IU,IU,ih,z.1]
theorem KD {k:Key}(q:Rep K P α d v){kvs:Aa (Key × D)}{vs:Aa (Key × V)}(h:KVs K P α kvs vs):KVs K P α (kvs.map λkv=>if kv.1=k then (kv.1,d) else kv) (vs.map λkv=>if kv.1=k then (kv.1,v) else kv):=by
 induction h with
 |nil=>exact .nil
 |cons z t ih =>
  rw[De,De];refine .cons ?_ ih;rw[<- z.1]
  split
  .exact⟨rfl,q⟩
  .exact z
theorem KC {k:Key}(q:Rep K P α d v){kvs:Aa (Key × D)}{vs:Aa (Key × V)}(h:KVs K P α kvs vs):KVs K P α (kvs++[(k,d)]) (vs++[(k,v)]):=by
 induction h with
 |nil=>exact .cons ⟨rfl,q⟩ .nil
 |cons z t ih=>exact .cons z ih
theorem eW {k:Key}(q:Rep K P α d v){kvs:Aa (Key × D)}{vs:Aa (Key × V)}(r:KVs K P α kvs vs):KVs K P α (yC kvs k d) (yD vs k v):=by
 unfold yC yD;rw[KB r]
 split
 .exact KD q r
 .exact KC q r
theorem Q7 {k:Key}(h:yU d=Ab k)(r:Rep K P α d v):v=kV k:=by
 cases d with
 |int i=>cases h;simp only[Rep] at r;exact r
 |str x=>cases h;simp only[Rep] at r;exact r
 |_=>cases h
end
section
variable {X:Cx}{o i e:Bt}{pos:Eu}{fo fi:DE}
noncomputable def aI:DE:=λ_ S=>.ok (.loc S.length) (S++[.dct []])
theorem FG:PE X (.Dict [] [] pos) (tD X aI):=by
 refine peW Y7 λσ H Q ⟨P,α,env,S,r,re,af⟩ p hp=>?_;have hpre:α<+:α++[p]:=Lw _ _;have r1:=r.new (o:=.dK []) (m:=.dct []) hp ⟨[],qX,.nil⟩;refine af _ _ _ _ r1 (qE.refl _) hpre ?_;simp only[Rep];exact⟨p,rfl,by rw[<- r.len];simp⟩
noncomputable def yY:G3:=λo i d S=>match o with
 |.loc n=>match S[n]? with
  |some (.dct kvs)=>match yU i with
   |some k=>if kvs.length<lim then .ok () (S.set n (.dct (yC kvs k d))) else .bad
   |none=>.bad
  |_=>mZ o i d S
 |_=>mZ o i d S
inductive Set2V (a b d:D)(S:Sto):Prop
 |bad (e:yY a b d S=.bad)
 |old (e:yY a b d S=mZ a b d S)
 |of (n:Ai) (kvs:Aa (Key × D)) (k:Key) (ea:a=.loc n) (hS:S[n]? = Ab (.dct kvs)) (hk:yU b=Ab k) (hl:kvs.length<lim) (e:yY a b d S=.ok () (S.set n (.dct (yC kvs k d))))
theorem RY (a b d:D)(S:Sto):Set2V a b d S:=by
 cases a with
 |loc n =>
  have z:yY (.loc n) b d S=(match S[n]? with|some (.dct kvs)=>(match yU b with|some k=>(if kvs.length<lim then .ok () (S.set n (.dct (yC kvs k d))) else .bad)|none=>.bad)|_=>mZ (.loc n) b d S):=rfl
  cases hS:S[n]? with
  |none=>rw[hS] at z;exact .old z
  |some m =>
   rw[hS] at z;cases m with
   |dct kvs =>
    cases hk:yU b with
    |none=>rw[hk] at z;exact .bad z
    |some k =>
     rw[hk] at z;by_cases hl:kvs.length<lim
     .exact .of n kvs k rfl hS hk hl (z.trans (Bp hl))
     .exact .bad (z.trans (Bj hl))
   |_=>exact .old z
 |_=>exact .old rfl
theorem LO (hu:X.A.units+1<Eg):d3 X (lZ X yY):=by
 intro pins s σ H o i v ov iv u Q I ro ri rv h;obtain⟨P,α,S,a,b,d,r,pa,pb,pd,af⟩:=h;cases RY a b d S with
 |bad e=>rw[e] at af;exact Aq af
 |old e =>
  rw[e] at af;exact RZ pins s σ H o i v ov iv u Q I ro ri rv ⟨P,α,S,a,b,d,r,pa,pb,pd,af⟩
 |of n kvs k ea hS hk hl e =>
  rw[e] at af;subst ea;simp only[Rep] at pa;obtain⟨p,rfl,q⟩:=pa;obtain⟨vs,z,t⟩:=r.at' n p _ q hS;cases Q7 hk pb;cases (show ov=Dm p from ro)
  refine oN hu I (mF.k (v:=v) z (by rw[<- eV t,<- zV];exact hl)) ri rv λs' I'=>⟨_,I',?_⟩
  exact af _ P α (r.put (m':=.dct (yC kvs k d)) q hS (by intro z;cases z) ⟨_,qX,eW pd t⟩) (qE.refl _) (Bl _)
end
noncomputable def lO (S:Sto):Sto:=S.map λ_=>.dead
noncomputable def aR (H P:Hp)(α : Aa Af):Hp:=λb=>if (P b).isSome then P b else if b∈α then H b else none
section
variable {K:Aj}{H P:Hp}{α : Aa Af}{S:Sto}
theorem WA (r:Rel K H P α S):qE (aR H P α) H:=λb o e=>by
 unfold aR at e
 split at e
 .exact r.sub b o e
 .split at e
  .exact e
  .cases e
theorem Rel.frz (r:Rel K H P α S):Rel K H (aR H P α) α (lO S) where
 tb:=r.tb.keep (λ_ _ q _=>q) λb u q _ p n=>⟨by unfold aR;rw[p];simp[n],n⟩
 sub:=WA r
 len:=by rw[r.len];simp[lO]
 nd:=r.nd
 sep:=λi a o h1 h2 h3=>by
  unfold lO at h2;rw[Du] at h2;cases q:S[i]? with
  |none=>rw[q] at h2;cases h2
  |some m=>rw[q] at h2;cases h2;exact absurd rfl h3
 at':=λi a o h1 h2=>by
  unfold lO at h2;rw[Du] at h2;cases q:S[i]? with
  |none=>rw[q] at h2;cases h2
  |some m=>rw[q] at h2;cases h2;trivial
 own:=r.own
end
noncomputable def vH (t:DT)(f:DS):Ai->qC->Sto->Out
 |0,_,_=>.bad
 |n+1,env,S=>(t env S).toS env λb S1=>if b then (match f env S1 with
   |.nx env2 S2=>vH t f n env2 S2
   |.ct env2 S2=>vH t f n env2 S2
   |.bk env2 S2=>.nx env2 S2
   |o=>o) else .nx env S1
theorem o9:∃ n:Ai,n=2 ^ 60:=⟨_,rfl⟩
def big:Ai:=Kr o9
theorem F0:big=2 ^ 60:=Jy o9
def m8 (t:DT)(f:DS):DS:=λenv S=>vH t f big env S
section
variable {X:Cx}{pos:Eu}
inductive WhI (X:Cx)(P:Hp)(α : Aa Af)(t:DT)(f:DS)(D:Ends)(m:Ai)(σ : _L.St)(H:Hp):Prop
 |mk (P2:Hp) (α2:Aa Af) (env2:qC) (S2:Sto) (r:Rel X.K H P2 α2 S2) (re:qY X.K P2 α2 σ env2) (e1:qE P P2) (e2:α<+:α2) (af:qV X P2 α2 (vH t f m env2 S2) D):WhI X P α t f D m σ H
theorem W0 {c:Bt}{body:Aa Fx}{t:DT}{f:DS}(hp:OV (Au X.prog X.w) X.A X.env X.xe)(hc:PT X c (tDT X t))(hb:PSs X body (tDS X f)):PS X (.While c body [] pos) (tDS X (m8 t f)):=
 psW (YC hp hc hb) λD σ H ⟨P,α,env,S,r,re,af⟩=>by
  refine⟨WhI X P α t f D,⟨big,P,α,env,S,r,re,qE.refl _,Bl _,af⟩,?_⟩;rintro m σ2 H2 ⟨P2,α2,env2,S2,r2,re2,e1,e2,af2⟩;cases m with
  |zero=>exact Aq af2
  |succ m =>
   have af3:=xH af2;refine⟨P2,α2,env2,S2,r2,re2,?_⟩;cases q:t env2 S2 with
   |bad=>rw[q] at af3;exact af3
   |ex c x S'=>rw[q] at af3;exact af3
   |ok b S3 =>
    rw[q] at af3;intro H3 P3 α3 r3 e3 e4;have af4:qV X P3 α3 (if b then (match f env2 S3 with|.nx env2 S2=>vH t f m env2 S2|.ct env2 S2=>vH t f m env2 S2|.bk env2 S2=>.nx env2 S2|o=>o) else .nx env2 S3) D:=qV.base e3 e4 af3
    cases b with
    |false=>exact af4 σ2 H3 P3 α3 r3 (re2.mono e3 e4) (qE.refl _) (Bl _)
    |true =>
     simp only[Dx] at af4 ⊢;refine⟨WhI X P α t f D m,λσ' H' w=>⟨m,Ik _,w⟩,P3,α3,env2,S3,r3,re2.mono e3 e4,?_⟩;cases q2:f env2 S3 with
     |bad=>rw[q2] at af4;exact af4
     |ex c x env4 S4=>rw[q2] at af4;exact af4
     |rt d4 S4=>rw[q2] at af4;exact af4
     |bk env4 S4=>rw[q2] at af4;exact af4
     |nx env4 S4 =>
      rw[q2] at af4;exact λσ5 H5 P5 α5 r5 re5 e8 e9=>⟨P5,α5,env4,S4,r5,re5,(e1.trans e3).trans e8,(e2.trans e4).trans e9,qV.base e8 e9 af4⟩
     |ct env4 S4 =>
      rw[q2] at af4;exact λσ5 H5 P5 α5 r5 re5 e8 e9=>⟨P5,α5,env4,S4,r5,re5,(e1.trans e3).trans e8,(e2.trans e4).trans e9,qV.base e8 e9 af4⟩
end
section
variable {X:Cx}{a b c e:Bt}{pos:Eu}{fa fe:DE}
def C7 (X:Cx)(g:G2):TIp:=λx y H Q=>∃ P α S a b,Rel X.K H P α S/\Rep X.K P α a x/\Rep X.K P α b y/\qR X P α (g a b S) Q
def IpD (X:Cx)(op:Mx)(g:G2):Prop:=PIp X op (C7 X g)
noncomputable def gW (i:Ai)(g:G2)(fe:DE):DS:=λenv S=>match env[i]? with
 |some (Ab x)=>(fe env S).toS env λy S1=>(g x y S1).toS env λz S2=>.nx (env.set i (Ab z)) S2
 |_=>.bad
set_option tactic.hygienic true in
theorem FV {i:Ai}{x:Av}{op:Mx}{g:G2}{pos':Eu}(hN:X.N.Nodup)(he:PE X e (tD X fe))(ho:IpD X op g)(hi:X.N[i]? = Ab x:=by rfl)(hx:Loc X.env.scope x:=by first|exact Xe rfl|exact Ut rfl)
  (hf:X.fn x=true\/X.env.scope.names.lookup x=Ab .local:=by first|exact .inl rfl|exact .inr rfl|assumption):PS X (.AugAssign (.Name x pos') op e pos) (tDS X (gW i g fe)):=
 psW (NB hN hi hx he ho hf) λD σ H ⟨P,α,env,S,r,re,af⟩=>by
  unfold gW at af
  split at af
  .rename_i d hd
   obtain⟨v,hv,pv⟩:=re.2 i d hd;refine⟨v,hv,P,α,env,S,r,re,?_⟩;have af1:=xH af;cases q:fe env S with
   |bad=>rw[q] at af1;exact af1
   |ex c x S'=>rw[q] at af1;exact af1
   |ok y S1 =>
    rw[q] at af1;intro u H1 P1 α1 r1 e1 e2 rp;refine⟨P1,α1,S1,d,y,r1,Rep.mono e1 e2 _ _ pv,rp,?_⟩;have af2:=xH (qV.base e1 e2 af1);cases q2:g d y S1 with
    |bad=>rw[q2] at af2;exact af2
    |ex c x S'=>rw[q2] at af2;exact af2
    |ok z S2 =>
     rw[q2] at af2;exact λw H2 P2 α2 r2 e3 e4 rp2=>af2 _ H2 P2 α2 r2 (((re.mono e1 e2).mono e3 e4).set i rp2) e3 e4
  .exact Aq af
noncomputable def fL:G2:=i2 (λ_ _=>true) λi j=>.int (i+j)
theorem JY:IpD X .Add fL:=by
 intro pins s σ H x y v u Q I rx ry h;obtain⟨P,α,S,a,b,r,pa,pb,af⟩:=h;obtain⟨i,j,rfl,rfl,_,ok⟩:=aU af;exact ME pins s σ H x y v u Q I rx ry ⟨i,j,xI pa,xI pb,xr ok r (by simp only[Rep])⟩
noncomputable def xK (xs:Aa D)(lo hi:Am Ak):Aa D:=(xs.drop (_H.sIx xs.length 0 lo)).take (_H.sIx xs.length xs.length hi-_H.sIx xs.length 0 lo)
abbrev DO:=qC->Sto->Res (Am Ak)
def OkO (X:Cx)(P:Hp)(α : Aa Af)(Q:Am Ak->Hp->Prop)(o:Am Ak)(S':Sto):Prop:=∀ H' P' α',Rel X.K H' P' α' S'->qE P P'->α<+:α'->Q o H'
def tDO (X:Cx)(f:DO):TO:=λσ H Q=>∃ P α env S,Rel X.K H P α S/\qY X.K P α σ env/\qG X P α (f env S) (OkO X P α Q)
noncomputable def xU:DO:=λ_ S=>.ok none S
noncomputable def x9 (f:DE):DO:=λenv S=>(f env S).bind λd S1=>match d with
 |.int i=>.ok (Ab i) S1
 |_=>.bad
theorem JD:PO X none (tDO X xU):=λpins s σ H Q I ⟨P,α,env,S,r,re,af⟩=>GK pins s σ H Q I (af H P α r (qE.refl _) (Bl _))
theorem JE (he:PE X e (tD X fe)):PO X (Ab e) (tDO X (x9 fe)):=by
 intro pins s σ H Q I h;obtain⟨P,α,env,S,r,re,af⟩:=h;refine GM (te:=tD X fe) he pins s σ H Q I ⟨P,α,env,S,r,re,?_⟩;have af':qG X P α ((fe env S).bind λd S1=>match d with|.int i=>.ok (Ab i) S1|_=>.bad) (OkO X P α Q):=af
 cases q:fe env S with
 |bad=>rw[q] at af';exact af'
 |ex c x S'=>rw[q] at af';exact af'
 |ok d S1 =>
  rw[q] at af';intro v H1 P1 α1 r1 e1 e2 rp;cases d with
  |int i=>exact⟨i,xI rp,af' H1 P1 α1 r1 e1 e2⟩
  |_=>exact Aq af'
theorem qB.cut {K:Aj}{P:Hp}{α:Aa Af}(r:qB K P α ds vs)(lo hi:Am Ak):qB K P α (xK ds lo hi) (gJ vs lo hi):=by
 unfold xK gJ;rw[r.length];exact(r.drop _).take _
noncomputable def gSl (d:D)(lo hi:Am Ak)(S:Sto):Res D:=match d with
 |.lst xs=>.ok (.lst (xK xs lo hi)) S
 |.loc i=>match S[i]? with
  |some (.lst xs)=>.ok (.lst (xK xs lo hi)) S
  |_=>.bad
 |.tup xs=>.ok (.tup (xK xs lo hi)) S
 |_=>.bad
noncomputable def dSl (fe:DE)(fl fh:DO):DE:=λenv S=>(fe env S).bind λd S1=>(fl env S1).bind λlo S2=>(fh env S2).bind λhi S3=>gSl d lo hi S3
end
end _D
namespace _D
open PySem PySem.Spec PyProof.Rows _L _H
section
variable {prog:Be}{w:Bx}{A:Bv}{E:Ac->Ag->Prop}{s:Ag}
theorem gD {t sl:Af}{items:Ay Ac}{vl vu:Ac}{lo hi:Am Ak}{Q:Ac->Ag->Prop}(ht:Oy s.heap t items)(hs:s.heap.IsSliceOf sl vl vu .none)(pl:OK vl lo)(pu:OK vu hi)
  (hw:sIx items.size 0 lo=0/\sIx items.size items.size hi=items.size) (h:Q (.ref t) s):Ap (Au prog w) A (Nn (.ref t) (.ref sl)) Q E s:=by
 obtain⟨ob,hob,hcb,_⟩:=id hs;have hTs:s.TypeIs (.ref sl) "slice":=⟨ob,hob,hcb⟩;unfold Nn
 try with_reducible refine Em ?_
 first|refine Ad (Al ?_)|skip
 refine Ad (OZ ht.typeIs (by decide) ?_)
 refine Ad (Dy (name:=Hg "__getitem__") ht.typeIs Dr
  (Ea Dr ht.typeIs On ?_ (OF _ _)))
 show Ap _ _ (Kq (.ref t) >>= _) _ _ s;refine Ad (T0 ht ?_);refine Ad (Kk hTs ?_);rw[Bp (by decide)]
 refine Ad (uE hs pl pu ?_);show Ap _ _ (if (((sIx items.size 0 lo:Ai):Ak) == 0&&(1:Ak) == 1&&(sIx items.size items.size hi-sIx items.size 0 lo) == items.size)=true then _ else _) _ _ s
 rw[hw.1,hw.2,Bp (by simp)]
 unfold Ze;refine Ad (Ad (Kk ht.typeIs (Al ?_)));rw[Bp (by decide)]
 exact Ad (Gp (Al ⟨_,rfl,Al h⟩))
end
section
variable {X:Cx}{e:Bt}{fe:DE}{pos p2:Eu}
def HX (X:Cx):V->Am Ak->Am Ak->Hp->VK->Prop:=λx lo hi H Q=>∃ P α S d,Rel X.K H P α S/\Rep X.K P α d x/\qR X P α (gSl d lo hi S) Q
theorem C4:SlR X (HX X):=by
 intro pins s σ H x v vl vu lo hi sl Q I rx hs pl pu h;obtain⟨P,α,S,d,r,p,af⟩:=h;cases d with
 |lst xs =>
  simp only[Rep] at p;obtain⟨a,vs,rfl,q,t⟩:=p;exact cK pins s σ H _ v vl vu lo hi sl Q I rx hs pl pu ⟨a,vs,rfl,(xR r.sub q).l,λb hb=>yB r hb (qB.cut t lo hi) af⟩
 |loc i =>
  obtain⟨xs,hS,af⟩:=kJ (X:=X) (f:=λxs=>Res.ok (D.lst (xK xs lo hi)) S) af;simp only[Rep] at p;obtain⟨a,rfl,q⟩:=p;obtain⟨vs,z,t⟩:=r.at' i a _ q hS;exact cK pins s σ H _ v vl vu lo hi sl Q I rx hs pl pu ⟨a,vs,rfl,SqL.of z,λb hb=>yB r hb (qB.cut t lo hi) af⟩
 |tup xs =>
  have p0:=p;simp only[Rep] at p;obtain⟨a,vs,rfl,q,t⟩:=p;by_cases hw:sIx vs.length 0 lo=0/\sIx vs.length vs.length hi=vs.length
  .cases rx
   obtain⟨its,rv,ht,hz⟩:=I.tuple (xW r.sub q);have hlen:its.toArray.size=vs.length:=by rw[Bh];exact rv.length.symm
   refine⟨"tuple",_,Dr.lookup,ht.typeIs,gD ht hs pl pu (by rw[hlen];exact hw) ⟨.ref a,H,I,rfl,xr af r ?_⟩⟩
   have e:xK xs lo hi=xs:=by
    unfold xK;rw[t.length,hw.1,hw.2,<- t.length];simp
   rw[e];exact p0
  .exact LP pins s σ H _ v vl vu lo hi sl Q I rx hs pl pu ⟨a,vs,rfl,xW r.sub q,hw,λb hb=>kK r hb (qB.cut t lo hi) af⟩
 |_=>exact Aq af
theorem XQ {lo hi:Am Bt}{fl fh:DO}(he:PE X e (tD X fe))(hl:PO X lo (tDO X fl))(hu:PO X hi (tDO X fh)):PE X (.Subscript e (.Slice lo hi none p2) pos) (tD X (dSl fe fl fh)):=
 peW (Y8 C4 he hl hu) λσ H Q ⟨P,α,env,S,r,re,af⟩=>by
  refine⟨P,α,env,S,r,re,?_⟩;have af':qG X P α ((fe env S).bind λd S1=>(fl env S1).bind λlo S2=>(fh env S2).bind λhi S3=>gSl d lo hi S3) (OkV X P α Q):=af;cases q:fe env S with
  |bad=>rw[q] at af';exact af'
  |ex c x S'=>rw[q] at af';exact af'
  |ok d S1 =>
   rw[q] at af';intro v H1 P1 α1 r1 e1 e2 rp;refine⟨P1,α1,env,S1,r1,re.mono e1 e2,?_⟩;have af2:qG X P1 α1 ((fl env S1).bind λlo S2=>(fh env S2).bind λhi S3=>gSl d lo hi S3) (OkV X P1 α1 Q):=qR.base e1 e2 af';cases q2:fl env S1 with
   |bad=>rw[q2] at af2;exact af2
   |ex c x S'=>rw[q2] at af2;exact af2
   |ok l S2 =>
    rw[q2] at af2;intro H2 P2 α2 r2 e3 e4;refine⟨P2,α2,env,S2,r2,(re.mono e1 e2).mono e3 e4,?_⟩;have af3:qG X P2 α2 ((fh env S2).bind λhi S3=>gSl d l hi S3) (OkV X P2 α2 Q):=qR.base e3 e4 af2;cases q3:fh env S2 with
    |bad=>rw[q3] at af3;exact af3
    |ex c x S'=>rw[q3] at af3;exact af3
    |ok u S3 =>
     rw[q3] at af3;intro H3 P3 α3 r3 e5 e6;exact⟨P3,α3,S3,d,r3,Rep.mono (e3.trans e5) (e4.trans e6) _ _ rp,qR.base e5 e6 af3⟩
noncomputable def mW (d:D)(S:Sto):Res D:=match d with
 |.int i=>if i.natAbs.log2<1920 then .ok (.str (toString i)) S else .bad
 |.str x=>if x.length<=lim then .ok (.str x) S else .bad
 |_=>.bad
set_option tactic.hygienic true in
theorem FH (he:PE X e (tD X fe)):PE X (.FormattedValue e (-1) none pos) (tD X (d1 mW fe)):=by
 intro pins s σ H Q I h;obtain⟨P,α,env,S,r,re,af⟩:=h;refine FormattedValue_plain (thn (zL he I r re af) λvv s1 ⟨v,H1,P1,α1,d,S1,G1,af1⟩=>?_);have p:=G1.rep;have rv:=G1.val;have af2:=qR.base G1.same G1.pre af1;cases d with
 |int i =>
  simp only[mW] at af2
  split at af2
  .rename_i hd
   simp only[Rep] at p;subst p;obtain⟨t,rfl⟩:=rv;exact formatField_int_small hd ⟨.str _,H1,G1.inv.tok _,⟨_,rfl⟩,xr af2 G1.rel (by simp only[Rep])⟩
  .exact Aq af2
 |str x =>
  simp only[mW] at af2
  split at af2
  .rename_i hd
   simp only[Rep] at p;subst p;obtain⟨t,rfl⟩:=rv;exact formatField_str (λt' tk=>⟨.str _,H1,G1.inv.tok _,⟨_,rfl⟩,xr af2 G1.rel (by simp only[Rep])⟩) (by rw[<- zV];exact hd)
  .exact Aq af2
 |_=>exact Aq af2
noncomputable def lT (out:Av):Aa DE->qC->Sto->Res D
 |[],_,S=>if out.length<=lim then .ok (.str out) S else .bad
 |p::ps,env,S=>(p env S).bind λd S1=>match d with
  |.str y=>if (out++y).length<=lim then lT (out++y) ps env S1 else .bad
  |_=>.bad
def PJ (X:Cx)(es:Aa Bt)(fs:Aa DE):Prop:=
 ∀ (out:Av) (pins:Aa (Af × Ci)) (s:Ag) (σ : _L.St) (H P:Hp) (α : Aa Af) (env:qC) (S:Sto) (Q:VK),Inv X pins σ H s->Rel X.K H P α S->qY X.K P α σ env->qR X P α (lT out fs env S) Q ->
  Ap (Au X.prog X.w) X.A (joinParts out (evalEach es X.env)) (EP X pins σ Q) X.xe s
theorem N8:PJ X [] []:=by
 intro out pins s σ H P α env S Q I r re af;obtain⟨hl,af⟩:=vA (X:=X) af;exact joinParts_nil ⟨.str _,H,I.tok _,⟨_,rfl⟩,xr af r (by simp only[Rep])⟩ (by rw[<- zV];exact hl)
theorem GG {es:Aa Bt}{fs:Aa DE}(he:PE X e (tD X fe))(hr:PJ X es fs):PJ X (e::es) (fe::fs):=by
 intro out pins s σ H P α env S Q I r re af;have af:qG X P α ((fe env S).bind λd S1=>match d with|.str y=>if (out++y).length<=lim then lT (out++y) fs env S1 else .bad|_=>.bad) (OkV X P α Q):=af
 refine joinParts_cons (thn (zL he I r re af) λvv s1 ⟨v,H1,P1,α1,d,S1,G1,af1⟩=>?_);cases d with
 |str y =>
  have p:=G1.rep;simp only[Rep] at p;subst p;obtain⟨t,rfl⟩:=G1.val;obtain⟨hl,af1⟩:=vA (X:=X) af1;exact⟨by rw[<- zV];exact hl,hr (out++y) pins s1 σ H1 P1 α1 env S1 Q G1.inv G1.rel G1.env (qR.base G1.same G1.pre af1)⟩
 |_=>exact Aq af1
noncomputable def aJ (fs:Aa DE):DE:=λenv S=>lT Zk fs env S
theorem J2 {v₁ v₂:Bt}{qJ:Aa Bt}{fs:Aa DE}(h:PJ X (v₁::v₂::qJ) fs):PE X (.JoinedStr (v₁::v₂::qJ) pos) (tD X (aJ fs)):=by
 intro pins s σ H Q I hq;obtain⟨P,α,env,S,r,re,af⟩:=hq;exact JoinedStr_many (h Zk pins s σ H P α env S Q I r re af)
end
end _D
namespace _D
open PySem PySem.Spec PyProof.Rows _L
variable {α:Aa Af}{N:Aa Av}{its ds dsF:Aa D}{body:Aa Fx}{vs:Aa V}{Q:Ac->Ag->Prop}{Qa Qd:Ag->Prop}{m:Ai}{o':Am (Ai × MO)}{tp:Ar}{xs ys:Ay Ac}{h':Br}{R:It->Hp->Prop}{S SF:Sto}{env envF:qC}
def zC (tp:Ar)(h:Br)(it l:Af)(k:Ai):Prop:=if tp then h.IsTupleIter it l k else h.IsListIter it l k
def xN (tp:Ar)(h:Br)(l:Af)(xs:Ay Ac):Prop:=if tp then h.IsTuple l xs else h.IsList l xs
theorem zC.keep {h:Br}{it l:Af}{k:Ai}(x:zC tp h it l k)(q:∀ o,h.get? it=Ab o->h'.get? it=Ab o):zC tp h' it l k:=by
 cases tp <;> (obtain⟨o,e,r⟩:=x;exact⟨o,q o e,r⟩)
theorem xN.keep {h:Br}{l:Af}(x:xN tp h l xs)(q:∀ o,h.get? l=Ab o->h'.get? l=Ab o):xN tp h' l xs:=by
 cases tp <;> (obtain⟨o,e,r⟩:=x;exact⟨o,q o e,r⟩)
theorem zC.there {h:Br}{it l:Af}{k:Ai}(x:zC tp h it l k):∃ o,h.get? it=Ab o/\∀ v,o.data≠.cell v:=by
 cases tp <;> (obtain⟨o,e,_,d⟩:=x;exact⟨o,e,λv z=>by rw[d] at z;cases z⟩)
section
variable {prog:Be}{w:Bx}{A:Bv}{E:Ac->Ag->Prop}{s:Ag}
theorem Y2 {it t:Af}{i:Ai}{items:Ay Ac}{x:Ac}(hit:s.heap.IsTupleIter it t i)(ht:s.heap.IsTuple t items)(hx:items[i]? = Ab x)
  (hQ:∀ h',h'.IsTupleIter it t (i+1)->Ep it s.heap h'->Q x { s with heap:=h' }) : Ap (Au prog w) A (Eb (.ref it)) Q E s:=by
 obtain⟨o,e,c,d⟩:=id hit;obtain⟨u,eu,_,m,du⟩:=ht;unfold Eb;refine Ad (Dy (name:=Hg "__next__") hit.typeIs IG (Ea IG hit.typeIs O6 ?_ (Oo _)));show Ap _ _ (field (.ref it) 0 >>= _) _ _ s;refine Ad (DL e d (x:=.ref t) rfl ?_);show Ap _ _ (if (Dm t == Dn)=true then _ else _) _ _ s;rw[Bj (show ¬ ((Dm t == Dn)=true) from Jk)]
 show Ap _ _ (field (.ref it) 1 >>= _) _ _ s;refine Ad (DL e d (x:=.int i 0) rfl ?_);show Ap _ _ (Zo (.ref t) >>= _) _ _ s;refine Ad (Gv eu du ?_);simp only[Gx,hx];refine Ad (Mm e d (by simp) (Al ⟨x,rfl,Al (hQ _ ⟨_,Fo _ e (Obj.isFreed_of_fields (Vh d _)),(Obj.cls_mapFields ..).trans c,?_⟩ (Hb ..))⟩))
 rw[Vh d];simp[Nk]
theorem sH {it t:Af}{i:Ai}{items:Ay Ac}{Q:Ac->Ag->Prop}(hh:A.handled=none)(hit:s.heap.IsTupleIter it t i)(ht:s.heap.IsTuple t items)(hx:items[i]? = none)
  (hE:∀ h' e,wP it s.heap h'->(∃ o,h'.get? e=Ab o/\o.cls=.type "StopIteration")->E (.ref e) { s with heap:=h' }) : Ap (Au prog w) A (Eb (.ref it)) Q E s:=by
 obtain⟨o,e,c,d⟩:=id hit;obtain⟨u,eu,_,m,du⟩:=ht;unfold Eb;refine Ad (Dy (name:=Hg "__next__") hit.typeIs IG (Ea IG hit.typeIs O6 ?_ (Oo _)));show Ap _ _ (field (.ref it) 0 >>= _) _ _ s;refine Ad (DL e d (x:=.ref t) rfl ?_);show Ap _ _ (if (Dm t == Dn)=true then _ else _) _ _ s;rw[Bj (show ¬ ((Dm t == Dn)=true) from Jk)]
 show Ap _ _ (field (.ref it) 1 >>= _) _ _ s;refine Ad (DL e d (x:=.int i 0) rfl ?_);show Ap _ _ (Zo (.ref t) >>= _) _ _ s;refine Ad (Gv eu du ?_);simp only[Gx,hx];refine Ad (Gp (Ad (Mm e d (by simp) ?_)))
 show Ap _ _ (newExc (.type "StopIteration") [] >>= _) _ _ _;refine Ad ?_;simp only[newExc,newTuple];refine Ad (Dp ?_ (by size_fits))
 refine Ad (m:=O7 _ _) (Xf (a:=Dn) (by first|rfl|(simp only[O7];rfl)) (Dp ?_ (by size_fits)))
 simp only[raiseNew];refine Ad (wpAny_handled ?_)
 first|rw[show A.in1.handled=none from hh]|rw[hh]
 exact Ad (Al (wpAny_throw (hE _ _ (((Hb ..).extBut.push _).push _) ⟨_,Ba _ rfl,rfl⟩)))
theorem kG {it l:Af}{k:Ai}{x:Ac}(hit:zC tp s.heap it l k)(hl:xN tp s.heap l xs)(hx:xs[k]? = Ab x)
  (hQ:∀ h',zC tp h' it l (k+1)->Ep it s.heap h'->Q x { s with heap:=h' }) : Ap (Au prog w) A (Eb (.ref it)) Q E s:=by
 cases tp with
 |false=>exact wpAny_nextOf_list_item hit hl hx hQ
 |true=>exact Y2 hit hl hx hQ
theorem uC {it l:Af}{k:Ai}{Q:Ac->Ag->Prop}(hh:A.handled=none)(hit:zC tp s.heap it l k)(hl:xN tp s.heap l xs)(hx:xs[k]? = none)
  (hE:∀ h' e,wP it s.heap h'->(∃ o,h'.get? e=Ab o/\o.cls=.type "StopIteration")->E (.ref e) { s with heap:=h' }) : Ap (Au prog w) A (Eb (.ref it)) Q E s:=by
 cases tp with
 |false=>exact wpAny_nextOf_list_end hh hit hl hx hE
 |true=>exact sH hh hit hl hx hE
structure ZA (z I O i j:Af):Prop where
 Iz:I≠z
 Oz:O≠z
 iz:i≠z
 jz:j≠z
 IO:I≠O
 Ii:I≠i
 Ij:I≠j
 Oi:O≠i
 Oj:O≠j
 ij:i≠j
structure Off (z O i j a:Af):Prop where
 z:a≠z
 O:a≠O
 i:a≠i
 j:a≠j
abbrev X6 (z O i j:Af)(h h':Br):Prop:=∀ c o,c≠z->c≠O->c≠i->c≠j->h.get? c=Ab o->h'.get? c=Ab o
theorem VD {tq:Ar}{z I O i j a b:Af}{k:Ai}{x y p q:Ac}(D:ZA z I O i j)(Da:Off z O i j a)(Db:Off z O i j b)
  (hz:O8 s.heap z I O .none) (hI:IH s.heap I (.ref i) (.ref j)) (hO:IH s.heap O p q) (h1:zC tp s.heap i a k) (h2:zC tq s.heap j b k) (ha:xN tp s.heap a xs) (hb:xN tq s.heap b ys) (hx:xs[k]? = Ab x) (hy:ys[k]? = Ab y)
  (hQ:∀ h',O8 h' z I O (Nk s.heap.objs.size)->IH h' O x y->zC tp h' i a (k+1)->zC tq h' j b (k+1)->IH h' s.heap.objs.size x y->h'.objs.size=s.heap.objs.size+1->X6 z O i j s.heap h'->Q (.ref s.heap.objs.size) { s with heap:=h' }) :
  Ap (Au prog w) A (Ig.«zip.__next__» ⟨[.ref z],[]⟩) (λfin s'=>∃ v,fin=.done (.ret v)/\Q v s') E s:=by
 show Ap _ _ (field (.ref z) 2 >>= _) _ _ _;refine Ad (DL hz rfl (x:=.bool false) rfl ?_);show Ap _ _ (field (.ref z) 3 >>= _) _ _ _;refine Ad (DL hz rfl (x:=.ref I) rfl (Ad (Gv hI rfl ?_)));show Ap _ _ (En (.ref z) >>= _) _ _ _;refine Ad ?_;unfold En;refine Ad (DL hz rfl (x:=.none) rfl (Al ?_));simp only[Dx];refine Ad (Gp (Ad (DL hz rfl (x:=.ref O) rfl (Ad (Ey hz (by simp) λg1 z1 s1=>?_)))))
 replace z1:O8 g1 z I O .ellipsis:=z1
 refine Ad ?_;simp only[Qk,Yc,Lg,Ml];refine Ad (Ad (Pc ?_));show Ap _ _ (Eb (.ref i) >>= _) _ _ _;refine Ad (kG (h1.keep λo e=>s1.extBut _ _ D.iz e) (ha.keep λo e=>s1.extBut _ _ Da.z e) hx λg2 i2 s2=>Al ?_);have O2:IH g2 O p q:=s2.extBut _ _ D.Oi (s1.extBut _ _ D.Oz hO);refine Ad (Gv O2 rfl (Ad (Nx O2 λg3 O3 s3=>Ad (Se (Al ?_)))))
 replace O3:IH g3 O x q:=O3
 refine Ad (Ad (Pc ?_));show Ap _ _ (Eb (.ref j) >>= _) _ _ _;refine Ad (kG (h2.keep λo e=>s3.extBut _ _ D.Oj.symm (s2.extBut _ _ D.ij.symm (s1.extBut _ _ D.jz e))) (hb.keep λo e=>s3.extBut _ _ Db.O (s2.extBut _ _ Db.i (s1.extBut _ _ Db.z e))) hy λg4 j4 s4=>Al ?_);have O4:IH g4 O x q:=s4.extBut _ _ D.Oj O3;refine Ad (Gv O4 rfl (Ad (Nx O4 λg5 O5 s5=>Ad (Se (Al (Al ?_))))))
 replace O5:IH g5 O x y:=O5
 refine Ad (Gv O5 rfl (Ad (Sw ?_)));have sz:g5.objs.size=s.heap.objs.size:=by rw[s5.1,s4.1,s3.1,s2.1,s1.1]
 have z5:O8 g5 z I O .ellipsis:=s5.extBut _ _ D.Oz.symm (s4.extBut _ _ D.jz.symm (s3.extBut _ _ D.Oz.symm (s2.extBut _ _ D.iz.symm z1)));have k5:X6 z O i j s.heap g5:=λc o c1 c2 c3 c4 e=>s5.extBut _ _ c2 (s4.extBut _ _ c4 (s3.extBut _ _ c2 (s2.extBut _ _ c3 (s1.extBut _ _ c1 e))));have i5:zC tp g5 i a (k+1):=i2.keep λo e=>s5.extBut _ _ D.Oi.symm (s4.extBut _ _ D.ij (s3.extBut _ _ D.Oi.symm e));have j5:zC tq g5 j b (k+1):=j4.keep λo e=>s5.extBut _ _ D.Oj.symm e;have zl:z<g5.objs.size:=Az z5;show Ap _ _ (Gk (.ref z) (.ref g5.objs.size) >>= _) _ _ _;refine Ad ?_;unfold Gk;have z6:O8 (g5.push { cls:=.type "tuple",data:=.seq #[x,y] }) z I O .ellipsis:=Ah _ z5;refine Ad (Ey z6 (by simp) λg7 z7 s7=>?_)
 replace z7:O8 g7 z I O (Nk g5.objs.size):=z7
 refine Ey z7 (by simp) λg8 z8 s8=>?_
 replace z8:O8 g8 z I O (Nk g5.objs.size):=z8
 have up:∀ c o,c≠z->g5.get? c=Ab o->g8.get? c=Ab o:=λc o c1 e=>s8.extBut _ _ c1 (s7.extBut _ _ c1 (Ah _ e));have T8:IH g8 g5.objs.size x y:=s8.extBut _ _ (Fw zl) (s7.extBut _ _ (Fw zl) (Ba _ rfl));have sz8:g8.objs.size=g5.objs.size+1:=by rw[s8.1,s7.1,Dw]
 rw[sz] at z8 T8 sz8;refine Al ⟨_,rfl,?_⟩;show Q (.ref g5.objs.size) _;rw[sz];exact hQ g8 z8 (up _ _ D.Oz O5) (i5.keep λo e=>up _ o D.iz e) (j5.keep λo e=>up _ o D.jz e) T8 sz8 λc o c1 c2 c3 c4 e=>up c o c1 (k5 c o c1 c2 c3 c4 e)
end
section
variable {prog:Be}{w:Bx}{A:Bv}{E:Ac->Ag->Prop}{s:Ag}
theorem VE {tq:Ar}{z I O i j a b:Af}{k:Ai}{p q:Ac}{Q:Fin->Ag->Prop}(hh:A.handled=none)(D:ZA z I O i j)(Da:Off z O i j a)(Db:Off z O i j b)
  (hz:O8 s.heap z I O .none) (hI:IH s.heap I (.ref i) (.ref j)) (hO:IH s.heap O p q) (h1:zC tp s.heap i a k) (h2:zC tq s.heap j b k) (ha:xN tp s.heap a xs) (hb:xN tq s.heap b ys) (hend:xs[k]? = none\/ys[k]? = none)
  (hE:∀ h' e,X6 z O i j s.heap h'->(∃ o,h'.get? e=Ab o/\o.cls=.type "StopIteration")->E (.ref e) { s with heap:=h' }) : Ap (Au prog w) A (Ig.«zip.__next__» ⟨[.ref z],[]⟩) Q E s:=by
 show Ap _ _ (field (.ref z) 2 >>= _) _ _ _;refine Ad (DL hz rfl (x:=.bool false) rfl ?_);show Ap _ _ (field (.ref z) 3 >>= _) _ _ _;refine Ad (DL hz rfl (x:=.ref I) rfl (Ad (Gv hI rfl ?_)));show Ap _ _ (En (.ref z) >>= _) _ _ _;refine Ad ?_;unfold En;refine Ad (DL hz rfl (x:=.none) rfl (Al ?_));simp only[Dx];refine Ad (Gp (Ad (DL hz rfl (x:=.ref O) rfl (Ad (Ey hz (by simp) λg1 z1 s1=>?_)))))
 replace z1:O8 g1 z I O .ellipsis:=z1
 refine Ad ?_;simp only[Qk,Yc,Lg,Ml];refine Ad (Ad (Pc ?_));show Ap _ _ (Eb (.ref i) >>= _) _ _ _;have it1:zC tp g1 i a k:=h1.keep λo e=>s1.extBut _ _ D.iz e;have sq1:xN tp g1 a xs:=ha.keep λo e=>s1.extBut _ _ Da.z e;cases hx:xs[k]? with
 |none =>
  refine Ad (uC hh it1 sq1 hx λg2 e x2 he=>?_);obtain⟨oe,h3,h4⟩:=he;have z2:O8 g2 z I O .ellipsis:=x2 _ _ D.iz.symm z1;have ne:e≠z:=λy=>by subst y;rw[z2] at h3;cases h3;simp at h4
  exact Ey z2 (by simp) λg3 _ s3=>hE g3 e (λc o c1 _ c3 _ y=>s3.extBut _ _ c1 (x2 _ _ c3 (s1.extBut _ _ c1 y))) ⟨oe,s3.extBut _ _ ne h3,h4⟩
 |some x =>
  have hy:ys[k]? = none:=by
   rcases hend with y|y
   .rw[hx] at y;cases y
   .exact y
  refine Ad (kG it1 sq1 hx λg2 i2 s2=>Al ?_);have O2:IH g2 O p q:=s2.extBut _ _ D.Oi (s1.extBut _ _ D.Oz hO);refine Ad (Gv O2 rfl (Ad (Nx O2 λg3 O3 s3=>Ad (Se (Al ?_)))));refine Ad (Ad (Pc ?_));show Ap _ _ (Eb (.ref j) >>= _) _ _ _;refine Ad (uC hh (h2.keep λo e=>s3.extBut _ _ D.Oj.symm (s2.extBut _ _ D.ij.symm (s1.extBut _ _ D.jz e))) (hb.keep λo e=>s3.extBut _ _ Db.O (s2.extBut _ _ Db.i (s1.extBut _ _ Db.z e))) hy λg4 e x4 he=>?_);obtain⟨oe,h3,h4⟩:=he;have z4:O8 g4 z I O .ellipsis:=x4 _ _ D.jz.symm (s3.extBut _ _ D.Oz.symm (s2.extBut _ _ D.iz.symm z1));have ne:e≠z:=λy=>by subst y;rw[z4] at h3;cases h3;simp at h4
  exact Ey z4 (by simp) λg5 _ s5=>hE g5 e (λc o c1 c2 c3 c4 y=>s5.extBut _ _ c1 (x4 _ _ c4 (s3.extBut _ _ c2 (s2.extBut _ _ c3 (s1.extBut _ _ c1 y))))) ⟨oe,s5.extBut _ _ ne h3,h4⟩
noncomputable abbrev v3 (tp:Ar)(l:Af):Ci:={ cls:=.type (if tp then "tuple_iterator" else "list_iterator"),data:=.fields #[.ref l,.int 0 0] }
noncomputable abbrev zh1 (tp:Ar)(h:Br)(a:Af):Br:=h.push (v3 tp a)
noncomputable abbrev zh2 (tp tq:Ar)(h:Br)(a b:Af):Br:=(zh1 tp h a).push (v3 tq b)
noncomputable abbrev zh3 (tp tq:Ar)(h:Br)(a b:Af):Br:=(zh2 tp tq h a b).push { cls:=.type "tuple",data:=.seq #[.ref h.objs.size,.ref (zh1 tp h a).objs.size] }
noncomputable abbrev zh4 (tp tq:Ar)(h:Br)(a b:Af):Br:=(zh3 tp tq h a b).push { cls:=.type "tuple",data:=.seq #[.none,.none] }
noncomputable abbrev zh5 (tp tq:Ar)(h:Br)(a b:Af):Br:=(zh4 tp tq h a b).push { cls:=.type "zip",data:=.fields #[.none,.bool false,.bool false,.ref (zh2 tp tq h a b).objs.size,.ref (zh3 tp tq h a b).objs.size] }
set_option maxHeartbeats 4000000 in
theorem BP (tp:Ar)(a b:Af)(xs ys:Ay Ac) :
  Meets (Ig.«zip.__new__» ⟨[.type "zip",.ref a,.ref b],[]⟩) (λ_ R s=>xN tp s.heap a xs/\xN tp s.heap b ys/\R (.ok (.ret (.ref (zh4 tp tp s.heap a b).objs.size))) { s with heap:=zh5 tp tp s.heap a b }):=
 .of_wp λprog w A R s h=>by
  obtain⟨hp,g,d,tk,os⟩:=s;obtain⟨q1,q2,h⟩:=h;have hsub:=sub_zip;have e2:∀ ob:Ci,xN tp (hp.push ob) b ys:=λob=>q2.keep λo e=>Ah _ e;cases tp
  .have l1:Xg (Nr ⟨hp,g,d,tk,os⟩) a xs:=q1
   have l2:Xg (Nr ⟨hp.push { cls:=.type "list_iterator",data:=.fields #[.ref a,.int 0 0] },g,d,tk,os⟩) b ys:=e2 _
   wp_walk using Gd l1,Gd l2
   exact⟨_,rfl,h⟩
  .have l1:Vu (Nr ⟨hp,g,d,tk,os⟩) a xs:=q1
   have l2:Vu (Nr ⟨hp.push { cls:=.type "tuple_iterator",data:=.fields #[.ref a,.int 0 0] },g,d,tk,os⟩) b ys:=e2 _
   wp_walk using Gn l1,Gn l2
   exact⟨_,rfl,h⟩
theorem k8 {h:Br}{it l:Af}(e:h.get? it=Ab (v3 tp l)):zC tp h it l 0:=by
 cases tp
 .exact⟨_,e,rfl,rfl⟩
 .exact⟨_,e,rfl,rfl⟩
theorem XC {a b:Af}(ha:xN tp s.heap a xs)(hb:xN tp s.heap b ys)
  (h:∀ h',O8 h' (s.heap.objs.size+4) (s.heap.objs.size+2) (s.heap.objs.size+3) .none->IH h' (s.heap.objs.size+2) (.ref s.heap.objs.size) (.ref (s.heap.objs.size+1)) ->
   IH h' (s.heap.objs.size+3) .none .none->zC tp h' s.heap.objs.size a 0->zC tp h' (s.heap.objs.size+1) b 0->h'.objs.size=s.heap.objs.size+5->(∀ c o,s.heap.get? c=Ab o->h'.get? c=Ab o)->Q (.ref (s.heap.objs.size+4)) { s with heap:=h' }) :
  Ap (Au prog w) A (call (.type "zip") [.ref a,.ref b]) Q E s:=by
 refine callType_new F.called_zip (by decide) (F.typeCall_zip_2 _ _) (F.newCall_zip_2 _ _) (λobj=>F.args_object_init_3 obj _ _) F.entry_zip_new (BP tp a b xs ys) ⟨ha,hb,?_⟩
 have y1:(zh1 tp s.heap a).objs.size=s.heap.objs.size+1:=Dw ..;have y2:(zh2 tp tp s.heap a b).objs.size=s.heap.objs.size+2:=by rw[Dw,y1]
 have y3:(zh3 tp tp s.heap a b).objs.size=s.heap.objs.size+3:=by rw[Dw,y2]
 have y4:(zh4 tp tp s.heap a b).objs.size=s.heap.objs.size+4:=by rw[Dw,y3]
 have y5:(zh5 tp tp s.heap a b).objs.size=s.heap.objs.size+5:=by rw[Dw,y4]
 have g5:(zh5 tp tp s.heap a b).get? (zh4 tp tp s.heap a b).objs.size=Ab _:=Ba _ rfl;have g4:(zh5 tp tp s.heap a b).get? (zh3 tp tp s.heap a b).objs.size=Ab _:=Ah _ (Ba _ rfl);have g3:(zh5 tp tp s.heap a b).get? (zh2 tp tp s.heap a b).objs.size=Ab _:=Ah _ (Ah _ (Ba _ rfl));have g2:(zh5 tp tp s.heap a b).get? (zh1 tp s.heap a).objs.size=Ab (v3 tp b):=Ah _ (Ah _ (Ah _ (Ba _ rfl)));have g1:(zh5 tp tp s.heap a b).get? s.heap.objs.size=Ab (v3 tp a):=Ah _ (Ah _ (Ah _ (Ah _ (Ba _ rfl))));have kp:∀ c o,s.heap.get? c=Ab o->(zh5 tp tp s.heap a b).get? c=Ab o:=λc o e=>Ah _ (Ah _ (Ah _ (Ah _ (Ah _ e))));show _/\_;rw[y2,y3,y4] at g5;rw[y1,y2] at g3;rw[y3] at g4;rw[y1] at g2;rw[y4];exact⟨⟨_,g5,rfl⟩,h _ g5 g3 g4 (k8 g1) (k8 g2) y5 kp⟩
end
def Sq (tp:Ar)(K:Aj)(H:Hp)(a:Af)(xs:Aa V):Prop:=if tp then SqT K H a xs else SqL K H a xs
section
variable {X:Cx}{pins:Aa (Af × Ci)}{σ : _L.St}{H:Hp}{s:Ag}
theorem Sq.at {a:Af}{xs:Aa V}(I:Inv X pins σ H s)(q:Sq tp X.K H a xs):∃ its,qI xs its/\xN tp s.heap a its.toArray:=by
 cases tp with
 |true =>
  obtain⟨its,rv,p,_⟩:=I.tuple q;exact⟨its,rv,p⟩
 |false =>
  obtain⟨its,rv,p,_⟩:=I.list q;exact⟨its,rv,p.isList⟩
theorem Sq.inj {a:Af}{xs ys:Aa V}(I:Inv X pins σ H s)(q:Sq tp X.K H a xs)(q':Sq tp X.K H a ys):xs=ys:=by
 cases tp with
 |true=>exact I.tuple_inj q q'
 |false=>exact I.list_inj q q'
theorem Sq.off {a b:Af}{xs:Aa V}(I:Inv X pins σ H s)(q:Sq tp X.K H a xs)(f:x5 X pins H b):a≠b:=by
 have key:H a≠none\/∃ o,X.K.lookup a=Ab o:=by
  cases tp with
  |true =>
   rcases q with (q|⟨o,q⟩)|⟨o,_,_,q,_⟩
   .exact .inl (by rw[q];intro z;cases z)
   .exact .inl (by rw[q];intro z;cases z)
   .exact .inr ⟨_,q⟩
  |false =>
   rcases q with (q|⟨o,q⟩)|⟨o,_,_,q,_⟩
   .exact .inl (by rw[q];intro z;cases z)
   .exact .inl (by rw[q];intro z;cases z)
   .exact .inr ⟨_,q⟩
 rintro rfl;rcases key with k|⟨o,k⟩
 .exact k f.1
 .have e:=I.mod.kin a o k
  rcases f.2.2.2.1 with z|z
  .exact I.ok.noex a o e z
  .exact absurd (Az (I.ok.bs a o e).1) (Na.mpr z)
theorem Inv.turnLay {fp:Aa Af}{T:Af}{xs:Aa V}{its:Aa Ac}(I:Inv X pins σ H s)(hf:∀ b∈fp,x5 X pins H b)(k:∀ b o,b ∉ fp->s.heap.get? b=Ab o->h'.get? b=Ab o)(th:∀ b∈fp,∃ o,h'.get? b=Ab o)
  (hT:s.heap.objs.size<=T) (rv:qI xs its) (hx:Oy h' T its.toArray) (hz:xs.length<=sizeLine):Inv X pins σ (upd H T (.tup xs)) { s with heap:=h' }:=by
 have hn:H T=none:=I.hok.fresh hT;have ne:∀ b o,s.heap.get? b=Ab o->b≠T:=λb o e=>Cq (Bc (Az e) hT);refine I.step (g':=s.gens) (d':=s.drawn) (t':=s.toks) (ch:=fp) (λb hb=>⟨(hf b hb).2.2.2.1,(hf b hb).2.1,(hf b hb).2.2.2.2.1,(hf b hb).2.2.2.2.2⟩) (λb o _ _ hc e _=>k b o hc e) (λb o _ _ hc e _=>⟨o.slots,k b o hc e⟩)
  (λb o _ e n=>by rw[qO (ne b o e)];exact n) (λb o hc e=>⟨o,k b o hc e⟩) (λb ys e=>by rw[qO (z9 e hn)];exact e) (λb o u e=>by rw[qO (z9 e hn)];exact e)
  (λb ps e=>⟨#[],by rw[qO (z9 e hn),e];simp⟩) (λm hm=>?_) (λb u e=>?_) I.bare
 .obtain⟨o,es,ep,ho,r⟩:=hm
  exact⟨o,es,ep,k _ o (λz=>(hf _ z).2.1 rfl) ho,r⟩
 .by_cases hb:b=T
  .subst hb
   rw[qX] at e;cases e;exact⟨hz,its,rv,hx⟩
  .rw[qO hb] at e
   refine(I.hok b u e).stay (λc v hc q=>k c v (λz=>?_) q) (λc q=>by rw[qO (z9 q hn)];exact q) λc ys q=>by rw[qO (z9 q hn)];exact q
   have hcn:=(hf c z).1;rcases hc with rfl|hc
   .rw[hcn] at e;cases e
   .rw[hcn] at hc;cases hc
theorem Inv.turnL {fp:Aa Af}(I:Inv X pins σ H s)(hf:∀ b∈fp,x5 X pins H b)(k:∀ b o,b ∉ fp->s.heap.get? b=Ab o->h'.get? b=Ab o):Inv X pins σ H { s with heap:=h' }:=by
 refine I.step (g':=s.gens) (d':=s.drawn) (t':=s.toks) (ch:=fp) (λb hb=>⟨(hf b hb).2.2.2.1,(hf b hb).2.1,(hf b hb).2.2.2.2.1,(hf b hb).2.2.2.2.2⟩) (λb o _ _ hc e _=>k b o hc e) (λb o _ _ hc e _=>⟨o.slots,k b o hc e⟩)
  (λb o _ e n=>n) (λb o hc e=>⟨o,k b o hc e⟩) (λb ys e=>e) (λb o u e=>e) (λb ps e=>⟨#[],by rw[e];simp⟩) (λm hm=>?_) (λb u e=>?_) I.bare
 .obtain⟨o,es,ep,ho,r⟩:=hm
  exact⟨o,es,ep,k _ o (λz=>(hf _ z).2.1 rfl) ho,r⟩
 .refine(I.hok b u e).stay (λc v hc q=>k c v (λz=>?_) q) (λc q=>q) λc ys q=>q
  have hcn:=(hf c z).1;rcases hc with rfl|hc
  .rw[hcn] at e;cases e
  .rw[hcn] at hc;cases hc
end
noncomputable def Itz (tp:Ar)(K:Aj)(a b:Af):It:=
  ⟨λi H=>∃ xs ys x y,Sq tp K H a xs/\Sq tp K H b ys/\xs[i]? = Ab x/\ys[i]? = Ab y,
   λi H v H'=>∃ T x y,v=.ref T/\H T=none/\H'=upd H T (.tup [x,y])/\(∀ xs,Sq tp K H a xs->xs[i]? = Ab x)/\∀ ys,Sq tp K H b ys->ys[i]? = Ab y,
   λi H=>∃ xs ys,Sq tp K H a xs/\Sq tp K H b ys/\(xs.length<=i\/ys.length<=i)⟩
def a8 (tp:Ar)(z I O i j a b:Af)(k:Ai)(h:Br):Prop:=∃ p q,O8 h z I O .none/\IH h I (.ref i) (.ref j)/\IH h O p q/\zC tp h i a k/\zC tp h j b k
theorem p9 {z I O i j a b:Af}{k:Ai}{h:Br}(st:a8 tp z I O i j a b k h):∀ c∈[z,I,O,i,j],∃ o,h.get? c=Ab o/\∀ v,o.data≠.cell v:=λc hc=>by
 obtain⟨p,q,s1,s2,s3,s4,s5⟩:=st;simp only[Ax,Eh,IM] at hc;rcases hc with rfl|rfl|rfl|rfl|rfl
 .exact⟨_,s1,λv y=>by cases y⟩
 .exact⟨_,s2,λv y=>by cases y⟩
 .exact⟨_,s3,λv y=>by cases y⟩
 .exact s4.there
 .exact s5.there
theorem U2 {c z I O i j:Af}(h:c ∉ [z,I,O,i,j]):c≠z/\c≠O/\c≠i/\c≠j:=by
 simp only[Ax,Eh,IM,Uu] at h;exact⟨h.1,h.2.2.1,h.2.2.2.1,h.2.2.2.2⟩
theorem V5 {P:Be}{w:Bx}{K:Aj}{elts:Aa Bt}{x1:Ai}{tpos:Eu}{z I O i j a b:Af}(D:ZA z I O i j):Turn P w K (.Tuple elts x1 tpos) (Itz tp K a b) [z,I,O,i,j] z (a8 tp z I O i j a b) where
 mem:=.head _
 obj:=λk h st=>p9 st
 keep:=λk h h' st kp=>by
  obtain⟨p,q,s1,s2,s3,s4,s5⟩:=st;exact⟨p,q,kp z (.head _) _ s1,kp I (.tail _ (.head _)) _ s2,kp O (.tail _ (.tail _ (.head _))) _ s3,s4.keep λo e=>kp i (.tail _ (.tail _ (.tail _ (.head _)))) o e,s5.keep λo e=>kp j (.tail _ (.tail _ (.tail _ (.tail _ (.head _))))) o e⟩
 item:=by
  intro X hP hw hK hc k pins s σ H E Iv hf st hg;subst hP hw hK;obtain⟨p,q,s1,s2,s3,s4,s5⟩:=st;obtain⟨xs,ys,x,y,qa,qb,hx,hy⟩:=hg;obtain⟨ia,ra,ha⟩:=qa.at Iv;obtain⟨ib,rb,hb⟩:=qb.at Iv;obtain⟨u,hu,ru⟩:=ra.get hx;obtain⟨u',hu',ru'⟩:=rb.get hy;have off:∀ {c:Af} {zs:Aa V},Sq tp X.K H c zs->Off z O i j c:=λ{c zs} qc=>⟨qc.off Iv (hf z (.head _)),qc.off Iv (hf O (.tail _ (.tail _ (.head _)))),qc.off Iv (hf i (.tail _ (.tail _ (.tail _ (.head _))))),qc.off Iv (hf j (.tail _ (.tail _ (.tail _ (.tail _ (.head _))))))⟩;have hT:s.TypeIs (.ref z) "zip":=⟨_,s1,rfl⟩;unfold Mi;refine Ad (Jr (Dy (name:=Hg "__next__") hT Oc (Ea Oc hT Xh
   (VD D (off qa) (off qb) s1 s2 s3 s4 s5 ha hb (by simpa using hu) (by simpa using hu') λh' a1 a2 a3 a4 a5 a6 a7=>Al ?_) (Wn _))))
  refine⟨_,rfl,wpAny_letOwnedTupleGo_zip (s:={ s with heap:=h' }) a1 λh2 b1 b2=>?_⟩
  have up:∀ c o,c≠z->h'.get? c=Ab o->h2.get? c=Ab o:=λc o n e=>(b2.2 c n).trans e;have zl:z<s.heap.objs.size:=Az s1;have T2:IH h2 s.heap.objs.size u u':=up _ _ (Fw zl) a5;have st2:a8 tp z I O i j a b (k+1) h2:=⟨u,u',b1,up _ _ D.Iz (a7 I _ D.Iz D.IO D.Ii D.Ij s2),up _ _ D.Oz a2,a3.keep λo e=>up _ o D.iz e,a4.keep λo e=>up _ o D.jz e⟩;refine⟨.ref s.heap.objs.size,upd H s.heap.objs.size (.tup [x,y]),?_,rfl,⟨_,x,y,rfl,Iv.hok.fresh (As _),rfl,λzs qz=>by rw[qz.inj Iv qa];exact hx,λzs qz=>by rw[qz.inj Iv qb];exact hy⟩,st2,λc hc=>?_⟩
  .show _L.Inv X pins σ (upd H s.heap.objs.size (.tup [x,y])) { s with heap:=h2 }
   refine Inv.turnLay (fp:=[z,I,O,i,j]) (its:=[u,u']) Iv hf (λc o hc e=>?_) (λc hc=>?_) (As _) (.cons ru (.cons ru' .nil)) ⟨_,T2,rfl,_,rfl⟩ (by show 2<=sizeLine;decide)
   .have hc:=U2 hc
    exact up c o hc.1 (a7 c o hc.1 hc.2.1 hc.2.2.1 hc.2.2.2 e)
   .obtain⟨o,e,_⟩:=p9 st2 c hc
    exact⟨o,e⟩
  .have hn:=(hf c hc).1
   rw[qO ?_]
   .exact hn
   .rintro rfl
    obtain⟨o,e,_⟩:=p9 ⟨p,q,s1,s2,s3,s4,s5⟩ _ hc;exact absurd (Az e) (Ek _)
 done:=by
  intro X hP hw hK hc k pins s σ H E Iv hf st hg;subst hP hw hK;obtain⟨p,q,s1,s2,s3,s4,s5⟩:=st;obtain⟨xs,ys,qa,qb,hend⟩:=hg;obtain⟨ia,ra,ha⟩:=qa.at Iv;obtain⟨ib,rb,hb⟩:=qb.at Iv;have off:∀ {c:Af} {zs:Aa V},Sq tp X.K H c zs->Off z O i j c:=λ{c zs} qc=>⟨qc.off Iv (hf z (.head _)),qc.off Iv (hf O (.tail _ (.tail _ (.head _)))),qc.off Iv (hf i (.tail _ (.tail _ (.tail _ (.head _))))),qc.off Iv (hf j (.tail _ (.tail _ (.tail _ (.tail _ (.head _))))))⟩;have hT:s.TypeIs (.ref z) "zip":=⟨_,s1,rfl⟩;have l1:=ra.length;have l2:=rb.length;unfold Mi;refine Ad (Jr (Dy (name:=Hg "__next__") hT Oc (Ea Oc hT Xh
   (VE (Iv.ok.hd hc) D (off qa) (off qb) s1 s2 s3 s4 s5 ha hb ?_ λh' e kp he=>?_) (Wn _))))
  .rcases hend with y|y
   .exact .inl (by simp;lia)
   .exact .inr (by simp;lia)
  .obtain⟨o,ho,hcl⟩:=he
   refine Ad (Nt (T:="StopIteration") (b:=true) ⟨o,ho,hcl⟩ Sy (Al ⟨rfl,Inv.turnL (fp:=[z,I,O,i,j]) Iv hf λc o hc e=>?_⟩));have hc:=U2 hc;exact kp c o hc.1 hc.2.1 hc.2.2.1 hc.2.2.2 e
 self:=λ_ _ _ _ _ st h=>by
  obtain⟨p,q,s1,_⟩:=st;exact Xi s1 h
noncomputable def wL (xs ys:Aa D):Aa D:=List.zipWith (λx y=>D.tup [x,y]) xs ys
noncomputable def DB (ds:Aa D):Am (Aa D):=match ds with
 |[.tup xs,.tup ys]=>Ab (wL xs ys)
 |[.lst xs,.lst ys]=>Ab (wL xs ys)
 |_=>none
noncomputable def gM (f:DA):DI:=λenv S=>(f env S).bind λds S1=>yV (DB ds) S1
theorem VC {xs ys:Aa D}{i:Ai}:(wL xs ys)[i]? = match xs[i]?,ys[i]? with|some x,Ab y=>Ab (D.tup [x,y])|_,_=>none:=by
 unfold wL;rw[List.getElem?_zipWith];cases xs[i]? <;> cases ys[i]? <;> rfl
theorem bZ (xs ys:Aa D):(wL xs ys).length=min xs.length ys.length:=by simp[wL]
section
variable {K:Aj}
theorem Sq.mono {P P':Hp}(e:qE P P'){a:Af}{xs:Aa V}(q:Sq tp K P a xs):Sq tp K P' a xs:=by
 cases tp with
 |true=>exact yX e q
 |false=>exact e.seq q
theorem K7 {P:Hp}{a b:Af}{xs ys:Aa D}{ws:Aa V}(qa:Sq tp K P a vs)(qb:Sq tp K P b ws)(ta:qB K P α xs vs)(tb:qB K P α ys ws):ItD K (Itz tp K a b) P α (wL xs ys) where
 go:=λi H P1 α1 S hi r e _=>by
  rw[bZ] at hi;have h1:i<vs.length:=by rw[<- ta.length];lia
  have h2:i<ws.length:=by rw[<- tb.length];lia
  exact⟨vs,ws,vs[i],ws[i],qa.mono (e.trans r.sub),qb.mono (e.trans r.sub),by simp,by simp⟩
 yld:=λi H x H' P1 α1 S hi r e e2 y=>by
  obtain⟨T,u,w,rfl,hT,rfl,hu,hw⟩:=y;rw[bZ] at hi;have h1:i<xs.length:=by lia
  have h2:i<ys.length:=by lia
  obtain⟨v1,z1,p1⟩:=ta.get (An h1);obtain⟨v2,z2,p2⟩:=tb.get (An h2);have eu:=hu vs (qa.mono (e.trans r.sub));have ew:=hw ws (qb.mono (e.trans r.sub));rw[z1] at eu;cases eu;rw[z2] at ew;cases ew;obtain⟨r1,s1⟩:=r.pure (o:=.tup [u,w]) hT;refine⟨_,.tup [xs[i],ys[i]],?_,r1,s1,?_⟩
  .rw[VC,An h1,An h2]
  .exact pP (.of qX) (.cons (Rep.mono (e.trans s1) e2 _ _ p1) (.cons (Rep.mono (e.trans s1) e2 _ _ p2) .nil))
 stop:=λi H P1 α1 S hi r e _=>by
  rw[bZ] at hi;have l1:=ta.length;have l2:=tb.length;exact⟨vs,ws,qa.mono (e.trans r.sub),qb.mono (e.trans r.sub),by lia⟩
end
section
variable {X:Cx}{e1 e2:Bt}{elts:Aa Bt}{x1:Ai}{tpos:Eu}{f:DA}{p pos:Eu}
theorem X3 {pins:Aa (Af × Ci)}{σ:_L.St}{H P:Hp}{s:Ag}{a b:Af}{xs ys:Aa D}{ws:Aa V}(I:Inv X pins σ H s)(r:Rel X.K H P α S)(qa:Sq tp X.K P a vs)(qb:Sq tp X.K P b ws)(ta:qB X.K P α xs vs)(tb:qB X.K P α ys ws)
  (q:OkI X P α R (wL xs ys) S):Ap (Au X.prog X.w) X.A (call (.type "zip") [.ref a,.ref b]) (λv s1=>Ap (Au X.prog X.w) X.A (Nj v) (PIE X pins σ (.Tuple elts x1 tpos) R) X.xe s1) X.xe s:=by
 obtain⟨ia,ra,ha⟩:=(qa.mono r.sub).at I;obtain⟨ib,rb,hb⟩:=(qb.mono r.sub).at I;refine XC ha hb λh' z1 z2 z3 z4 z5 z6 z7=>?_;refine Xi (s:={ s with heap:=h' }) z1 ?_
 have D:ZA (s.heap.objs.size+4) (s.heap.objs.size+2) (s.heap.objs.size+3) s.heap.objs.size (s.heap.objs.size+1):=by constructor <;> (intro z;simp at z)
 refine⟨_,[s.heap.objs.size+4,s.heap.objs.size+2,s.heap.objs.size+3,s.heap.objs.size,s.heap.objs.size+1],_,_,H,rfl,I.kept (t':=s.toks) z7,V5 (a:=a) (b:=b) D,⟨_,_,z1,z2,z3,z4,z5⟩,λc hc=>?_,q _ _ P α r (qE.refl _) (Bl _) (K7 qa qb ta tb)⟩;have hl:s.heap.objs.size<=c:=by
  simp only[Ax,Eh,IM] at hc;rcases hc with rfl|rfl|rfl|rfl|rfl <;> simp
 exact I.fpOk hl (I.hok.fresh hl)
inductive ZipV (ds:Aa D)(its:Aa D):Prop
 |tup (xs ys:Aa D) (ed:ds=[.tup xs,.tup ys]) (e:its=wL xs ys)
 |lst (xs ys:Aa D) (ed:ds=[.lst xs,.lst ys]) (e:its=wL xs ys)
theorem BO (h:DB ds=Ab its):ZipV ds its:=by
 cases ds with
 |nil=>exact nn h
 |cons a ds =>
  cases a with
  |tup xs =>
   cases ds with
   |nil=>exact nn h
   |cons b ds =>
    cases b with
    |tup ys =>
     cases ds with
     |nil=>exact .tup xs ys rfl (Cz h).symm
     |cons _ _=>exact nn h
    |_=>exact nn h
  |lst xs =>
   cases ds with
   |nil=>exact nn h
   |cons b ds =>
    cases b with
    |lst ys =>
     cases ds with
     |nil=>exact .lst xs ys rfl (Cz h).symm
     |cons _ _=>exact nn h
    |_=>exact nn h
  |_=>exact nn h
theorem FT (hg:Gl X "zip")(hm:X.mg "zip" = none)(ha:PA X [e1,e2] (tDA X f))(hs:Bm [e1,e2] X.env=(false,eval e1 X.env)::Bm [e2] X.env:=by rfl)(hpl:(Gi pos (Bm [e2] X.env)).any (·.1)=false:=by rfl) :
  PI X (.Tuple elts x1 tpos) (.Call (.Name "zip" p) [e1,e2] [] pos) (tDI X (gM f)):=by
 intro pins s σ H R I h;obtain⟨P,α,env,S,r,re,af⟩:=h;refine Call_ (wI I hg hm boot_zip (Fu (thn (wY ha I r re af pos) λus s1 ⟨vs,H1,P1,α1,ds,S1,I1,rv,r1,re1,rp,e1,e2,af1⟩=>?_) hs hpl));obtain⟨its,hi,q⟩:=yW af1;cases BO hi with
 |tup xs ys ed e =>
  subst ed e;obtain⟨v,w,u,x,rfl,rfl,p1,p2,q1,q2⟩:=lX rp rv;simp only[Rep] at p1 p2;obtain⟨a,va,rfl,qa,ta⟩:=p1;obtain⟨b,vb,rfl,qb,tb⟩:=p2;cases (show u=Dm a from q1)
  cases (show x=Dm b from q2)
  exact X3 (tp:=true) I1 r1 qa qb ta tb (q.base e1 e2)
 |lst xs ys ed e =>
  subst ed e;obtain⟨v,w,u,x,rfl,rfl,p1,p2,q1,q2⟩:=lX rp rv;simp only[Rep] at p1 p2;obtain⟨a,va,rfl,qa,ta⟩:=p1;obtain⟨b,vb,rfl,qb,tb⟩:=p2;cases (show u=Dm a from q1)
  cases (show x=Dm b from q2)
  exact X3 (tp:=false) I1 r1 qa.l qb.l ta tb (q.base e1 e2)
end
def Src (K:Aj)(mg:Av->Am Ac)(x:Av)(st:Fx)(ps:Aa Av):Prop:=∃ f fd,mg x=Ab (.ref f)/\Fun K x x st f fd/\vL K fd ps []
def Lk (K:Aj)(f:Af)(fd:Fh):Prop:=∃ oc od osl,K.lookup f=Ab ⟨oc,od,.func fd,osl⟩
theorem fS {K:Aj}{x q:Av}{st:Fx}{f:Af}{fd:Fh}(F:Fun K x q st f fd):Lk K f fd:=by
 obtain⟨oc,od,kV,doc,pm,an,cdv,ct,osl,_,lk,_⟩:=F.ex;exact⟨oc,od,osl,lk⟩
theorem Lk.one {K:Aj}{f:Af}{fd fd':Fh}(h:Lk K f fd)(h':Lk K f fd'):fd=fd':=by
 obtain⟨oc,od,osl,e⟩:=h;obtain⟨oc',od',osl',e'⟩:=h';rw[e] at e';cases e';rfl
noncomputable def Def (P:Be)(w:Bx)(K:Aj)(mg:Av->Am Ac)(base:Br)(cm:Ar)(k:Ai)(x:Av)(n:Ai)(F:DF):Prop:=
 ∃ f fd ps,ps.length=n/\mg x=Ab (.ref f)/\Gh K (.ref f)=true/\vL K fd ps [] /\ Lk K f fd/\FnX P w K mg base cm k f fd ps (spD K n F)
def d0 (P:Be)(w:Bx)(K:Aj)(mg:Av->Am Ac)(base:Br)(cm:Ar)(k:Ai)(x:Av)(ps:Aa Av)(F:DF):Prop:=
 ∃ f fd,mg x=Ab (.ref f)/\Gh K (.ref f)=true/\vL K fd ps [] /\ Lk K f fd/\FnX P w K mg base cm k f fd ps (spD K ps.length F)
section
variable {P:Be}{w:Bx}{K:Aj}{mg:Av->Am Ac}{base:Br}{cm:Ar}
theorem VJ {x:Av}{f:Af}{fd:Fh}{cdv:Ac}(hm:mg x=Ab (.ref f))(lk:Lk K f fd)(h:fd.code=cdv/\Mod K mg base):bB K x cdv:=λc T e=>by
 obtain⟨oc,od,osl,lk⟩:=lk;rw[<- h.1];exact PySem.W.law_code h.2.kin h.2.glob e hm (h.2.kin _ _ lk) rfl
theorem FP {x:Av}{st:Fx}{ps:Aa Av}{k:Ai}{g:DS}(h:Src K mg x st ps)(S:FnScope N ps (qK st))
  (hbody:∀ (f:Af) (cdv:Ac) (A:Bv) (outer:Aa IZ) (s:Ag) (H:Hp) (E:XK),bB K x cdv->RoomC cm k (A.deeper (Gq x (qK st) s.heap.objs.size f cdv)) ->
   PSs (cxC cm P w K mg base N x (qK st) f cdv A outer s H E) (zQ st) (tDS (cxC cm P w K mg base N x (qK st) f cdv A outer s H E) g)):Def P w K mg base cm (k+1) x ps.length (qQ N.length g):=by
 obtain⟨f,fd,hm,F,hb⟩:=h;exact⟨f,fd,ps,rfl,hm,F.kp,hb,fS F,fnX F S λcdv A outer s H E hc hr=>hbody f cdv A outer s H E (VJ hm (fS F) hc) hr⟩
theorem J7 {x:Av}{st:Fx}{ps:Aa Av}{k:Ai}{g:DS}(h:Src K mg x st ps)(S:FnScope N ps (qK st))
  (hbody:∀ (f:Af) (cdv:Ac) (A:Bv) (outer:Aa IZ) (s:Ag) (H:Hp) (E:XK),bB K x cdv->RoomC cm k (A.deeper (Gq x (qK st) s.heap.objs.size f cdv)) ->
   PSs (cxC cm P w K mg base N x (qK st) f cdv A outer s H E) (zQ st) (tDS (cxC cm P w K mg base N x (qK st) f cdv A outer s H E) g)):d0 P w K mg base cm (k+1) x ps (qQ N.length g):=by
 obtain⟨f,fd,hm,F,hb⟩:=h;exact⟨f,fd,hm,F.kp,hb,fS F,fnX F S λcdv A outer s H E hc hr=>hbody f cdv A outer s H E (VJ hm (fS F) hc) hr⟩
theorem Def.eq {x:Av}{k n:Ai}{F G:DF}(h:Def P w K mg base cm k x n F)(e:∀ ds S,ds.length=n->G ds S≠.bad->F ds S=G ds S):Def P w K mg base cm k x n G:=by
 obtain⟨f,fd,ps,hn,hm,hk,hb,hl,X⟩:=h;exact⟨f,fd,ps,hn,hm,hk,hb,hl,X.eq e⟩
theorem Def.any {x:Av}{k n:Ai}{F:DF}(h:Def P w K mg base false k x n F):Def P w K mg base cm k x n F:=by
 obtain⟨f,fd,ps,hn,hm,kp,hb,hl,X⟩:=h;exact⟨f,fd,ps,hn,hm,kp,hb,hl,X.any⟩
end
section
variable {X:Cx}{cm:Ar}{k n:Ai}{F:DF}{x:Av}{p pos:Eu}{e:Bt}{es:Aa Bt}{fa:DA}
theorem dcN (G:Def X.prog X.w X.K X.mg X.base cm k x n F)(hr:RoomC cm k X.A)(hF:Fn1 X)(hg:Gl X x)(ha:PA X (e::es) (tDA X fa))(hdb:(x == ("__debug__" : Av))=false:=by decide)(he:Bm (e::es) X.env=(false,eval e X.env)::Bm es X.env:=by rfl)(hpl:(Gi pos (Bm es X.env)).any (·.1)=false:=by rfl) :
  PE X (.Call (.Name x p) (e::es) [] pos) (tD X (qH n F fa)):=by
 obtain⟨f,fd,ps,hn,hm,kp,hb,hl,G⟩:=G;exact UZ G hr hF hg hm kp hb ha hdb he hpl
end
noncomputable def xE:DF:=λds S=>match ds with
 |[.dct0]=>.bad
 |_=>dU ds S
theorem UT {X:Cx}:yI X (.builtin "len") xE:=F6 trivial
theorem VI:∃ C:Ak->Ak->Ar,C=dB:=⟨_,rfl⟩
def VH:Ak->Ak->Ar:=Kr VI
theorem dD:VH=dB:=Jy VI
def xF:G2:=i2 VH λi j=>.int (i*j)
theorem G6 {X:Cx}:OpD X (Fg .Mult) xF:=by
 unfold xF;rw[dD];exact KZ
theorem hu1 {cm:Ar}{k:Ai}{A:Bv}(hr:RoomC cm k A):A.units+1<Eg:=by have:=hr.units;lia
theorem oB:Fm "len" = Ab (.builtin "len"):=by decide +kernel
noncomputable def okO (F:DF):DF:=λds S=>match F ds S with
 |.ok d S'=>.ok d S'
 |_=>.bad
theorem sM {F:DF}{S':Sto}{d:D}(h:F ds S=.ok d S'):okO F ds S=.ok d S':=by unfold okO;rw[h]
section
variable {X:Cx}{cm:Ar}{k n:Ai}{F:DF}{x:Av}{p pos:Eu}{e:Bt}{es:Aa Bt}{fa:DA}{f:Af}{fd:Fh}{ps:Aa Av}
theorem PQ {pins:Aa (Af × Ci)}{σ:_L.St}{H:Hp}{s:Ag}{Q:VK}{us:Aa Ac}{P:Hp}(G:FnX X.prog X.w X.K X.mg X.base cm k f fd ps (spD X.K n F))(hr:RoomC cm k X.A)(hb:vL X.K fd ps [])
  (I:Inv X pins σ H s) (r:Rel X.K H P α S) (rv:qI vs us) (rp:qB X.K P α ds vs) (hn:ds.length=n) (af:qR X P α (okO F ds S) Q):Ap (Au X.prog X.w) X.A (call (.ref f) us) (EP X pins σ Q) X.xe s:=by
 have hvn:vs.length=n:=by rw[<- rp.length];exact hn
 have hsp:spD X.K n F vs H Q λ_ _ _=>Fd:=by
  refine⟨hvn,P,α,ds,S,r,rp,?_⟩;unfold okO at af;cases q:F ds S with
  |ok d S'=>rw[q] at af;exact af
  |ex c x S'=>rw[q] at af;exact Aq af
  |bad=>rw[q] at af;exact af
 have hl:us.length=ps.length:=by rw[<- rv.length];exact G.len _ _ _ _ hsp
 have hb':=hb s us I.kIn (by rw[Gz];exact hl)
 rw[Gz] at hb';refine Uc (IJ (G.run X.A X.stack s H ⟨us,[]⟩ us vs Q _ hr I.env0 hb' rv hsp) λr s' hq=>?_);cases r with
 |error u =>
  obtain⟨_,_,_,_,_,_,_,_,_,_,_,_,z⟩:=hq;exact Aq z
 |ok fl =>
  cases fl with
  |ret u=>exact I.after hq
  |next=>exact Aq hq
  |brk=>exact Aq hq
  |cont=>exact Aq hq
theorem dcO (G:Def X.prog X.w X.K X.mg X.base cm k x n F)(hr:RoomC cm k X.A)(hg:Gl X x)(ha:PA X (e::es) (tDA X fa))(hdb:(x == ("__debug__" : Av))=false:=by decide)(he:Bm (e::es) X.env=(false,eval e X.env)::Bm es X.env:=by rfl)(hpl:(Gi pos (Bm es X.env)).any (·.1)=false:=by rfl) :
  PE X (.Call (.Name x p) (e::es) [] pos) (tD X (qH n (okO F) fa)):=by
 obtain⟨f,fd,ps,hn0,hm,hk,hb,hl,G⟩:=G;intro pins s σ H Q I h;obtain⟨P,α,env,S,r,re,af⟩:=h;refine Hr (pM I hg hm ?_ hdb);refine Ve (h₀:=X.base) I.ok.mod.kin hk (thn (wY ha I r re af pos) λus s1 ⟨vs,H1,P1,α1,ds,S1,I1,rv,r1,re1,rp,e1,e2,af1⟩=>⟨I1.kIn,?_⟩) he hpl;obtain⟨hn,af2⟩:=nR (env:=env) (S:=S) af1;exact PQ G hr hb I1 r1 rv rp hn (qR.base e1 e2 af2)
end
structure QE (X:Cx)(e:Bt)(f:DE):Prop where
 get:PE X e (tD X f)
structure QT (X:Cx)(e:Bt)(t:DT):Prop where
 get:PT X e (tDT X t)
structure QW (X:Cx)(e:Bt)(t:DT):Prop where
 get:PWD X e t
structure QA (X:Cx)(es:Aa Bt)(f:DA):Prop where
 get:PA X es (tDA X f)
structure QO (X:Cx)(e:Am Bt)(f:DO):Prop where
 get:PO X e (tDO X f)
structure QG (X:Cx)(t:Bt)(g:DG):Prop where
 get:PG X t (tDG X g)
structure QGs (X:Cx)(ts:Aa Bt)(g:DGs):Prop where
 get:PGs X ts (rB X g)
structure QI (X:Cx)(tg it:Bt)(f:DI):Prop where
 get:PI X tg it (tDI X f)
structure QS (X:Cx)(s:Fx)(f:DS):Prop where
 get:PS X s (tDS X f)
structure QB (X:Cx)(ss:Aa Fx)(f:DS):Prop where
 get:PSs X ss (tDS X f)
structure QJ (X:Cx)(es:Aa Bt)(fs:Aa DE):Prop where
 get:PJ X es fs
structure ZOp (X:Cx)(f:Ac->Ac->Jw Ac)(g:G2):Prop where
 get:OpD X f g
structure ZUn (X:Cx)(f:Ac->Jw Ac)(g:D->Sto->Res D):Prop where
 get:UnD X f g
structure ZIx (X:Cx)(g:G2):Prop where
 get:IxD X g
structure ZCall (X:Cx)(f:Ac)(F:DF):Prop where
 get:yI X f F
structure ZMt (X:Cx)(id:Et)(g:D->Aa D->Sto->Res D):Prop where
 get:MtD X id g
structure ZIp (X:Cx)(op:Mx)(g:G2):Prop where
 get:IpD X op g
structure ZSet (X:Cx)(g:G3):Prop where
 get:d3 X (lZ X g)
structure ZPass (X:Cx):Prop where
 get:OV (Au X.prog X.w) X.A X.env X.xe
section
variable {X:Cx}{a b c e e1 e2 o i:Bt}{es qJ:Aa Bt}{fa fb fc fe fo fi:DE}{ta tb:DT}{fA:DA}{f g:DS}{st:Fx}{sts:Aa Fx}{x:Av}{p pos:Eu}{n k:Ai}{cm:Ar}{F:DF}{G2':G2}
theorem NQ:QE X (.Constant .none j pos) (dC .non):=⟨FK⟩
theorem RL:QE X (.Constant (.bool v) j pos) (dC (.bl v)):=⟨DN⟩
theorem NO:QE X (.Constant (.int v) j pos) (dC (.int v)):=⟨FI⟩
theorem NT:QE X (.Constant (.str v) j pos) (dC (.str v)):=⟨FN⟩
theorem NV (m:Ai)(hN:X.N[m]? = Ab x)(hv:Vis X.env.scope x)(hd:(x == ("__debug__" : Av))=false)(hcd:(x == ("__classdict__" : Av))=false):QE X (.Name x pos) (q9 m):=⟨dv m hN hv hd hcd⟩
theorem GR {nm:Et}(hg:Gl X x)(hm:X.mg x=none)(hv:Fm x=Ab (.type nm))(hn:x ≠ "__name__")(hd:(x == ("__debug__" : Av))=false):QE X (.Name x pos) (dC (.ty nm)):=⟨UY hg hm hv hn hd⟩
theorem GS {v:Ak}(hg:Gl X x)(hm:∃ t,X.mg x=Ab (.int v t))(hd:(x == ("__debug__" : Av))=false):QE X (.Name x pos) (dC (.int v)):=⟨let ⟨_,h⟩:=hm;J0 (v:=.int v) hg h ⟨_,rfl⟩ (λ_ _=>by simp only[Rep]) hd⟩
theorem RP {op:UnaryOp}{h:D->Sto->Res D}(ho:ZUn X (WP op) h)(ha:QE X a fa):QE X (.UnaryOp op a pos) (d1 h fa):=⟨DV ho.1 ha.1⟩
theorem NR (ha:QE X a fa):QE X (.UnaryOp .Not a pos) (XJ fa):=⟨FL ha.1⟩
theorem RO {op:Mx}(ho:ZOp X (Fg op) G2')(ha:QE X a fa)(hb:QE X b fb):QE X (.BinOp a op b pos) (d2 G2' fa fb):=⟨DU ho.1 ha.1 hb.1⟩
theorem NL {op:Tu}(ho:ZOp X (Co op) G2')(ha:QE X a fa)(hb:QE X b fb)(hm:Kw op b=false:=by first|exact gT _|with_unfolding_all rfl):QE X (.Compare a [op] [b] pos) (d2 G2' fa fb):=⟨FF ho.1 ha.1 hb.1 hm⟩
theorem YF {op op':Tu}{g':G2}(ho:ZOp X (Co op) G2')(ho':ZOp X (Co op') g')(ha:QE X a fa)(hb:QE X b fb)(hc:QE X c fc)(hm:Wl [op,op'] [b,c]=false:=by with_unfolding_all rfl):QE X (.Compare a [op,op'] [b,c] pos) (w6 G2' g' fa fb fc):=⟨XN ho.1 ho'.1 ha.1 hb.1 hc.1 hm⟩
theorem NS  (h:QE X a fa):QE X (.BoolOp op [a] pos) fa:=⟨FM h.1⟩
theorem NK (ha:QE X a fa)(hb:QE X (.BoolOp .And (b::qJ) pos) fb):QE X (.BoolOp .And (a::b::qJ) pos) (gK fa fb):=⟨FE ha.1 hb.1⟩
theorem RM (hc:QT X c ta)(ha:QE X a fa)(hb:QE X b fb):QE X (.IfExp c a b pos) (dIf ta fa fb):=⟨DQ hc.1 ha.1 hb.1⟩
theorem NU  (h:QA X es fA):QE X (.Tuple es x1 pos) (wW fA):=⟨FO h.1⟩
theorem NP (h:QA X es fA):QE X (.List es pos) (gL fA):=⟨FJ h.1⟩
theorem GU (h:QA X es fA):QE X (.List es pos) (fD fA):=⟨J3 h.1⟩
theorem NM:QE X (.Dict [] [] pos) aI:=⟨FG⟩
theorem RN (ho:ZIx X G2')(ha:QE X a fa)(hb:QE X b fb)(hs:mG b:=by intro _ _;rfl):QE X (.Subscript a b pos) (d2 G2' fa fb):=⟨DR ho.1 ha.1 hb.1 hs⟩
theorem YH {lo hi:Am Bt}{fl fh:DO}{p2:Eu}(he:QE X e fe)(hl:QO X lo fl)(hu:QO X hi fh):QE X (.Subscript e (.Slice lo hi none p2) pos) (dSl fe fl fh):=⟨XQ he.1 hl.1 hu.1⟩
theorem PB:QO X none xU:=⟨JD⟩
theorem PC (he:QE X e fe):QO X (Ab e) (x9 fe):=⟨JE he.1⟩
theorem NN (he:QE X e fe):QE X (.FormattedValue e (-1) none pos) (d1 mW fe):=⟨FH he.1⟩
theorem L5:QJ X [] []:=⟨N8⟩
theorem P8 {fs:Aa DE}(he:QE X e fe)(hr:QJ X es fs):QJ X (e::es) (fe::fs):=⟨GG he.1 hr.1⟩
theorem GT {fs:Aa DE}(h:QJ X (e1::e2::qJ) fs):QE X (.JoinedStr (e1::e2::qJ) pos) (aJ fs):=⟨J2 h.1⟩
theorem NI:QA X [] qA:=⟨FB⟩
theorem GQ (ha:QE X e fa)(hr:QA X es fA)(hs:Bm (e::es) X.env=(false,eval e X.env)::Bm es X.env:=by rfl):QA X (e::es) (q8 fa fA):=⟨UX ha.1 hr.1 hs⟩
theorem qcN (G:Def X.prog X.w X.K X.mg X.base cm k x n F)(hr:RoomC cm k X.A)(hF:Fn1 X)(hg:Gl X x)(ha:QA X (e::es) fA)(hdb:(x == ("__debug__" : Av))=false)(he:Bm (e::es) X.env=(false,eval e X.env)::Bm es X.env:=by rfl)(hpl:(Gi pos (Bm es X.env)).any (·.1)=false:=by rfl):QE X (.Call (.Name x p) (e::es) [] pos) (qH n F fA):=⟨dcN G hr hF hg ha.1 hdb he hpl⟩
theorem YE {id:Et}(hc:ZCall X (.builtin id) F)(hg:Gl X x)(hm:X.mg x=none)(hv:Fm x=Ab (.builtin id))(ha:QA X (e::es) fA)(hn:x ≠ "__name__")(hdb:(x == ("__debug__" : Av))=false)(he:Bm (e::es) X.env=(false,eval e X.env)::Bm es X.env:=by rfl)(hpl:(Gi pos (Bm es X.env)).any (·.1)=false:=by rfl):QE X (.Call (.Name x p) (e::es) [] pos) (qU F fA):=⟨XM hc.1 hg hm hv ha.1 hn hdb he hpl⟩
theorem ZG {T:Et}(hc:ZCall X (.type T) F)(hg:Gl X x)(hm:X.mg x=none)(hv:Fm x=Ab (.type T))(ha:QA X (e::es) fA)(hn:x ≠ "__name__")(hdb:(x == ("__debug__" : Av))=false)(he:Bm (e::es) X.env=(false,eval e X.env)::Bm es X.env:=by rfl)(hpl:(Gi pos (Bm es X.env)).any (·.1)=false:=by rfl):QE X (.Call (.Name x p) (e::es) [] pos) (qU F fA):=⟨oO hc.1 hg hm hv ha.1 hn hdb he hpl⟩
theorem U9 {T id:Et}{name:Av}{apos:Eu}{h:D->Aa D->Sto->Res D}(pa:PlainAttrs T)(slot:Slot T name id)(hty:typeOf (.builtin id)=pure (.type "method_descriptor"))(hT:T = "list" \/ T = "dict" \/ T = "int" \/ T = "str")(hm:ZMt X id h)(ho:QE X o fo)(ha:QA X (e::es) fA)
  (hbase:Kx o name X.env (eval o X.env)=eval o X.env:=by rfl)
  (hfew:((Gi pos (Bm (e::es) X.env)).all (λx=>!x.1)&&(backToKw pos (keywordEach [] X.env)).all (λx=>x.1.isSome)&&decide ((e::es).length+([]:Aa Zn).length+(if ([] : Aa Zn).isEmpty then 0 else 1)<30))=true:=by rfl)
  (hline:(apos.endLine == pos.line)=true:=by rfl) (hs:Bm (e::es) X.env=(false,eval e X.env)::Bm es X.env:=by rfl) (hplain:(Gi pos (Bm es X.env)).any (·.1)=false:=by rfl):QE X (.Call (.Attribute o name apos) (e::es) [] pos) (dBm T h fo fA):=⟨DP pa slot hty hT hm.1 ho.1 ha.1 hbase hfew hline hs hplain⟩
theorem RT (h:QW X e ta):QT X e ta:=⟨PWD.pt h.1⟩
theorem cB (ha:QT X a ta):QW X (.BoolOp .And [a] pos) ta:=⟨JK ha.1⟩
theorem ZJ (ha:QT X a ta):QW X (.BoolOp .Or [a] pos) ta:=⟨M6 ha.1⟩
theorem ZI (ha:QT X a ta)(hb:QW X (.BoolOp .And (b::qJ) pos) tb):QW X (.BoolOp .And (a::b::qJ) pos) (xX ta tb):=⟨M5 ha.1 hb.1⟩
theorem UA (ha:QT X a ta)(hb:QW X (.BoolOp .Or (b::qJ) pos) tb):QW X (.BoolOp .Or (a::b::qJ) pos) (u4 ta tb):=⟨SB ha.1 hb.1⟩
theorem LD (ha:QT X a ta):QT X (.UnaryOp .Not a pos) (xO ta):=⟨M3 ha.1⟩
theorem LC {op:Tu}(ho:ZOp X (Co op) G2')(ha:QE X a fa)(hb:QE X b fb)(hm:Kw op b=false:=by first|exact gT _|with_unfolding_all rfl):QT X (.Compare a [op] [b] pos) (dTr (d2 G2' fa fb)):=⟨M2 ho.1 ha.1 hb.1 hm⟩
theorem YQ {op op':Tu}{g':G2}(ho:ZOp X (Co op) G2')(ho':ZOp X (Co op') g')(ha:QE X a fa)(hb:QE X b fb)(hc:QE X c fc)(hm:Wl [op,op'] [b,c]=false:=by with_unfolding_all rfl):QT X (.Compare a [op,op'] [b,c] pos) (dTr (w6 G2' g' fa fb fc)):=⟨W1 ho.1 ho'.1 ha.1 hb.1 hc.1 hm⟩
theorem LF (ha:QE X a fa)(he:∀ whole,isTrue a X.env whole=(do let v <- whole;Pb a.pos;holding [v] (truthy v)):=by intro _;rfl):QT X a (dTr fa):=⟨M4 ha.1 he⟩
theorem GX (hN:X.N.Nodup)(hi:X.N[m]? = Ab x)(hx:Loc X.env.scope x)(hf:X.fn x=true\/X.env.scope.names.lookup x=Ab .local):QG X (.Name x pos) (gNm m):=⟨J8 hN hi hx hf⟩
theorem GY:QGs X [] wU:=⟨J9⟩
theorem YI {h:DG}{gs:DGs}(h1:QG X e h)(h2:QGs X es gs)(hs:(Go (e::es) X.env).map (·.2)=assign e X.env::(Go es X.env).map (·.2):=by rfl):QGs X (e::es) (zM h gs):=⟨XS h1.1 h2.1 hs⟩
theorem NY {kk:Ai}{gs:DGs}(hc:X.calm=true)(h:QGs X es gs)(hn:(Go es X.env).length=n:=by rfl)(hst:(Go es X.env).findIdx? (·.1)=none:=by rfl):QG X (.Tuple es kk pos) (gTp n gs):=⟨FR hc h.1 hn hst⟩
theorem NW {h:G3}(ho:QE X o fo)(hi:QE X i fi)(hs:ZSet X h)
  (ha:∀ v,assign (.Subscript o i pos) X.env v=(do
   let ov <- holding [v] (eval o X.env)
   let iv <- holding [v,ov] (eval i X.env)
   Pb pos
   holding [v,ov,iv] (Zj ov iv v)
   release [v,ov,iv] []):=by intro _;rfl):QG X (.Subscript o i pos) (gSb fo fi h):=⟨FQ ho.1 hi.1 hs.1 ha⟩
theorem L3 {tg:Bt}(ha:QE X e fa):QI X tg e (vZ fa):=⟨FS ha.1⟩
theorem YK {tg:Bt}(hg:Gl X "range")(hm:X.mg "range" = none)(ha:QA X (e::es) fA)(hs:Bm (e::es) X.env=(false,eval e X.env)::Bm es X.env:=by rfl)(hpl:(Gi pos (Bm es X.env)).any (·.1)=false:=by rfl):QI X tg (.Call (.Name "range" p) (e::es) [] pos) (uY fA):=⟨XU hg hm ha.1 hs hpl⟩
theorem L4 {elts:Aa Bt}{x1:Ai}{tpos:Eu}(hg:Gl X "zip")(hm:X.mg "zip" = none)(ha:QA X [e1,e2] fA)(hs:Bm [e1,e2] X.env=(false,eval e1 X.env)::Bm [e2] X.env:=by rfl)(hpl:(Gi pos (Bm [e2] X.env)).any (·.1)=false:=by rfl):QI X (.Tuple elts x1 tpos) (.Call (.Name "zip" p) [e1,e2] [] pos) (gM fA):=⟨FT hg hm ha.1 hs hpl⟩
theorem NJ:QB X [] zO:=⟨FX⟩
theorem ZE (h:QS X st f):QB X [st] f:=⟨FY h.1⟩
theorem cA (h1:QS X st f)(h2:QB X sts g):QB X (st::sts) (qT f g):=⟨JF h1.1 h2.1⟩
theorem PD (he:QE X e fa)(hs:Mq e none pos.line X.env=pure false:=by rfl):QS X (.Expr e pos) (y9 fa):=⟨JG he.1 hs⟩
theorem LA (he:QE X e fa):QS X (.Return (Ab e) pos) (qW fa):=⟨M0 he.1⟩
theorem RS {as bs:Aa Fx}(hc:QT X c ta)(ha:QB X as f)(hb:QB X bs g):QS X (.If c as bs pos) (sIf ta f g):=⟨DZ hc.1 ha.1 hb.1⟩
theorem YO (hp:ZPass X)(hc:QT X c ta)(hb:QB X body f):QS X (.While c body [] pos) (m8 ta f):=⟨W0 hp.1 hc.1 hb.1⟩
theorem L8 {tg iter:Bt}{fI:DI}{h:DG}(hp:ZPass X)(hc:X.calm=true)(hi:QI X tg iter fI)(hg:QG X tg h)(hb:QB X body f)(hs:∀ x,Dz iter X.env x=pure x:=by intro _;rfl):QS X (.For tg iter body [] pos) (kQ fI h f):=⟨FW hp.1 hc hi.1 hg.1 hb.1 hs⟩
theorem LB {pos':Eu}(hN:X.N.Nodup)(he:QE X e fa)(hi:X.N[m]? = Ab x)(hx:Loc X.env.scope x)(hs:Mq e (Ab (.Name x pos')) pos.line X.env=pure false)(hf:X.fn x=true\/X.env.scope.names.lookup x=Ab .local):QS X (.Assign [.Name x pos'] e pos) (zZ fa (gNm m)):=⟨M1 hN he.1 hi hx hs hf⟩
theorem L6 {tg:Bt}{h:DG}(he:QE X e fa)(hg:QG X tg h)(hs:Kv [tg] e pos.line X.env=pure false:=by rfl)(hw:Ku [tg] e X.env=pure none:=by rfl)(h1:(Go [tg] X.env).map (·.2)=[assign tg X.env]:=by rfl):QS X (.Assign [tg] e pos) (zZ fa h):=⟨FU he.1 hg.1 hs hw h1⟩
theorem L7 {op:Mx}{pos':Eu}(hN:X.N.Nodup)(he:QE X e fe)(ho:ZIp X op G2')(hi:X.N[m]? = Ab x)(hx:Loc X.env.scope x)(hf:X.fn x=true\/X.env.scope.names.lookup x=Ab .local):QS X (.AugAssign (.Name x pos') op e pos) (gW m G2' fe):=⟨FV hN he.1 ho.1 hi hx hf⟩
theorem L9 {l:Ai}{y:Av}{px py pt:Eu} {kt k2 pt2} (hc:X.calm=true) (hN:X.N.Nodup) (ha:QA X [a,b] fA) (hi:X.N[m]? = Ab x) (hj:X.N[l]? = Ab y) (hij:m≠l) (hx:X.env.scope.names.lookup x=Ab .local) (hy:X.env.scope.names.lookup y=Ab .local)
  (hw:Ku [.Tuple [.Name x px,.Name y py] kt pt] (.Tuple [a,b] k2 pt2) X.env=pure (Ab [x,y]):=by rfl) (hs:Kv [.Tuple [.Name x px,.Name y py] kt pt] (.Tuple [a,b] k2 pt2) pos.line X.env=pure false:=by rfl) :
  QS X (.Assign [.Tuple [.Name x px,.Name y py] kt pt] (.Tuple [a,b] k2 pt2) pos) (bU m l fA):=⟨FZ hc hN ha.1 hi hj hij hx hy hw hs⟩
theorem YN {C Ae:Af}{np cpos:Eu}(hc:X.calm=true)(hF:Fn1 X)(hg:Gl X x)(hm:X.mg x=Ab (.ref C))(hx:bH X.K C Ae=true)(ha:QA X (e::qJ) fA)(hdb:(x == ("__debug__" : Av))=false)(he:Bm (e::qJ) X.env=(false,eval e X.env)::Bm qJ X.env:=by rfl)(hpl:(Gi cpos (Bm qJ X.env)).any (·.1)=false:=by rfl) :
  QS X (.Raise (Ab (.Call (.Name x np) (e::qJ) [] cpos)) none pos) (jK (.ref C) fA):=⟨XZ hc hF hg hm hx ha.1 hdb he hpl⟩
theorem EC:ZOp X (Fg .Add) xA:=⟨TB⟩
theorem ER:ZOp X (Fg .Sub) wB:=⟨TL⟩
theorem EL:ZOp X (Fg .Mult) xF:=⟨G6⟩
theorem EE:ZOp X (Fg .FloorDiv) bN:=⟨TC⟩
theorem EK:ZOp X (Fg .Mod) u9:=⟨TJ⟩
theorem EN:ZOp X (Fg .Pow) aS:=⟨TK⟩
theorem CN:ZOp X (Co .Lt) gLt:=⟨U5⟩
theorem CM:ZOp X (Co .LtE) gLe:=⟨RA⟩
theorem CJ:ZOp X (Co .Gt) gGt:=⟨R8⟩
theorem CI:ZOp X (Co .GtE) gGe:=⟨R7⟩
theorem CK:ZOp X (Co .Is) gIs:=⟨R9⟩
theorem BK:ZOp X (Co .IsNot) jG:=⟨Y3⟩
theorem CH (hr:RoomC cm k X.A):ZOp X (Co .Eq) gEq:=⟨R6 hr.units⟩
theorem CO (hr:RoomC cm k X.A):ZOp X (Co .NotEq) gNe:=⟨RB hr.units⟩
theorem EM:ZUn X (WP .USub) yT:=⟨D3⟩
theorem CL:ZIx X gIx:=⟨HN⟩
theorem EH:ZCall X (.builtin "isinstance") vI:=⟨F5⟩
theorem EI:ZCall X (.builtin "len") xE:=⟨UT⟩
theorem ED (hc:X.calm=true):ZCall X (.builtin "all") (gP false):=⟨F3 false hc⟩
theorem EF:ZCall X (.type "int") aQ:=⟨F4⟩
theorem BM:ZCall X (.type "tuple") v8:=⟨XD⟩
theorem V8:ZMt X "list.append" wR:=⟨QR⟩
theorem D9:ZIp X .Add fL:=⟨JY⟩
theorem EO (hr:RoomC cm k X.A):ZSet X yY:=⟨LO (hu1 hr)⟩
end
section
variable {P:Be}{w:Bx}{K:Aj}{mg:Av->Am Ac}{base:Br}{cm:Ar}
theorem BQ {qual:Av}{scope:Eo}{f:Af}{cd:Ac}{A:Bv}{outer:Aa IZ}{s:Ag}{H:Hp}{E:XK}:ZPass (cxC cm P w K mg base N qual scope f cd A outer s H E):=⟨XG⟩
theorem HF {x:Av}{st:Fx}{ps:Aa Av}{k:Ai}{g:DS}(h:Src K mg x st ps)(S:FnScope N ps (qK st))(hbd:zQ st=body)
  (hbody:∀ (f:Af) (cdv:Ac) (A:Bv) (outer:Aa IZ) (s:Ag) (H:Hp) (E:XK),bB K x cdv->RoomC cm k (A.deeper (Gq x (qK st) s.heap.objs.size f cdv)) ->
   QB (cxC cm P w K mg base N x (qK st) f cdv A outer s H E) body g):Def P w K mg base cm (k+1) x ps.length (qQ N.length g):=
 FP h S λf cdv A outer s H E hc hr=>hbd▸(hbody f cdv A outer s H E hc hr).1
theorem DW {x:Av}{st:Fx}{ps:Aa Av}{k:Ai}{g:DS}(h:Src K mg x st ps)(S:FnScope N ps (qK st))(hbd:zQ st=body)
  (hbody:∀ (f:Af) (cdv:Ac) (A:Bv) (outer:Aa IZ) (s:Ag) (H:Hp) (E:XK),bB K x cdv->RoomC cm k (A.deeper (Gq x (qK st) s.heap.objs.size f cdv)) ->
   QB (cxC cm P w K mg base N x (qK st) f cdv A outer s H E) body g):d0 P w K mg base cm (k+1) x ps (qQ N.length g):=
 J7 h S λf cdv A outer s H E hc hr=>hbd▸(hbody f cdv A outer s H E hc hr).1
end
structure QTs (X:Cx)(ifs:Aa Bt)(t:DT):Prop where
 get:PTs X ifs t
section
variable {X:Cx}{elt tg iter e:Bt}{ifs es:Aa Bt}{scope:Eo}{pos p:Eu}{N':Aa Av}{cap:Aa (Am Ai)}{fi:DI}{g:DG}{t u:DT}{fe:DE}{fa:DA}{x:Av}{cm:Ar}{k n:Ai}{F:DF}
theorem PF:QTs X [] x8:=⟨JJ⟩
theorem YR (h1:QT X e t)(h2:QTs X es u):QTs X (e::es) (xX t u):=⟨W2 h1.1 h2.1⟩
theorem qcO (G:Def X.prog X.w X.K X.mg X.base cm k x n F)(hr:RoomC cm k X.A)(hg:Gl X x)(ha:QA X (e::es) fa)(hdb:(x == ("__debug__" : Av))=false)(he:Bm (e::es) X.env=(false,eval e X.env)::Bm es X.env:=by rfl)(hpl:(Gi pos (Bm es X.env)).any (·.1)=false:=by rfl) :
  QE X (.Call (.Name x p) (e::es) [] pos) (qH n (okO F) fa):=⟨dcO G hr hg ha.1 hdb he hpl⟩
end
def stn (o:Am (Ai × MO))(S:Sto):Prop:=match o with
 |none=>Ng
 |some p=>S[p.1]? = Ab p.2
open Classical in
def iT (o:Am (Ai × MO))(S:Sto):Ar:=decide (stn o S)
theorem w4 {o:Am (Ai × MO)}:iT o S=true↔stn o S:=by simp[iT]
structure ItD2 (K:Aj)(J:It)(P:Hp)(α : Aa Af)(o:Am (Ai × MO))(ds:Aa D):Prop where
 go:∀ i H P1 α1 S,i<ds.length->Rel K H P1 α1 S->stn o S->qE P P1->α<+:α1->J.go i H
 yld:∀ i H x H' P1 α1 S,i<ds.length->Rel K H P1 α1 S->stn o S->qE P P1->α<+:α1->J.yld i H x H'->∃ P2 d,ds[i]? = Ab d/\Rel K H' P2 α1 S/\qE P1 P2/\Rep K P2 α1 d x
 stop:∀ i H P1 α1 S,ds.length<=i->Rel K H P1 α1 S->stn o S->qE P P1->α<+:α1->J.stop i H
theorem ItD.two {K:Aj}{J:It}{P:Hp}(h:ItD K J P α ds):ItD2 K J P α none ds:=
 ⟨λi H P1 α1 S a b _ c d=>h.go i H P1 α1 S a b c d,λi H x H' P1 α1 S a b _ c d e=>h.yld i H x H' P1 α1 S a b c d e,λi H P1 α1 S a b _ c d=>h.stop i H P1 α1 S a b c d⟩
abbrev DI2:=qC->Sto->Res (Am (Ai × MO) × Aa D)
inductive tDI2 (X:Cx)(f:DI2)(σ : _L.St)(H:Hp)(R:It->Hp->Prop):Prop
 |mk (P:Hp) (α : Aa Af) (env:qC) (S:Sto) (r:Rel X.K H P α S) (re:qY X.K P α σ env) (af:qG X P α (f env S) (λp S'=>∀ J H' P' α',Rel X.K H' P' α' S'->qE P P'->α<+:α'->ItD2 X.K J P' α' p.1 p.2->R J H')):tDI2 X f σ H R
noncomputable def xG (f:DI):DI2:=λenv S=>(f env S).bind λds S1=>.ok (none,ds) S1
section
variable {X:Cx}{K:Aj}{tg e:Bt}{fa:DE}{pos:Eu}
theorem JB {f:DI}(h:PI X tg e (tDI X f)):PI X tg e (tDI2 X (xG f)):=PI.weak h λσ H R ⟨P,α,env,S,r,re,af⟩=>by
 refine⟨P,α,env,S,r,re,?_⟩;unfold xG at af;cases q:f env S with
 |bad=>rw[q] at af;exact af
 |ex c x S'=>rw[q] at af;exact af
 |ok ds S1 =>
  rw[q] at af;exact λJ H' P' α' r' e1 e2 it=>af J H' P' α' r' e1 e2 it.two
theorem K5 {P:Hp}{a:Af}{n:Ai}(hα:α[n]? = Ab a):ItD2 K (Itl K a) P α (Ab (n,.lst ds)) ds where
 go:=λi H P1 α1 S hi r st e e2=>by
  obtain⟨vs,z,t⟩:=r.at' n a _ (pN e2 hα) st;exact⟨vs,vs[i]'(by rw[<- t.length];exact hi),.of z,by simp⟩
 yld:=λi H x H' P1 α1 S hi r st e e2 y=>by
  obtain⟨rfl,y⟩:=y;obtain⟨vs,z,t⟩:=r.at' n a _ (pN e2 hα) st;have hx:=y vs (.of z);obtain⟨v,h1,h2⟩:=t.get (An hi);rw[hx] at h1;cases h1;exact⟨P1,_,An hi,r,qE.refl _,h2⟩
 stop:=λi H P1 α1 S hi r st e e2=>by
  obtain⟨vs,z,t⟩:=r.at' n a _ (pN e2 hα) st;exact⟨vs,.of z,by rw[<- t.length];exact hi⟩
noncomputable def itD (d:D)(S:Sto):Res (Am (Ai × MO) × Aa D):=match d with
 |.tup xs=>.ok (none,xs) S
 |.lst xs=>.ok (none,xs) S
 |.loc n=>match S[n]? with
  |some (.lst xs)=>.ok (Ab (n,.lst xs),xs) S
  |_=>.bad
 |_=>.bad
noncomputable def dIt (f:DE):DI2:=λenv S=>(f env S).bind λd S1=>itD d S1
theorem DX (ha:PE X e (tD X fa)):PI X tg e (tDI2 X (dIt fa)):=by
 intro pins s σ H R I h;obtain⟨P,α,env,S,r,re,af⟩:=h;refine thn (zL ha I r re af) λvv s1 ⟨v,H1,P1,α1,d,S1,G1,af1⟩=>?_;have seq:∀ ds,xB d=Ab ds->(∀ J H' P' α',Rel X.K H' P' α' S1->qE P P'->α<+:α'->ItD2 X.K J P' α' none ds->R J H')->Ap (Au X.prog X.w) X.A (Nj vv) (PIE X pins σ tg R) X.xe s1:=λds e1 q =>
  sA G1.inv G1.rel G1.val G1.rep e1 λJ H' P' α' r' h1 h2 it=>q J H' P' α' r' (G1.same.trans h1) (G1.pre.trans h2) it.two
 cases d with
 |tup xs=>exact seq xs rfl af1
 |lst xs=>exact seq xs rfl af1
 |loc n =>
  obtain⟨xs,hS,af1⟩:=kJ (X:=X) (f:=λxs=>Res.ok (Ab (n,MO.lst xs),xs) S1) af1;have rp:=G1.rep;simp only[Rep] at rp;obtain⟨a,rfl,ha⟩:=rp;cases (show vv=Dm a from G1.val)
  obtain⟨vs,z,t⟩:=G1.rel.at' n a _ ha hS;obtain⟨its,rv,p,hz⟩:=G1.inv.list (SqL.of z);refine Gd p.isList ?_;refine⟨s1.heap.objs.size,[s1.heap.objs.size],_,_,H1,rfl,G1.inv.kept (t':=s1.toks) λb o e=>Ah _ e,lG a _,⟨_,Ba _ rfl,rfl,rfl⟩,λb hb=>?_,af1 _ _ P1 α1 G1.rel G1.same G1.pre (K5 ha)⟩;have e:b=s1.heap.objs.size:=by simpa using hb
  subst e;exact G1.inv.fpOk (As _) (G1.inv.hok.fresh (As _))
 |_=>exact Aq af1
end
noncomputable def emX (m:Ar)(elt:Bt)(acc:Ac)(env:IZ):Jw Su:=match m with
 |false=>do let _ <- call (.builtin "list.append") [acc,<- eval elt env]
 |true=>do let v <- eval elt env;Pb elt.pos;let _ <- call (.builtin "set.add") [acc,v]
noncomputable def zF (m:Ar)(elt:Bt)(gens:Aa Dg)(scope:Eo)(pos:Eu)(k:Ai)(acc:Ac)(env:IZ):Jw Su:=
 match gens[k+1]? with
 |some g'=>do
  let x <- eval g'.iter env
  Pb g'.iter.pos
  let x <- Dz g'.iter env x
  let it <- holding [x] (Nj x)
  let _ <- runOwn (.compStart (xJ m elt gens scope pos) (k+1) it acc env) env
 |none=>emX m elt acc env
theorem V4 (m:Ar)(elt target iter:Bt)(ifs:Aa Bt)(gens:Aa Dg)(scope:Eo)(pos:Eu)(it acc:Ac)(env:IZ)(k:Ai)(hg:gens[k]? = Ab ⟨target,iter,ifs,0⟩)(ha:∀ g',gens[k+1]? = Ab g'->g'.is_async=0) :
  Yd (xJ m elt gens scope pos) k it acc env=(do
   Pb iter.pos
   match <- Mi it with
   |none=>pure (.done .next)
   |some v =>
    Jn target it v
    assign target env v
    let mut ok:=true
    for c in ifs do
     if ok then ok <- isTrue c env (eval c env)
    if ok then zF m elt gens scope pos k acc env
    again (.compLoop (xJ m elt gens scope pos) k it acc env)):=by
 cases m <;>
 .unfold Yd zF xJ emX
  simp only[hg];cases q:gens[k+1]? with
  |none=>rfl
  |some g' =>
   have h0:=ha g' q;have e0:(g'.is_async != 0)=false:=by rw[h0];rfl
   simp only[e0,By,Ef,bind_assoc,pure_bind];rfl
abbrev DK:=qC->Sto->Aa D->Res (qC × Aa D)
def goL (o:Am (Ai × MO))(g:DG)(t:DT)(k:DK):Aa D->DK
 |[],env,S,acc=>if iT o S then .ok (env,acc) S else .bad
 |d::ds,env,S,acc=>if iT o S then (g d env S).bind λenv1 S1=>(t env1 S1).bind λb S2 =>
   if b then (k env1 S2 acc).bind λp S3=>goL o g t k ds p.1 S3 p.2 else goL o g t k ds env1 S2 acc
  else .bad
noncomputable def zH (fe:DE):DK:=λenv S acc=>(fe env S).bind λx S1=>if acc.length<lim then .ok (env,acc++[x]) S1 else .bad
def kIn (fi:DI2)(g:DG)(t:DT)(k:DK):DK:=λenv S acc=>(fi env S).bind λp S1=>goL p.1 g t k p.2 env S1 acc
def cR (B:Acc)(Y:Cx)(pins:Aa (Af × Ci))(P1:Hp)(α1:Aa Af)(acc:Af)(env:qC)(S:Sto)(ds:Aa D)(s:Ag):Prop:=
 ∃ σ H P α o,TurnSt B Y pins P1 α1 [] acc env S ds s σ H P α o
def PK (B:Acc)(Y:Cx)(step:Ac->Jw Su)(k:DK):Prop:=
 ∀ (pins:Aa (Af × Ci)) (P1:Hp) (α1:Aa Af) (acc:Af) (env env':qC) (S S':Sto) (ds ds':Aa D) (s:Ag),(∀ H:Hp,H acc=none->x5 Y pins H acc)->cR B Y pins P1 α1 acc env S ds s->k env S ds=.ok (env',ds') S' ->
  Ap (Au Y.prog Y.w) Y.A (step (.ref acc)) (λ_ s'=>cR B Y pins P1 α1 acc env' S' ds' s') (λ_ _=>Fd) s
section
variable {B:Acc}{Y:Cx}{elt tg iter:Bt}{ifs:Aa Bt}{gens:Aa Dg}{scope:Eo}{pos:Eu}{k:Ai}{g:DG}{t:DT}{fe:DE}{it acc:Af}{fp:Aa Af}{J:It}{tn:Ai->Br->Prop}{items:Aa D}{P1:Hp}{α1:Aa Af}{pins:Aa (Af × Ci)}
theorem oZ {X:Cx}{H:Hp}{b:Af}{h:Br}(f:x5 X pins H b)(hn:b ∉ fp):x5 X (pins++yM fp h) H b:=by
 obtain⟨f0,f1,f2,f3,f4,f5⟩:=f;refine⟨f0,f1,f2,f3,f4,λp hp=>?_⟩;rcases Ce.mp hp with z|z
 .exact f5 p (Cj _ z)
 .rcases Ce.mp z with z|z
  .exact f5 p (Bq _ z)
  .rintro rfl
   exact hn (l8 z).1
theorem Res.bind_inv {β γ:Type}{r:Res β}{f:β->Sto->Res γ}{x:γ}(h:r.bind f=.ok x S):∃ b S1,r=.ok b S1/\f b S1=.ok x S:=by
 cases r with
 |ok b S1=>exact⟨b,S1,rfl,h⟩
 |_=>cases h
inductive GoC (o:Am (Ai × MO))(g:DG)(t:DT)(k:DK)(d:D)(ds acc:Aa D)(env:qC)(S SF:Sto)(x:qC × Aa D):Prop
 |no (env1:qC) (S1 S2:Sto) (z:stn o S) (q1:g d env S=.ok env1 S1) (q2:t env1 S1=.ok false S2) (r:goL o g t k ds env1 S2 acc=.ok x SF):GoC o g t k d ds acc env S SF x
 |yes (env1:qC) (S1 S2:Sto) (env5:qC) (ds5:Aa D) (S5:Sto) (z:stn o S) (q1:g d env S=.ok env1 S1) (q2:t env1 S1=.ok true S2) (q3:k env1 S2 acc=.ok (env5,ds5) S5) (r:goL o g t k ds env5 S5 ds5=.ok x SF):GoC o g t k d ds acc env S SF x
set_option tactic.hygienic true in
theorem WE {o:Am (Ai × MO)}{k:DK}{d:D}{acc:Aa D}{x:qC × Aa D}(h:goL o g t k (d::ds) env S acc=.ok x SF):GoC o g t k d ds acc env S SF x:=by
 simp only[goL] at h
 split at h
 .rename_i z
  obtain⟨env1,S1,q1,h⟩:=Res.bind_inv h;obtain⟨b,S2,q2,h⟩:=Res.bind_inv h;cases b with
  |false=>exact .no env1 S1 S2 (w4.mp z) q1 q2 h
  |true =>
   obtain⟨⟨env5,ds5⟩,S5,q3,h⟩:=Res.bind_inv h;exact .yes env1 S1 S2 env5 ds5 S5 (w4.mp z) q1 q2 q3 h
 .cases h
set_option tactic.hygienic true in
theorem JW {o:Am (Ai × MO)}{k:DK}{acc:Aa D}(h:goL o g t k [] env S acc=.ok (envF,dsF) SF):stn o S/\env=envF/\acc=dsF/\S=SF:=by
 simp only[goL] at h
 split at h
 .rename_i z
  cases h;exact⟨w4.mp z,rfl,rfl,rfl⟩
 .cases h
inductive LpI (B:Acc)(Y:Cx)(pins:Aa (Af × Ci))(P1:Hp)(α1:Aa Af)(fp:Aa Af)(acc:Af)(tn:Ai->Br->Prop)(G:Aa D->DK)(items:Aa D)(x:qC × Aa D)(SF:Sto)(n:Ai)(s:Ag):Prop
 |mk (i:Ai) (σ : _L.St) (H P:Hp) (α : Aa Af) (o:Ci) (env:qC) (S:Sto) (ds:Aa D) (hn:n=items.length-i) (hi:i<=items.length) (st:TurnSt B Y pins P1 α1 fp acc env S ds s σ H P α o) (st1:tn i s.heap) (run:G (items.drop i) env S ds=.ok x SF):LpI B Y pins P1 α1 fp acc tn G items x SF n s
theorem BA {m:Ar}{M:Ni}{A:Bv}{Q:Fin->Ag->Prop}{E:Ac->Ag->Prop}{s:Ag}{it acc:Ac}{en:IZ}(hgk:gens[k]? = Ab ⟨tg,iter,ifs,0⟩)(has:∀ g',gens[k+1]? = Ab g'->g'.is_async=0)
  (ha:∀ s,Qa s->Q (.again (.compLoop (xJ m elt gens scope pos) k it acc en)) s) (hd:∀ s,Qd s->Q (.done .next) s)
  (h:Ap M A (Mi it) (λr s1=>(r=none->Qd s1)/\∀ v,r=Ab v->Ap M A (Jn tg it v) (λ_ s2=>Ap M A (assign tg en v) (λ_ s3=>Ap M A (uI ifs en) (λb s4=>(b=false->Qa s4)/\(b=true->Ap M A (zF m elt gens scope pos k acc en) (λ_ s5=>Qa s5) E s4)) E s3) E s2) E s1) E s) :
  Ap M A (Yd (xJ m elt gens scope pos) k it acc en) Q E s:=by
 rw[V4 m elt tg iter ifs gens scope pos it acc en k hgk has];refine Ad (Jm (Ad (thn h λr s1 ⟨h0,h1⟩=>?_)));cases r with
 |none=>exact Al (hd _ (h0 rfl))
 |some v =>
  refine Ad (thn (h1 v rfl) λ_ s2 h2=>Ad (thn h2 λ_ s3 h3=>Ad (thn h3 λb s4 h4=>?_)));cases b with
  |false=>exact Al (ha _ (h4.1 rfl))
  |true=>exact Ad (thn (h4.2 rfl) λ_ s5 h5=>Al (ha _ h5))
theorem JU (hfp:∀ H:Hp,(∀ b∈fp,H b=none)->∀ b∈fp,x5 Y pins H b)(hne:acc ∉ fp)(o:Ci)(H':Hp)(hn:∀ b∈fp,H' b=none):∀ b∈fp,x5 Y (pins++[(acc,o)]) H' b:=λb hb=>by
 obtain⟨f0,f1,f2,f3,f4,f5⟩:=hfp H' hn b hb;refine⟨f0,f1,f2,f3,f4,λp hp=>?_⟩;rcases Ce.mp hp with z|z
 .exact f5 p (Cj _ z)
 .rcases Ce.mp z with z|z
  .exact f5 p (Bq _ z)
  .rw[Cw.mp z]
   rintro rfl;exact hne hb
theorem uT {i:Ai}{h:Br}(T:Turn Y.prog Y.w Y.K tg J fp it tn)(st2:tn (i+1) h)(pl:∀ b∈fp,∃ o,h.get? b=Ab o/\∀ v,o.data≠.cell v){s5:Ag}{σ5:_L.St}{H5:Hp}(I5:Inv Y (pins++yM fp h) σ5 H5 s5):tn (i+1) s5.heap/\(∀ b∈fp,H5 b=none):=by
 refine⟨T.keep _ _ _ st2 λb hb o' e=>(I5.pin (b,o') (Bq _ (Bq _ (vP hb e)))).1,λb hb=>?_⟩;obtain⟨o',e,d'⟩:=pl b hb;exact(I5.pin (b,o') (Bq _ (Bq _ (vP hb e)))).2.1
theorem aG {kk:DK}{E:Ac->Ag->Prop}{s:Ag}{σ:_L.St}{H P:Hp}{o:Ci}{i:Ai}(hc:Y.calm=true)(hx:Y.xe=λ_ _=>Fd)
  (T:Turn Y.prog Y.w Y.K tg J fp it tn) (hit:ItD2 Y.K J P1 α1 o' items) (hg:PG Y tg (tDG Y g)) (ht:PTs Y ifs t) (he:PK B Y (λacc=>zF B.m elt gens scope pos k acc Y.env) kk) (hacc:∀ H:Hp,H acc=none->x5 Y pins H acc) (hfp:∀ H:Hp,(∀ b∈fp,H b=none)->∀ b∈fp,x5 Y pins H b) (hne:acc ∉ fp)
  (hi:i<=items.length) (st:TurnSt B Y pins P1 α1 fp acc env S ds s σ H P α o) (st1:tn i s.heap) (run:goL o' g t kk (items.drop i) env S ds=.ok (envF,dsF) SF)
  (hA:∀ s' σ' H' P' α' o1 env1 S' ds',i<items.length->TurnSt B Y pins P1 α1 fp acc env1 S' ds' s' σ' H' P' α' o1->tn (i+1) s'.heap->goL o' g t kk (items.drop (i+1)) env1 S' ds'=.ok (envF,dsF) SF->Qa s')
  (hD:∀ s' σ' H' P' α' o',TurnSt B Y pins P1 α1 fp acc envF SF dsF s' σ' H' P' α' o'->Qd s') :
  Ap (Au Y.prog Y.w) Y.A (Mi (.ref it)) (λr s1=>(r=none->Qd s1)/\∀ v,r=Ab v->Ap (Au Y.prog Y.w) Y.A (Jn tg (.ref it) v) (λ_ s2=>Ap (Au Y.prog Y.w) Y.A (assign tg Y.env v) (λ_ s3=>Ap (Au Y.prog Y.w) Y.A (uI ifs Y.env) (λb s4=>(b=false->Qa s4)/\(b=true->Ap (Au Y.prog Y.w) Y.A (zF B.m elt gens scope pos k (.ref acc) Y.env) (λ_ s5=>Qa s5) E s4)) E s3) E s2) E s1) E s:=by
 have I1:=_D.Inv.pin1 st.inv (hacc H st.acn) st.at' (B.cell st.acc);have fp1:=JU hfp hne o;by_cases hlt:i<items.length
 .have hdr:items.drop i=items[i]::items.drop (i+1):=Hk hlt
  rw[hdr] at run;have run:=WE run;have hst:stn o' S:=by cases run with|no _ _ _ z=>exact z|yes _ _ _ _ _ _ z=>exact z
  refine j6 (T.item Y rfl rfl rfl hc i _ s σ H (λ_ _=>Fd) I1 (fp1 H st.fpn) st1 (hit.go i H P α S hlt st.rel hst st.same st.pre)) λr s1 ⟨u,hr,h1⟩=>⟨λz=>(by rw[hr] at z;cases z),λv hv=>?_⟩
  obtain rfl:v=u:=Cz (hv.symm.trans hr);refine j6 h1 λ_ s2 ⟨x,H2,I2,rx,y,st2,fr2⟩=>?_;obtain⟨P2,d,hd,r2,e2,rp⟩:=hit.yld i H x H2 P α S hlt st.rel hst st.same st.pre y;cases (An hlt).symm.trans hd;have pl:=T.obj _ _ st2;have I2':=I2.pinned (fp1 _ fr2) pl;have two:∀ env1 S1 b S2,g items[i] env S=.ok env1 S1->t env1 S1=.ok b S2->(∀ s4 σ3 H4 P4 α4 (I4:Inv Y (pins++yM fp s2.heap) σ3 H4 s4),TurnSt B Y pins P1 α1 fp acc env1 S2 ds s4 σ3 H4 P4 α4 o->tn (i+1) s4.heap->(b=false->Qa s4)/\(b=true->Ap (Au Y.prog Y.w) Y.A (zF B.m elt gens scope pos k (.ref acc) Y.env) (λ_ s5=>Qa s5) E s4))->Ap (Au Y.prog Y.w) Y.A (assign tg Y.env v) (λ_ s3=>Ap (Au Y.prog Y.w) Y.A (uI ifs Y.env) (λb s4=>(b=false->Qa s4)/\(b=true->Ap (Au Y.prog Y.w) Y.A (zF B.m elt gens scope pos k (.ref acc) Y.env) (λ_ s5=>Qa s5) E s4)) E s3) E s2:=by
   intro env1 S1 b S2 q1 q2 next;refine j6 (hx▸HU hg I2' r2 (st.env.mono e2 (Bl _)) rx rp q1) λ_ s3 ⟨σ3,H3,P3,α3,I3,r3,re3,e3,e3'⟩=>?_;refine j6 (hx▸RK ht I3 r3 re3 q2) λb' s4 ⟨hb,H4,P4,α4,I4,r4,re4,e4,e4'⟩=>?_;have I4':Inv Y (pins++yM fp s2.heap) σ3 H4 s4:=I4.pins_of λp hp=>I4.pin p (Bq _ ((Ce.mp hp).elim (λz=>Cj _ (Cj _ z)) λz=>Bq _ z));have a4:=I4.pin (acc,o) (Bq _ (Cj _ (Bq _ (Cw.mpr rfl))));rw[hb];exact next s4 σ3 H4 P4 α4 I4' ⟨I4'.unpinned,r4,re4,((st.same.trans e2).trans e3).trans e4,(st.pre.trans e3').trans e4',(uT T st2 pl I4').2,a4.2.1,a4.1,B.mono ((e2.trans e3).trans e4) (e3'.trans e4') st.acc⟩ (uT T st2 pl I4').1
  cases run with
  |no env1 S1 S2 _ q1 q2 run=>exact two env1 S1 false S2 q1 q2 λs4 σ3 H4 P4 α4 I4 st4 tn4=>⟨λ_=>hA s4 σ3 H4 P4 α4 o env1 S2 ds hlt st4 tn4 run,λz=>(by cases z)⟩
  |yes env1 S1 S2 env5 ds5 S5 _ q1 q2 q3 run =>
   refine two env1 S1 true S2 q1 q2 λs4 σ3 H4 P4 α4 I4 st4 tn4=>⟨λz=>(by cases z),λ_=>?_⟩
   refine j6 (he (pins++yM fp s2.heap) P1 α1 acc env1 env5 S2 S5 ds ds5 s4 (λH hn=>oZ (hacc H hn) hne) ⟨σ3,H4,P4,α4,o,I4,st4.rel,st4.env,st4.same,st4.pre,λb hb=>(by cases hb),st4.acn,st4.at',st4.acc⟩ q3) λ_ s5 ⟨σ5,H5,P5,α5,o5,T5⟩=>?_
   exact hA s5 σ5 H5 P5 α5 o5 env5 S5 ds5 hlt ⟨T5.inv.unpinned,T5.rel,T5.env,T5.same,T5.pre,(uT T st2 pl T5.inv).2,T5.acn,T5.at',T5.acc⟩ (uT T st2 pl T5.inv).1 run
 .rw[Mz li] at run
  obtain⟨z,rfl,rfl,rfl⟩:=JW run;refine j6 (T.done Y rfl rfl rfl hc i _ s σ H (λ_ _=>Fd) I1 (fp1 H st.fpn) st1 (hit.stop i H P α _ li st.rel z st.same st.pre)) λr s1 ⟨hr,I2⟩=>⟨λ_=>?_,λv hv=>(by rw[hr] at hv;cases hv)⟩
  have a:=_D.Inv.pinned1 I2;exact hD s1 σ H P α o ⟨I2.unpinned,st.rel,st.env,st.same,st.pre,st.fpn,a.2,a.1,st.acc⟩
theorem WW (P:Be)(w:Bx)(m:Ar)(elt:Bt)(gens:Aa Dg)(scope:Eo)(pos:Eu)(k:Ai)(it acc:Ac)(env:IZ):(Au P w).den (.compLoop (xJ m elt gens scope pos) k it acc env)=(Yd (xJ m elt gens scope pos) k it acc env).onRaise (λx=>do noteFrame x env;theTreesLotGoes x):=by cases m <;> rfl
theorem WX (A:Bv)(m:Ar)(elt:Bt)(gens:Aa Dg)(scope:Eo)(pos:Eu)(k:Ai)(it acc:Ac)(env:IZ):A.under (.compLoop (xJ m elt gens scope pos) k it acc env)=A:=by cases m <;> rfl
theorem f9 {kk:DK}{R:Zd->Ag->Prop}{s:Ag}{σ:_L.St}{H P:Hp}{ds0:Aa D}{o:Ci}(hc:Y.calm=true)(hx:Y.xe=λ_ _=>Fd)(hgk:gens[k]? = Ab ⟨tg,iter,ifs,0⟩)(has:∀ g',gens[k+1]? = Ab g'->g'.is_async=0)
  (T:Turn Y.prog Y.w Y.K tg J fp it tn) (hit:ItD2 Y.K J P1 α1 o' items) (hg:PG Y tg (tDG Y g)) (ht:PTs Y ifs t) (he:PK B Y (λacc=>zF B.m elt gens scope pos k acc Y.env) kk) (hacc:∀ H:Hp,H acc=none->x5 Y pins H acc) (hfp:∀ H:Hp,(∀ b∈fp,H b=none)->∀ b∈fp,x5 Y pins H b) (hne:acc ∉ fp)
  (st:TurnSt B Y pins P1 α1 fp acc env S ds0 s σ H P α o) (st0:tn 0 s.heap) (run:goL o' g t kk items env S ds0=.ok (envF,dsF) SF)
  (hR:∀ s' σ' H' P' α' o',TurnSt B Y pins P1 α1 fp acc envF SF dsF s' σ' H' P' α' o'->R (.ok .next) s') :
  IS (Au Y.prog Y.w) Y.A (.compLoop (xJ B.m elt gens scope pos) k (.ref it) (.ref acc) Y.env) R s:=by
 refine codeAny_loop rfl (LpI B Y pins P1 α1 fp acc tn (goL o' g t kk) items (envF,dsF) SF) (λn s hI=>?_) items.length ⟨0,σ,H,P,α,o,env,S,ds0,rfl,Gj _,st,st0,run⟩;obtain⟨i,σ,H,P,α,o,env,S,ds,hn,hi,st,st1,run⟩:=hI;subst hn;rw[WW,WX];refine wpAny_noted (BA (m:=B.m) hgk has (Qa:=λs'=>∃ m,m<items.length-i/\LpI B Y pins P1 α1 fp acc tn (goL o' g t kk) items (envF,dsF) SF m s') (Qd:=R (.ok .next)) (λ_ h=>⟨rfl,h⟩) (λ_ h=>h) ?_);exact aG hc hx T hit hg ht he hacc hfp hne hi st st1 run (λs' σ' H' P' α' o1 env1 S' ds' hlt st' tn' run'=>⟨_,Nat.sub_succ_lt_self _ _ hlt,i+1,σ',H',P',α',o1,env1,S',ds',rfl,hlt,st',tn',run'⟩) hR
set_option tactic.hygienic true in
theorem GJ (hx:Y.xe=λ_ _=>Fd)(hlast:gens[k+1]? = none)(he:PE Y elt (tD Y fe)):PK accL Y (λacc=>zF false elt gens scope pos k acc Y.env) (zH fe):=by
 intro pins P1 α1 acc env env' S S' ds ds' s hacc ⟨σ,H,P,α,o,st⟩ run;show Ap _ _ (zF false elt gens scope pos k (.ref acc) Y.env) _ _ s;unfold zF;rw[hlast];dsimp only[emX];unfold zH at run;cases q3:fe env S with
 |bad=>rw[q3] at run;cases run
 |ex c z S'=>rw[q3] at run;cases run
 |ok d5 S5 =>
  rw[q3,Res.bind_ok] at run
  split at run
  .rename_i hlen
   cases run;have fA:=hacc H st.acn;have I1:=_D.Inv.pin1 st.inv fA st.at' (accL.cell st.acc);refine Ad (j6 (hx▸N0 he I1 st.rel st.env q3) λu5 s5 ⟨v5,H5,P5,α5,G5⟩=>?_);have J:=_D.Inv.pinned1 G5.inv;have J1:=G5.inv.unpinned;obtain⟨J4,J5⟩:=J;obtain⟨its,n5,vs,ho,rvs,rps,hz⟩:=st.acc;subst ho;have hlen':vs.length=ds.length:=rps.length.symm;have hl2:=rvs.length;refine Ad (call_meets Vc ⟨_,J4,rfl⟩ Ua (Ti _ _) (Wj acc its.toArray n5 u5 (by rw[Bh];rw[<- zV];lia)) ⟨J4,?_⟩)
   have q:=Xd J4 (·.push u5)
   have fA5:=hacc H5 J5;have keep:∀ b o,b≠acc->s5.heap.get? b=Ab o->(s5.heap.update acc (Ew (·.push u5))).get? b=Ab o:=λb o hb e=>(Dk s5.heap _ (Ft hb)).trans e
   have I6:=J1.turned (t':=s5.toks) keep J5 fA5.2.1 fA5.2.2.2.1 fA5.2.2.2.2.1 fA5.2.2.2.2.2;refine Al ⟨σ,H5,P5,α5,_,I6,G5.rel,G5.env,st.same.trans G5.same,st.pre.trans G5.pre,λb hb=>(by simp at hb),J5,q,?_⟩
   refine⟨its++[u5],_,vs++[v5],by simp <;> rfl,rvs.append (.cons G5.val .nil),?_,by simp;lia⟩
   exact(qB.mono G5.same G5.pre _ _ rps).append (.cons G5.rep .nil)
  .cases run
end
theorem gI {prog:Be}{w:Bx}{A:Bv}{R:Zd->Ag->Prop}{s:Ag}{elt:Bt}{gens:Aa Dg}{scope:Eo}{pos:Eu}{k:Ai}{it acc:Ac}{env:IZ}{g:Dg}{m:Ar}(hg:gens[k]? = Ab g)(ha:g.is_async=0)
  (h0:IS (Au prog w) A (.compLoop (xJ m elt gens scope pos) k it acc env) R s)
  (h:Ap (Au prog w) A (Nj it) (λit' s'=>IS (Au prog w) A (.compLoop (xJ m elt gens scope pos) k it' acc env) R s') (notedBy (Au prog w) A env λx s'=>R (.error x) s') s) :
  IS (Au prog w) A (.compStart (xJ m elt gens scope pos) k it acc env) R s:=by
 refine Od ?_;have e1:(Au prog w).den (.compStart (xJ m elt gens scope pos) k it acc env)=(compStart (xJ m elt gens scope pos) k it acc env).onRaise (λx=>do noteFrame x env;Pb theWindowsPlace):=by cases m <;> rfl
 have e2:A.under (.compStart (xJ m elt gens scope pos) k it acc env)=A:=by cases m <;> rfl
 have e3:(Zp (xJ m elt gens scope pos) k it acc env).quiet=true/\∀ it',(Zp (xJ m elt gens scope pos) k it' acc env).quiet=true:=by cases m <;> exact⟨rfl,λ_=>rfl⟩
 rw[e1,e2];refine wpAny_notedAt ?_;have hcl:clausesOf (xJ m elt gens scope pos)=gens:=by cases m <;> rfl
 have e0:(g.is_async != 0)=false:=by rw[ha];rfl
 unfold compStart;simp only[hcl,hg,Option.elim,e0,By,Ef];refine Ad (Il (wpAny_ite ?_))
 split
 .exact Al (And.intro e3.1 h0)
 .refine Ad (Gp ?_)
  exact Ad (Jm (Ad (II h (λit' s' h'=>Al (And.intro (e3.2 _) h')) λ_ _ x=>x)))
section
variable {B:Acc}{Y:Cx}{elt tg iter:Bt}{ifs:Aa Bt}{gens:Aa Dg}{scope:Eo}{pos:Eu}{k:Ai}{g:DG}{t:DT}{fi:DI2}{kk:DK}
theorem oY {X:Cx}{pins pl:Aa (Af × Ci)}{H:Hp}{b:Af}(f:x5 X (pins++pl) H b):x5 X pins H b:=by
 obtain⟨f0,f1,f2,f3,f4,f5⟩:=f;refine⟨f0,f1,f2,f3,f4,λp hp=>f5 p ?_⟩;rcases Ce.mp hp with z|z
 .exact Cj _ z
 .exact Bq _ (Cj _ z)
theorem RI (hc:Y.calm=true)(hx:Y.xe=λ_ _=>Fd)(hgk:gens[k+1]? = Ab ⟨tg,iter,ifs,0⟩)(has:∀ g',gens[k+1+1]? = Ab g'->g'.is_async=0)(hi:PI Y tg iter (tDI2 Y fi))(hg:PG Y tg (tDG Y g))(ht:PTs Y ifs t)
  (he:PK B Y (λacc=>zF B.m elt gens scope pos (k+1) acc Y.env) kk) (hs:∀ x,Dz iter Y.env x=pure x):PK B Y (λacc=>zF B.m elt gens scope pos k acc Y.env) (kIn fi g t kk):=by
 intro pins P1 α1 acc env env' S S' ds ds' s hacc ⟨σ,H,P,α,o,st⟩ run;show Ap _ _ (zF B.m elt gens scope pos k (.ref acc) Y.env) _ _ s;unfold zF;rw[hgk];dsimp only;unfold kIn at run;cases q:fi env S with
 |bad=>rw[q] at run;cases run
 |ex c z S'=>rw[q] at run;cases run
 |ok p S1 =>
  rw[q,Res.bind_ok] at run;have fA:=hacc H st.acn;have I1:=_D.Inv.pin1 st.inv fA st.at' (B.cell st.acc);have key:=hi (pins++[(acc,o)]) s σ H (λJ H1=>∃ P' α',Rel Y.K H1 P' α' S1/\qE P P'/\α<+:α'/\ItD2 Y.K J P' α' p.1 p.2) I1 ⟨P,α,env,S,st.rel,st.env,by rw[q];exact λJ H' P' α' r' e1 e2 it=>⟨P',α',r',e1,e2,it⟩⟩
  rw[hx] at key;refine Ad (j6 key λv s1 h1=>Ad (Jm ?_));rw[hs];refine Ad (Al (Ad (Em (j6 h1 λitv s2 h2=>?_))));obtain⟨it,fp,tn,J,H2,rfl,I2,T,st0,hf,P',α',r2,e1,e2,hit⟩:=h2;have a2:=_D.Inv.pinned1 I2;have hne:acc ∉ fp:=λhm=>(hf acc hm).2.2.2.2.2 (acc,o) (Bq _ (Bq _ (by simp))) rfl
  have loop:IS (Au Y.prog Y.w) Y.A (.compLoop (xJ B.m elt gens scope pos) (k+1) (.ref it) (.ref acc) Y.env) (λr s'=>match r with
    |.ok f=>cR B Y pins P1 α1 acc env' S' ds' s'
    |.error _=>Fd) s2:=by
   refine f9 (pins:=pins) (fp:=fp) (P1:=P') (α1:=α') (σ:=σ) (H:=H2) (P:=P') (α:=α') (o:=o) hc hx hgk has T hit hg ht he hacc (λH hn b hb=>?_) hne
    ⟨I2.unpinned,r2,st.env.mono e1 e2,qE.refl _,Bl _,λb hb=>(hf b hb).1,a2.2,a2.1,B.mono e1 e2 st.acc⟩ st0 run λs' σ' H' Pf αf o' T'=>?_
   .obtain⟨_,g1,g2,g3,g4,g5⟩:=oY (hf b hb)
    exact⟨hn b hb,g1,g2,g3,g4,g5⟩
   .exact⟨σ',H',Pf,αf,o',T'.inv,T'.rel,T'.env,(st.same.trans e1).trans T'.same,(st.pre.trans e2).trans T'.pre,λb hb=>(by simp at hb),T'.acn,T'.at',T'.acc⟩
  refine Ad (wpAny_runOwn (IJ (gI hgk rfl loop (T.self Y.A 0 _ _ _ st0 loop)) λr s' h=>?_));cases r with
  |error x=>exact Aq h
  |ok f=>exact Al h
end
noncomputable def mkM (m:Ar)(r:Res (qC × Aa D)):Res D:=match r with
 |.ok p S2=>if m then .ok (.loc S2.length) (S2++[.lst p.2]) else .ok (.lst p.2) S2
 |_=>.bad
def zB (m:Ar)(cap:Aa (Am Ai))(fi:DI2)(g:DG)(t:DT)(k:DK):DE:=λenv S=>(fi env S).bind λp S1=>mkM m (goL p.1 g t k p.2 (zR cap env) S1 [])
section
variable {X:Cx}{elt tg iter:Bt}{ifs:Aa Bt}{scope:Eo}{pos:Eu}{N':Aa Av}{cap:Aa (Am Ai)}{fi:DI2}{g:DG}{t:DT}{kk:DK}{qJ:Aa Dg}{mm:Ar}
theorem QV {P:Hp}{r:Res (qC × Aa D)}{Ok:D->Sto->Prop}(h:qG X P α (mkM mm r) Ok):∃ envF ds SF,r=.ok (envF,ds) SF/\(if mm then Ok (.loc SF.length) (SF++[.lst ds]) else Ok (.lst ds) SF):=by
 cases r with
 |ok p S =>
  obtain⟨envF,ds⟩:=p;refine⟨envF,ds,S,rfl,?_⟩;cases mm <;> exact h
 |ex c x S=>exact Aq h
 |bad=>exact Aq h
theorem W3 {pins:Aa (Af × Ci)}{σ:_L.St}{P1:Hp}{α1:Aa Af}{acc C:Af}{s:Ag}{Q:VK}(c:j8 X pins σ P1 α1 ds SF acc C s)(ok:if mm then OkV X P1 α1 Q (.loc SF.length) (SF++[.lst ds]) else OkV X P1 α1 Q (.lst ds) SF):EP X pins σ Q (.ref acc) s:=by
 cases mm with
 |false=>exact JM c ok
 |true =>
  obtain⟨H',P',α',vs,I,r,hn,e1,e2,rp,_⟩:=c;exact⟨.ref acc,_,I,rfl,tP r hn rp λv H2 P2 α2 r2 q1 q2 q3=>ok v H2 P2 α2 r2 (e1.trans q1) (e2.trans q2) q3⟩
theorem oV {M:Ni}{A:Bv}{E:Ac->Ag->Prop}{s:Ag}{globals:Af}{closure:Aa (Av × Af)}{qual:Av}{env:IZ}{Q:IZ->Ag->Prop}
  (hQ:Q (newEnv scope s.heap.objs.size globals (Hj (s.heap.objs.size+1) scope.names closure) qual none .none (Ab env) Ol) { s with heap:=Wp (s.heap.push { cls:=.type "dict",data:=.dict #[] }) scope.names }) :
  Ap M A (Sz scope globals closure [] qual none .none (Ab env)) Q E s:=by
 simp only[Sz,Vd,Dx];refine Ad (Xj ?_);refine Ad (wpAny_layCells _ (λname kind cells=>by cases hkc:kind == Np <;> simp[hkc]) _ _ _ _ ?_)
 rw[show ({ s with heap:=s.heap.push { cls:=.type "dict",data:=.dict #[] } } : Ag).heap.objs.size=s.heap.objs.size+1 from Dw ..]
 refine Ad ?_;rw[Ml];exact Al (Al hQ)
theorem uX {B:Acc}{o0:Ci}{pins:Aa (Af × Ci)}{σ:_L.St}{H2 P1:Hp}{α1:Aa Af}{s2:Ag}{S1:Sto}{items:Aa D}{it:Af}{fp:Aa Af}{tn:Ai->Br->Prop}{J:It}{E:Ac->Ag->Prop}{RR:Ac->Af->Zd->Ag->Prop}
  (hc:X.calm=true) (S:CompSc X.env.scope X.N scope N' cap) (has:∀ g',(⟨tg,iter,ifs,0⟩::qJ:Aa Dg)[0+1]? = Ab g'->g'.is_async=0)
  (hg:∀ cl C ex s₀ H₀,PG (qN X N' scope cl C ex s₀ H₀) tg (tDG (qN X N' scope cl C ex s₀ H₀) g))
  (ht:∀ cl C ex s₀ H₀,PTs (qN X N' scope cl C ex s₀ H₀) ifs t) (he:∀ cl C ex s₀ H₀,PK B (qN X N' scope cl C ex s₀ H₀) (λacc=>zF B.m elt (⟨tg,iter,ifs,0⟩::qJ) scope pos 0 acc (qN X N' scope cl C ex s₀ H₀).env) kk)
  (I2:Inv X pins σ H2 s2) (r:Rel X.K H2 P1 α1 S1) (re:qY X.K P1 α1 σ env) (T:Turn X.prog X.w X.K tg J fp it tn) (st0:tn 0 s2.heap) (hf:∀ b∈fp,x5 X pins H2 b) (hit:ItD2 X.K J P1 α1 o' items) (run:goL o' g t kk items (zR cap env) S1 [] = .ok (envF,ds) SF)
  (h0:B.O X.K P1 α1 [] o0) (hg0:o0.isFreed=false) (hRR:∀ acc C s',s2.heap.objs.size<=acc->(∃ m,s'.heap.Ns C m)->s2.heap.objs.size<=C->acc≠C->(∃ cl σ' H' P' α' o',TurnSt B (qN X N' scope cl C fp s2 H2) [] P1 α1 fp acc envF SF ds s' σ' H' P' α' o')->RR (.ref acc) C (.ok .next) s') :
  Ap (Au X.prog X.w) X.A (Sz scope X.env.globals (yJ X.env.cells scope.names []) [] X.env.qual none .none (Ab X.env)) (λcenv s₄ =>
   IS (Au X.prog X.w) X.A (.compStart (xJ B.m elt (⟨tg,iter,ifs,0⟩::qJ) scope pos) 0 (.ref it) (.ref s2.heap.objs.size) { cenv with scope:=relabel scope X.env }) (RR (.ref s2.heap.objs.size) cenv.locals) s₄) E { s2 with heap:=s2.heap.push o0 }:=by
 have hlt:∀ b∈fp,b<s2.heap.objs.size:=λb hb=>by
  obtain⟨o,e,_⟩:=T.obj 0 _ st0 b hb;exact Az e
 refine oV ?_;dsimp only;generalize hH2:s2.heap.push o0=Hh;have hsz:Hh.objs.size=s2.heap.objs.size+1:=by rw[<- hH2,Dw]
 have hC:s2.heap.objs.size<=Hh.objs.size:=by rw[hsz];exact OM _
 have hne:s2.heap.objs.size≠Hh.objs.size:=by rw[hsz];exact Cq (Ik _)
 have kp:∀ b o,Hh.get? b=Ab o->(Wp (Hh.push { cls:=.type "dict",data:=.dict #[] }) scope.names).get? b=Ab o:=λb o e=>Ye _ _ b o (Ah _ e);have hns₁:(Wp (Hh.push { cls:=.type "dict",data:=.dict #[] }) scope.names).Ns Hh.objs.size (λ_=>none):=(Heap.Ns.new Hh (.type "dict")).keeps (Ye _ _);have co:=cellsFrom_ok scope.names (Hh.push { cls:=.type "dict",data:=.dict #[] }) (Hh.objs.size+1) [] ⟨λ_ _ hm=>(nomatch hm),Mp⟩ (by rw[Dw];exact As _)
 rw[Dw] at co;generalize hh₁:Wp (Hh.push { cls:=.type "dict",data:=.dict #[] }) scope.names=h₁ at kp hns₁ co ⊢;have keep:∀ b o,s2.heap.get? b=Ab o->h₁.get? b=Ab o:=λb o e=>kp b o (hH2▸Ah _ e);have hacc:h₁.get? s2.heap.objs.size=Ab o0:=kp _ _ (hH2▸Ba _ hg0);have I4:∀ tk,Inv (qN X N' scope (jR X scope Hh.objs.size) Hh.objs.size fp s2 H2) [] (yO cap σ) H2 { s2 with heap:=h₁,toks:=tk }:=λtk =>
  XF (s4:={ s2 with heap:=h₁,toks:=tk }) S I2 hf hlt hC hns₁ rfl rfl keep co
 have loop:∀ tk,IS (Au X.prog X.w) X.A (.compLoop (xJ B.m elt (⟨tg,iter,ifs,0⟩::qJ) scope pos) 0 (.ref it) (.ref s2.heap.objs.size) (compEnvC scope (jR X scope Hh.objs.size) Hh.objs.size X.env)) (RR (.ref s2.heap.objs.size) Hh.objs.size) { s2 with heap:=h₁,toks:=tk }:=λtk=>by
  refine f9 (B:=B) (kk:=kk) (o':=o') (Y:=qN X N' scope (jR X scope Hh.objs.size) Hh.objs.size fp s2 H2) (pins:=[]) (fp:=fp) (acc:=s2.heap.objs.size) (P1:=P1) (α1:=α1) (σ:=yO cap σ) (H:=H2) (P:=P1) (α:=α1) (o:=o0) hc rfl rfl has T hit
   (hg _ _ _ _ _) (ht _ _ _ _ _) (he _ _ _ _ _) (λH hn=>?_) (λH hn b hb=>?_) (λhm=>Ek _ (hlt _ hm)) ⟨I4 tk,r,ZM re cap,qE.refl _,Bl _,λb hb=>(hf b hb).1,I2.hok.fresh (As _),hacc,h0⟩ (T.keep _ _ _ st0 λb hb o e=>keep b o e) run λs' σ' H' P' α' o' st=>?_
  .refine⟨hn,hne,λhm=>?_,.inr (As _),λx c h z=>?_,λp hp=>absurd (show p∈([]:Aa (Af × Ci)) from hp) (by simp)⟩
   .obtain⟨_,o,ho,_⟩:=I2.stack.mem hm
    exact Ek _ (Az ho)
   .rcases xD S I2.ok h with⟨m,_⟩|⟨m,_⟩
    .exact Ek _ (Lx hC (z▸(co.empty x c m).2))
    .obtain⟨v,ob,hob,_⟩:=I2.cell x c m
     rw[z] at hob;exact Ek _ (Az hob)
  .obtain⟨_,h1,h2,h3,h4,h5⟩:=hf b hb
   refine⟨hn b hb,Cq (Bc (hlt b hb) hC),λhm=>?_,.inl hb,λx c h=>(by
    rcases xD S I2.ok h with⟨m,_⟩|⟨m,_⟩
    .exact Ft (Cq (Ia (Bc (hlt b hb) hC) (co.empty x c m).2))
    .exact h4 x c m),λp hp=>absurd (show p∈([]:Aa (Af × Ci)) from hp) (by simp)⟩
   rcases Ax.mp (I2.stkSub b hm) with z|z
   .exact h1 z
   .exact h2 z
  .obtain⟨m,hm,_⟩:=st.inv.loc
   exact hRR _ _ s' (As _) ⟨m,hm⟩ hC hne ⟨_,_,_,_,_,_,st⟩
 exact gI (k:=0) rfl rfl (loop _) (T.self X.A 0 _ _ _ (T.keep _ _ _ st0 λb hb o e=>keep b o e) (loop _))
theorem XO (hc:X.calm=true)(S:CompSc X.env.scope X.N scope N' cap)(hi:PI X tg iter (tDI2 X fi))
  (hg:∀ cl C ex s₀ H₀,PG (qN X N' scope cl C ex s₀ H₀) tg (tDG (qN X N' scope cl C ex s₀ H₀) g))
  (ht:∀ cl C ex s₀ H₀,PTs (qN X N' scope cl C ex s₀ H₀) ifs t) (has:∀ g',(⟨tg,iter,ifs,0⟩::qJ:Aa Dg)[0+1]? = Ab g'->g'.is_async=0) (he:∀ cl C ex s₀ H₀,PK accL (qN X N' scope cl C ex s₀ H₀) (λacc=>zF false elt (⟨tg,iter,ifs,0⟩::qJ) scope pos 0 acc (qN X N' scope cl C ex s₀ H₀).env) kk)
  (hs:∀ x,Dz iter X.env x=pure x:=by intro _;rfl):PE X (.ListComp elt (⟨tg,iter,ifs,0⟩::qJ) scope pos) (tD X (zB mm cap fi g t kk)):=by
 intro pins s σ H Q I h;obtain⟨P,α,env,S0,r,re,af⟩:=h;rw[eval_ListComp];have af':qG X P α ((fi env S0).bind λp S1=>mkM mm (goL p.1 g t kk p.2 (zR cap env) S1 [])) (OkV X P α Q):=af;refine Ls (use:=none) rfl hs (mL S I.ok) S.kind S.names ?_;refine thn (hi pins s σ H (λJ H1=>∃ (P1:Hp) (α1:Aa Af) (p:Am (Ai × MO) × Aa _D.D) (S1:Sto),Rel X.K H1 P1 α1 S1/\qE P P1/\α<+:α1/\ItD2 X.K J P1 α1 p.1 p.2/\qG X P α (mkM mm (goL p.1 g t kk p.2 (zR cap env) S1 [])) (OkV X P α Q)) I ⟨P,α,env,S0,r,re,?_⟩) λxv s1 h1=>thn h1 λitv s2 h2=>?_
 .cases q:fi env S0 with
  |bad=>rw[q] at af';exact af'
  |ex c x S'=>rw[q] at af';exact af'
  |ok p S1=>rw[q] at af';exact λJ H1 P1 α1 r1 e1 e2 it=>⟨P1,α1,p,S1,r1,e1,e2,it,af'⟩
 obtain⟨it,fp,tn,J,H2,rfl,I2,T,st0,hf,P1,α1,p,S1,r1,e1,e2,hit,af1⟩:=h2;obtain⟨envF,ds,SF,run,ok⟩:=QV af1;refine Dp (uX (B:=accL) (o0:={ cls:=.type "list",dict:=none,data:=.seq ([] : Aa Ac).toArray }) (RR:=λacc C=>compPost (Au X.prog X.w) X.A X.xe none (EP X pins σ Q) acc C) hc S has hg ht he I2 r1 (re.mono e1 e2) T st0 hf hit run ⟨[],0,[],rfl,.nil,.nil,Gj _⟩ rfl ?_);intro acc C s' hA ⟨m,hm⟩ hC hne ⟨cl,σf,Hf,Pf,αf,of,stf⟩;have fin:∀ h',Ep C s'.heap h'->j8 X pins σ P1 α1 ds SF acc C { s' with heap:=h' }:=λh' sb=>dH I2 hf rfl hC hA hne stf sb
 refine⟨m,hm,λh' sb=>W3 (mm:=mm) (fin h' sb) ?_⟩;cases mm with
 |false=>exact λv H3 P3 α3 r3 q1 q2 q3=>ok v H3 P3 α3 r3 (e1.trans q1) (e2.trans q2) q3
 |true=>exact λv H3 P3 α3 r3 q1 q2 q3=>ok v H3 P3 α3 r3 (e1.trans q1) (e2.trans q2) q3
theorem XY {i:Ai}{y:Av}{py spos:Eu}(hc:X.calm=true)(hN:X.N.Nodup)(S:CompSc X.env.scope X.N scope N' cap)(hi:PI X tg iter (tDI2 X fi))
  (hg:∀ cl C ex s₀ H₀,PG (qN X N' scope cl C ex s₀ H₀) tg (tDG (qN X N' scope cl C ex s₀ H₀) g))
  (ht:∀ cl C ex s₀ H₀,PTs (qN X N' scope cl C ex s₀ H₀) ifs t) (has:∀ g',(⟨tg,iter,ifs,0⟩::qJ:Aa Dg)[0+1]? = Ab g'->g'.is_async=0) (he:∀ cl C ex s₀ H₀,PK accL (qN X N' scope cl C ex s₀ H₀) (λacc=>zF false elt (⟨tg,iter,ifs,0⟩::qJ) scope pos 0 acc (qN X N' scope cl C ex s₀ H₀).env) kk)
  (hy:X.N[i]? = Ab y:=by rfl) (hyl:Loc X.env.scope y:=by first|exact Xe rfl|exact Ut rfl) (hf:X.fn y=true\/X.env.scope.names.lookup y=Ab .local:=by first|exact .inl rfl|exact .inr rfl|assumption)
  (hsw:Mq (.ListComp elt (⟨tg,iter,ifs,0⟩::qJ) scope pos) (Ab (.Name y py)) spos.line X.env=pure true:=by rfl)
  (hs:∀ x,Dz iter X.env x=pure x:=by intro _;rfl):PS X (.Assign [.Name y py] (.ListComp elt (⟨tg,iter,ifs,0⟩::qJ) scope pos) spos) (tDS X (zZ (zB mm cap fi g t kk) (gNm i))):=by
 intro pins s σ H D I h;obtain⟨P,α,env,S0,r,re,af⟩:=h;have af0:=xH af;have af':qG X P α ((fi env S0).bind λp S1=>mkM mm (goL p.1 g t kk p.2 (zR cap env) S1 [])) (λd S=>qV X P α (.nx (env.set i (Ab d)) S) D):=af0;rw[exec_Assign_Name_used _ _ _ _ hsw];refine Ad (Jm (Ad ?_));show Ap _ X.A (do let _ <- comprehension (.ListComp elt (⟨tg,iter,ifs,0⟩::qJ) scope pos) scope X.env _ (newList []) false (eval iter X.env) (Ab (assign (.Name y py) X.env))) _ _ s
 refine Ad (II (Ls (use:=Ab (assign (.Name y py) X.env)) (Q:=λ_ s'=>SP X pins D .next s') rfl hs (mL S I.ok) S.kind S.names ?_) (λ_ s' hq=>Al (Al hq)) λ_ _ e=>e);refine thn (hi pins s σ H (λJ H1=>∃ (P1:Hp) (α1:Aa Af) (p:Am (Ai × MO) × Aa _D.D) (S1:Sto),Rel X.K H1 P1 α1 S1/\qE P P1/\α<+:α1/\ItD2 X.K J P1 α1 p.1 p.2/\qG X P α (mkM mm (goL p.1 g t kk p.2 (zR cap env) S1 [])) (λd S=>qV X P α (.nx (env.set i (Ab d)) S) D)) I ⟨P,α,env,S0,r,re,?_⟩) λxv s1 h1=>thn h1 λitv s2 h2=>?_
 .cases q:fi env S0 with
  |bad=>rw[q] at af';exact af'
  |ex c x S'=>rw[q] at af';exact af'
  |ok p S1=>rw[q] at af';exact λJ H1 P1 α1 r1 e1 e2 it=>⟨P1,α1,p,S1,r1,e1,e2,it,af'⟩
 obtain⟨it,fp,tn,J,H2,rfl,I2,T,st0,hfp,P1,α1,p,S1,r1,e1,e2,hit,af1⟩:=h2;obtain⟨envF,ds,SF,run,ok⟩:=QV af1;refine Dp (uX (B:=accL) (o0:={ cls:=.type "list",dict:=none,data:=.seq ([] : Aa Ac).toArray }) (RR:=λacc C=>compPost (Au X.prog X.w) X.A X.xe (Ab (assign (.Name y py) X.env)) (λ_ s'=>SP X pins D .next s') acc C) hc S has hg ht he I2 r1 (re.mono e1 e2) T st0 hfp hit run ⟨[],0,[],rfl,.nil,.nil,Gj _⟩ rfl ?_);intro acc C s' hA ⟨m,hm⟩ hC hne ⟨cl,σf,Hf,Pf,αf,of,stf⟩;have fin:∀ h',Ep C s'.heap h'->j8 X pins σ P1 α1 ds SF acc C { s' with heap:=h' }:=λh' sb=>dH I2 hfp rfl hC hA hne stf sb
 show Ap _ X.A (assign (.Name y py) X.env (.ref acc)) _ _ s';obtain⟨H3,P3,α3,vs,I3,r3,hn3,q1,q2,rp,hCn⟩:=fin s'.heap (Pd _ _);obtain⟨r4,e4⟩:=r3.pure (o:=.lst vs) hn3;have hCn':(upd H3 acc (.lst vs)) C=none:=by rw[qO (Ft hne)];exact hCn
 have fC:=I2.fpOk hC hCn';refine Wc (lF I3 hN hy hyl (show qF (V.ref acc) (Dm acc) from rfl) (λs5 I5 ⟨a,sb,ha⟩=>?_) hf)
 have hCa:C≠a:=by
  rcases ha with rfl|ha
  .exact fC.2.1
  .exact λz=>fC.2.2.2.2.1 _ _ ha z.symm
 refine⟨m,hm.sameBut sb hCa,λh' sb'=>?_⟩;have I6:Inv X pins (σ.set i (Ab (V.ref acc))) (upd H3 acc (.lst vs)) { s5 with heap:=h' }:=I5.turned (t':=s5.toks) (λb o hb e=>(sb'.2 b hb).trans e) hCn' fC.2.1 fC.2.2.2.1 fC.2.2.2.2.1 fC.2.2.2.2.2
 cases mm with
 |false =>
  refine⟨_,_,I6,ok _ _ (upd P3 acc (.lst vs)) α3 r4 ?_ ((e1.trans q1).trans e4) (e2.trans q2)⟩;exact((re.mono e1 e2).mono (q1.trans e4) q2).set i (tW (.inl (.inl qX)) (qB.mono e4 (Bl _) _ _ rp))
 |true =>
  have hpre:α3<+:α3++[acc]:=Lw _ _;have r5:=r3.new (o:=.lst vs) (m:=.lst ds) hn3 ⟨vs,qX,qB.mono (qE.refl _) hpre _ _ rp⟩;refine⟨_,_,I6,ok _ _ P3 (α3++[acc]) r5 ?_ (e1.trans q1) ((e2.trans q2).trans hpre)⟩;refine((re.mono e1 e2).mono q1 (q2.trans hpre)).set i ?_;simp only[Rep];exact⟨acc,rfl,by rw[<- r3.len];simp⟩
end
section
variable {prog:Be}{w:Bx}{A:Bv}{E:Ac->Ag->Prop}{s:Ag}
theorem oU {e it l:Af}{i:Ai}{x old:Ac}(he:Sf s.heap e it i old)(hit:zC tp s.heap it l i)(hl:xN tp s.heap l xs)(hx:xs[i]? = Ab x)(ne:e≠it)
  (hQ:∀ g,Zq g e it ((i:Ak)+1) x s.heap.objs.size->zC tp g it l (i+1)->IH g s.heap.objs.size (.int i s.toks) x->g.objs.size=s.heap.objs.size+1->(∀ b o,b≠e->b≠it->s.heap.get? b=Ab o->g.get? b=Ab o)->Q (.ref s.heap.objs.size) { s with heap:=g,toks:=s.toks+1 }) :
  Ap (Au prog w) A (Ig.«enumerate.__next__» ⟨[.ref e],[]⟩) (λfin s'=>∃ v,fin=.done (.ret v)/\Q v s') E s:=by
 obtain⟨hp,gn,dr,tk,os⟩:=s;show Ap _ _ (field (.ref e) 2 >>= _) _ _ _;refine Ad (DL he rfl (x:=.ref it) rfl (Ad (kG hit hl hx λg1 i1 s1=>?_)))
 replace s1:Ep it hp g1:=s1
 have e1:Sf g1 e it i old:=(s1.2 e ne).trans he;show Ap _ _ (field (.ref e) 3 >>= _) _ _ ⟨g1,gn,dr,tk,os⟩;refine Ad (DL e1 rfl (x:=Nk i) rfl ?_);show Ap _ _ (field (.ref e) 4 >>= _) _ _ ⟨g1,gn,dr,tk,os⟩;refine Ad (DL e1 rfl (x:=.none) rfl ?_);show Ap _ _ (mkInt i >>= _) _ _ ⟨g1,gn,dr,tk,os⟩;refine Ad (wpAny_mkInt ?_);show Ap _ _ (setField (.ref e) 3 (Nk ((i:Ak)+1)) >>= _) _ _ ⟨g1,gn,dr,tk+1,os⟩;refine Ad (Ey e1 (by simp) λg2 e2 s2=>?_)
 replace s2:Ep e g1 g2:=s2
 replace e2:Sf g2 e it ((i:Ak)+1) old:=e2
 show Ap _ _ (setField (.ref e) 4 .none >>= _) _ _ ⟨g2,gn,dr,tk+1,os⟩;refine Ad (Ey e2 (by simp) λg3 e3 s3=>?_)
 replace s3:Ep e g2 g3:=s3
 replace e3:Sf g3 e it ((i:Ak)+1) old:=e3
 show Ap _ _ (newTuple [.int i tk,x] >>= _) _ _ ⟨g3,gn,dr,tk+1,os⟩;refine Ad (Sw ?_);have e4:Sf (g3.push { cls:=.type "tuple",data:=.seq #[.int i tk,x] }) e it ((i:Ak)+1) old:=Ah _ e3;generalize q4:g3.push { cls:=.type "tuple",data:=.seq #[.int i tk,x] } = g4 at e4;have sz:g3.objs.size=hp.objs.size:=by rw[s3.1,s2.1,s1.1]
 have el:e<hp.objs.size:=Az he;have t4:IH g4 hp.objs.size (.int i tk) x:=by rw[<- q4,<- sz];exact Ba _ rfl
 have z4:g4.objs.size=hp.objs.size+1:=by rw[<- q4,Dw,sz]
 have k4:∀ b o,b≠e->b≠it->hp.get? b=Ab o->g4.get? b=Ab o:=λb o b1 b2 q=>by
  rw[<- q4];exact Ah _ (s3.extBut b o b1 (s2.extBut b o b1 (s1.extBut b o b2 q)))
 have i4:zC tp g4 it l (i+1):=i1.keep λo q=>by rw[<- q4];exact Ah _ (s3.extBut _ o ne.symm (s2.extBut _ o ne.symm q))
 show Ap _ _ (En (.ref e) >>= _) _ _ ⟨g4,gn,dr,tk+1,os⟩;rw[sz];refine Ad ?_;unfold En;refine Ad (DL e4 rfl (x:=.none) rfl (Al ?_));simp only[Dx];refine Ad (Gp (Ad (DL e4 rfl (x:=old) rfl (Ad (Ey e4 (by simp) λg5 e5 s5=>?_)))))
 replace s5:Ep e g4 g5:=s5
 replace e5:Sf g5 e it ((i:Ak)+1) x:=e5
 show Ap _ _ (Gk (.ref e) (.ref hp.objs.size) >>= _) _ _ ⟨g5,gn,dr,tk+1,os⟩;refine Ad ?_;unfold Gk;refine Ad (Ey e5 (by simp) λg6 e6 s6=>?_)
 replace s6:Ep e g5 g6:=s6
 replace e6:Zq g6 e it ((i:Ak)+1) x hp.objs.size:=e6
 refine Ey e6 (by simp) λg7 e7 s7=>?_
 replace s7:Ep e g6 g7:=s7
 replace e7:Zq g7 e it ((i:Ak)+1) x hp.objs.size:=e7
 have up:∀ b o,b≠e->g4.get? b=Ab o->g7.get? b=Ab o:=λb o b1 q=>s7.extBut b o b1 (s6.extBut b o b1 (s5.extBut b o b1 q));exact Ad (Se (Al ⟨_,rfl,hQ g7 e7 (i4.keep λo q=>up _ o ne.symm q) (up _ _ (Fw el) t4) (by rw[s7.1,s6.1,s5.1,z4]) λb o b1 b2 q=>up b o b1 (k4 b o b1 b2 q)⟩))
set_option maxHeartbeats 4000000 in
set_option tactic.hygienic true in
theorem W5 (tp:Ar)(l:Af)(xs:Ay Ac) :
  Meets (Ig.«enumerate.__new__» ⟨[.type "enumerate",.ref l],[]⟩) (λ_ R s=>(∃ n dct sl,s.heap.get? l=Ab { cls:=.type (if tp then "tuple" else "list"),dict:=dct,data:=.seq xs n,slots:=sl }) /\ R (.ok (.ret (.ref (s.heap.push (v3 tp l)).objs.size))) { s with heap:=(s.heap.push (v3 tp l)).push { cls:=.type "enumerate",data:=.fields #[.none,.bool false,.ref s.heap.objs.size,Nk 0,.none,.none] } }):=
 .of_wp λprog w A R s h=>by
  obtain⟨hp,gn,dr,tk,os⟩:=s;obtain⟨⟨n,dct,sl,hl⟩,h⟩:=h;have hsub:=sub_enumerate;cases tp
  .have L1:Xg (Nr ⟨hp,gn,dr,tk,os⟩) l xs:=⟨_,hl,rfl,n,rfl⟩
   wp_walk using Gm hl
   refine Yf λst=>Al ?_
   split
   .rename_i c _ _ _ _ _
    cases (c == Ic "enumerate") <;> (wp_walk using Gm hl,Gd L1;exact⟨_,rfl,h⟩)
   .wp_walk using Gm hl,Gd L1;exact⟨_,rfl,h⟩
  .have L1:Vu (Nr ⟨hp,gn,dr,tk,os⟩) l xs:=⟨_,hl,rfl,n,rfl⟩
   wp_walk using Gm hl
   refine Yf λst=>Al ?_
   split
   .rename_i c _ _ _ _ _
    cases (c == Ic "enumerate") <;> (wp_walk using Gm hl,Gn L1;exact⟨_,rfl,h⟩)
   .wp_walk using Gm hl,Gn L1;exact⟨_,rfl,h⟩
theorem oD {tp:Ar}{l:Af}{xs:Ay Ac}{Q:Ac->Ag->Prop}(hl:∃ n dct sl,s.heap.get? l=Ab { cls:=.type (if tp then "tuple" else "list"),dict:=dct,data:=.seq xs n,slots:=sl })
  (h:∀ g,Sf g (s.heap.objs.size+1) s.heap.objs.size 0 .none->zC tp g s.heap.objs.size l 0->(∀ b o,s.heap.get? b=Ab o->g.get? b=Ab o)->Q (.ref (s.heap.objs.size+1)) { s with heap:=g }) :
  Ap (Au prog w) A (call (.type "enumerate") [.ref l]) Q E s:=by
 refine callType_new F.called_enumerate (by decide) (F.typeCall_enumerate_1 _) (F.newCall_enumerate_1 _) (λobj=>F.args_object_init_2 obj _) F.entry_enumerate_new (W5 tp l xs) ⟨hl,?_⟩
 have hz:(s.heap.push (v3 tp l)).objs.size=s.heap.objs.size+1:=Dw ..;show _/\_;have he:((s.heap.push (v3 tp l)).push { cls:=.type "enumerate",data:=.fields #[.none,.bool false,.ref s.heap.objs.size,Nk 0,.none,.none] }).get? (s.heap.push (v3 tp l)).objs.size=Ab _:=Ba _ rfl;rw[hz] at he ⊢;exact⟨⟨_,he,rfl⟩,h _ he (k8 (Ah _ (Ba _ rfl))) λb o x=>Ah _ (Ah _ x)⟩
end
noncomputable def Ite (tp:Ar)(K:Aj)(a:Af):It:=
  ⟨λi H=>∃ xs x,Sq tp K H a xs/\xs[i]? = Ab x,
   λi H v H'=>∃ T x,v=.ref T/\H T=none/\H'=upd H T (.tup [.int i,x])/\∀ xs,Sq tp K H a xs->xs[i]? = Ab x,
   λi H=>∃ xs,Sq tp K H a xs/\xs.length<=i⟩
def o4 (tp:Ar)(e it l:Af)(k:Ai)(h:Br):Prop:=∃ old,Sf h e it k old/\zC tp h it l k
theorem ZT {P:Be}{w:Bx}{K:Aj}{elts:Aa Bt}{x1:Ai}{tpos:Eu}{e it a:Af}(ne:e≠it):Turn P w K (.Tuple elts x1 tpos) (Ite tp K a) [e,it] e (o4 tp e it a) where
 mem:=by simp
 obj:=λk h st c hc=>by
  obtain⟨old,s1,s2⟩:=st;simp only[Ax,Eh,IM] at hc;rcases hc with rfl|rfl
  .exact⟨_,s1,λv y=>by cases y⟩
  .exact s2.there
 keep:=λk h h' st kp=>by
  obtain⟨old,s1,s2⟩:=st;exact⟨old,kp e (by simp) _ s1,s2.keep λo q=>kp it (by simp) o q⟩
 item:=by
  intro X hP hw hK hc k pins s σ H E Iv hf st hg;subst hP hw hK;obtain⟨old,s1,s2⟩:=st;obtain⟨xs,x,qa,hx⟩:=hg;obtain⟨ia,ra,ha⟩:=qa.at Iv;obtain⟨u,hu,ru⟩:=ra.get hx;have hT:s.TypeIs (.ref e) "enumerate":=⟨_,s1,rfl⟩;unfold Mi;refine Ad (Jr (Dy (name:=Hg "__next__") hT Jz (Ea Jz hT Rm
   (oU s1 s2 ha (by simpa using hu) ne λh' a1 a2 a3 a4 a5=>Al ?_) (Qu _))))
  refine⟨_,rfl,wpAny_letOwnedTupleGo_enum (s:={ s with heap:=h',toks:=s.toks+1 }) a1 λh2 b1 b2=>?_⟩
  have up:∀ c o,c≠e->h'.get? c=Ab o->h2.get? c=Ab o:=λc o n q=>(b2.2 c n).trans q;have el:e<s.heap.objs.size:=Az s1;have T2:IH h2 s.heap.objs.size (.int k s.toks) u:=up _ _ (Fw el) a3;have st2:o4 tp e it a (k+1) h2:=⟨u,b1,a2.keep λo q=>up _ o ne.symm q⟩;refine⟨.ref s.heap.objs.size,upd H s.heap.objs.size (.tup [.int k,x]),?_,rfl,⟨_,x,rfl,Iv.hok.fresh (As _),rfl,λzs qz=>by rw[qz.inj Iv qa];exact hx⟩,st2,λc hc=>?_⟩
  .have:=Inv.turnLay (fp:=[e,it]) (its:=[.int k s.toks,u]) (h':=h2) (xs:=[.int k,x]) Iv hf (λc o hc q=>by
    simp only[Ax,Eh,IM,Uu] at hc;exact up c o hc.1 (a5 c o hc.1 hc.2 q)) (λc hc=>by
    obtain⟨old',t1,t2⟩:=st2;simp only[Ax,Eh,IM] at hc;rcases hc with rfl|rfl
    .exact⟨_,t1⟩
    .obtain⟨o,q,_⟩:=t2.there;exact⟨o,q⟩) (As _) (.cons ⟨_,rfl⟩ (.cons ru .nil)) ⟨_,T2,rfl,_,rfl⟩ (by show 2<=sizeLine;decide)
   exact this.tok (s.toks+1)
  .have hn:=(hf c hc).1
   rw[qO ?_]
   .exact hn
   .rintro rfl
    obtain⟨o,q,_⟩:∃ o,s.heap.get? s.heap.objs.size=Ab o/\Ng:=by
     simp only[Ax,Eh,IM] at hc;rcases hc with z|z
     .exact⟨_,z▸s1,trivial⟩
     .obtain⟨o,e',_⟩:=s2.there;exact⟨o,z▸e',trivial⟩
    exact absurd (Az q) (Ek _)
 done:=by
  intro X hP hw hK hc k pins s σ H E Iv hf st hg;subst hP hw hK;obtain⟨old,s1,s2⟩:=st;obtain⟨xs,qa,hend⟩:=hg;obtain⟨ia,ra,ha⟩:=qa.at Iv;have hT:s.TypeIs (.ref e) "enumerate":=⟨_,s1,rfl⟩;have l1:=ra.length;unfold Mi;refine Ad (Jr (Dy (name:=Hg "__next__") hT Jz (Ea Jz hT Rm ?_ (Qu _))));show Ap _ _ (field (.ref e) 2 >>= _) _ _ _;refine Ad (DL s1 rfl (x:=.ref it) rfl (Ad (uC (Iv.ok.hd hc) s2 ha (by simp;omega) λh' x kp hx'=>?_)))
  obtain⟨o,ho,hcl⟩:=hx';refine Ad (Nt (T:="StopIteration") (b:=true) ⟨o,ho,hcl⟩ Sy (Al ⟨rfl,Inv.turnL (fp:=[e,it]) Iv hf λc o hc q=>?_⟩));simp only[Ax,Eh,IM,Uu] at hc;exact kp c o hc.2 q
 self:=λ_ _ _ _ _ st h=>by
  obtain⟨old,s1,_⟩:=st;exact Wq s1 h
noncomputable def y7 (xs:Aa D):Aa D:=xs.mapIdx λi x=>D.tup [.int i,x]
noncomputable def VN (ds:Aa D):Am (Aa D):=match ds with
 |[.tup xs]=>Ab (y7 xs)
 |[.lst xs]=>Ab (y7 xs)
 |_=>none
noncomputable def pD (f:DA):DI:=λenv S=>(f env S).bind λds S1=>yV (VN ds) S1
theorem oT (xs:Aa D)(i:Ai):(y7 xs)[i]? = (xs[i]?).map λx=>D.tup [.int i,x]:=by
 unfold y7;rw[List.getElem?_mapIdx]
theorem gO (xs:Aa D):(y7 xs).length=xs.length:=by simp[y7]
theorem WN {K:Aj}{P:Hp}{a:Af}{xs:Aa D}(qa:Sq tp K P a vs)(ta:qB K P α xs vs):ItD K (Ite tp K a) P α (y7 xs) where
 go:=λi H P1 α1 S hi r e _=>by
  rw[gO] at hi;have h1:i<vs.length:=by rw[<- ta.length];omega
  exact⟨vs,vs[i],qa.mono (e.trans r.sub),by simp⟩
 yld:=λi H x H' P1 α1 S hi r e e2 y=>by
  obtain⟨T,u,rfl,hT,rfl,hu⟩:=y;rw[gO] at hi;obtain⟨v1,z1,p1⟩:=ta.get (An hi);have eu:=hu vs (qa.mono (e.trans r.sub));rw[z1] at eu;cases eu;obtain⟨r1,s1⟩:=r.pure (o:=.tup [.int i,u]) hT;refine⟨_,.tup [.int i,xs[i]],?_,r1,s1,?_⟩
  .rw[oT,An hi];rfl
  .exact pP (.of qX) (.cons (by simp only[Rep]) (.cons (Rep.mono (e.trans s1) e2 _ _ p1) .nil))
 stop:=λi H P1 α1 S hi r e _=>by
  rw[gO] at hi;have l1:=ta.length;exact⟨vs,qa.mono (e.trans r.sub),by omega⟩
section
variable {X:Cx}{e1:Bt}{elts:Aa Bt}{x1:Ai}{tpos:Eu}{f:DA}{p pos:Eu}
theorem Sq.obj {pins:Aa (Af × Ci)}{σ:_L.St}{H:Hp}{s:Ag}{a:Af}{xs:Aa V}(I:Inv X pins σ H s)(q:Sq tp X.K H a xs):∃ its:Aa Ac,qI xs its/\∃ n dct sl,s.heap.get? a=Ab { cls:=.type (if tp then "tuple" else "list"),dict:=dct,data:=.seq its.toArray n,slots:=sl }:=by
 obtain⟨its,rv,h⟩:=q.at I;refine⟨its,rv,?_⟩;cases tp with
 |true =>
  obtain⟨o,ho,hc,n,hd⟩:=h;obtain⟨c,d,dt,sl⟩:=o;dsimp only at hc hd;subst hc;subst hd;exact⟨n,_,_,ho⟩
 |false =>
  obtain⟨o,ho,hc,n,hd⟩:=h;obtain⟨c,d,dt,sl⟩:=o;dsimp only at hc hd;subst hc;subst hd;exact⟨n,_,_,ho⟩
theorem eE {pins:Aa (Af × Ci)}{σ:_L.St}{H P:Hp}{s:Ag}{a:Af}{xs:Aa D}(I:Inv X pins σ H s)(r:Rel X.K H P α S)(qa:Sq tp X.K P a vs)(ta:qB X.K P α xs vs)
  (q:OkI X P α R (y7 xs) S):Ap (Au X.prog X.w) X.A (call (.type "enumerate") [.ref a]) (λv s1=>Ap (Au X.prog X.w) X.A (Nj v) (PIE X pins σ (.Tuple elts x1 tpos) R) X.xe s1) X.xe s:=by
 obtain⟨ia,ra,ha⟩:=Sq.obj I (qa.mono r.sub);refine oD (tp:=tp) ha λh' z1 z2 z7=>?_;refine Wq (s:={ s with heap:=h' }) z1 ?_
 refine⟨_,[s.heap.objs.size+1,s.heap.objs.size],_,_,H,rfl,I.kept (t':=s.toks) z7,ZT (tp:=tp) (a:=a) (by intro z;simp at z),⟨_,z1,z2⟩,λc hc=>?_,q _ _ P α r (qE.refl _) (Bl _) (WN qa ta)⟩
 have hl:s.heap.objs.size<=c:=by
  simp only[Ax,Eh,IM] at hc;rcases hc with rfl|rfl <;> simp
 exact I.fpOk hl (I.hok.fresh hl)
theorem mK:Fm "enumerate" = Ab (.type "enumerate"):=by decide +kernel
theorem W4 (h:VN ds=Ab its):∃ d xs,ds=[d]/\ItV d xs/\its=y7 xs:=by
 cases ds with
 |nil=>exact nn h
 |cons d ds =>
  cases ds with
  |cons _ _=>cases d <;> exact nn h
  |nil =>
   cases d with
   |tup xs=>exact⟨_,xs,rfl,.tup rfl,(Cz h).symm⟩
   |lst xs=>exact⟨_,xs,rfl,.lst rfl,(Cz h).symm⟩
   |_=>exact nn h
theorem JA (hg:Gl X "enumerate")(hm:X.mg "enumerate" = none)(ha:PA X [e1] (tDA X f))(hs:Bm [e1] X.env=(false,eval e1 X.env)::Bm [] X.env:=by rfl)(hpl:(Gi pos (Bm [] X.env)).any (·.1)=false:=by rfl) :
  PI X (.Tuple elts x1 tpos) (.Call (.Name "enumerate" p) [e1] [] pos) (tDI X (pD f)):=by
 intro pins s σ H R I h;obtain⟨P,α,env,S,r,re,af⟩:=h;refine Call_ (wI I hg hm mK (Fu (thn (wY ha I r re af pos) λus s1 ⟨vs,H1,P1,α1,ds,S1,I1,rv,r1,re1,rp,e1,e2,af1⟩=>?_) hs hpl));obtain⟨its,hi,q⟩:=yW af1;obtain⟨d,xs,rfl,hd,rfl⟩:=W4 hi;obtain⟨v,u,rfl,rfl,p1,q1⟩:=uR rp rv;cases hd with
 |tup ed =>
  subst ed;simp only[Rep] at p1;obtain⟨a,va,rfl,qa,ta⟩:=p1;cases (show u=Dm a from q1)
  exact eE (tp:=true) I1 r1 qa ta (q.base e1 e2)
 |lst ed =>
  subst ed;simp only[Rep] at p1;obtain⟨a,va,rfl,qa,ta⟩:=p1;cases (show u=Dm a from q1)
  exact eE (tp:=false) I1 r1 qa.l ta (q.base e1 e2)
end
section
variable {X:Cx}
noncomputable def w9:D->Aa D->Sto->Res D:=λa ds S=>match a,ds with
 |.loc n,[i,x]=>match S[n]? with
  |some (.dct kvs)=>match yU i with
   |some k=>match wC kvs k with
    |some d=>.ok d S
    |none=>if kvs.length<lim then .ok x (S.set n (.dct (yC kvs k x))) else .bad
   |none=>.bad
  |_=>.bad
 |_,_=>.bad
theorem pU (a b c:Ac):Xk "dict.setdefault" ⟨[a,b,c],[]⟩:=by unfold Xk;kernel_rfl
inductive SdV (a:D)(ds:Aa D)(S:Sto):Prop
 |bad (e:w9 a ds S=.bad)
 |of (n:Ai) (i x:D) (kvs:Aa (Key × D)) (k:Key) (ea:a=.loc n) (ed:ds=[i,x]) (hS:S[n]? = Ab (.dct kvs)) (hk:yU i=Ab k) (e:w9 a ds S=(match wC kvs k with|some d=>.ok d S|none=>if kvs.length<lim then .ok x (S.set n (.dct (yC kvs k x))) else .bad))
theorem sdV (a:D)(ds:Aa D)(S:Sto):SdV a ds S:=by
 cases a with
 |loc n =>
  cases ds with
  |nil=>exact .bad rfl
  |cons i ds =>
   cases ds with
   |nil=>exact .bad rfl
   |cons x ds =>
    cases ds with
    |cons _ _=>exact .bad rfl
    |nil =>
     have z:w9 (.loc n) [i,x] S=(match S[n]? with|some (.dct kvs)=>(match yU i with|some k=>(match wC kvs k with|some d=>.ok d S|none=>if kvs.length<lim then .ok x (S.set n (.dct (yC kvs k x))) else .bad)|none=>.bad)|_=>.bad):=rfl
     cases hS:S[n]? with
     |none=>rw[hS] at z;exact .bad z
     |some m =>
      rw[hS] at z;cases m with
      |dct kvs =>
       cases hk:yU i with
       |none=>rw[hk] at z;exact .bad z
       |some k=>rw[hk] at z;exact .of n i x kvs k rfl rfl hS hk z
      |_=>exact .bad z
 |_=>exact .bad rfl
theorem QU:MtD X "dict.setdefault" w9:=by
 intro pins σ H s P α S v vv vs us a ds Q I r rv p rvs rps af;cases sdV a ds S with
 |bad e=>rw[e] at af;exact Aq af
 |of n i x kvs k ea ed hS hk e =>
  rw[e] at af;subst ea ed;clear e;obtain⟨vi,vx,ui,ux,rfl,rfl,pi,px,qi,qx⟩:=lX rps rvs;simp only[Rep] at p;obtain⟨b,rfl,q⟩:=p;obtain⟨ws,z,t⟩:=r.at' n b _ q hS;cases Q7 hk pi;cases (show vv=Dm b from rv)
  obtain⟨hz,hd,us',rel,dd⟩:=lP I.hok z;have hz':us'.length<=sizeLine:=by rw[<- rel.length];exact hz
  obtain⟨k1,k2⟩:=eX (k:=k) t;have er:=rel.val k;refine Vv Op dd.typeIs PySem.F.entry_dict_setdefault (pU _ _ _) (kt_meets_setdefault (zD X.prog X.w) b (fR qi) hd ux) ⟨us',dd,hz',λv' hv'=>?_,λhn h' dd' hs=>?_⟩
  .cases hv:wC kvs k with
   |none =>
    rw[k2 hv,hv'] at er;exact Aq er
   |some d =>
    obtain⟨w',e1,e2⟩:=k1 d hv;rw[hv] at af;rw[e1,hv'] at er;exact⟨w',H,I.tok _,er,xr af r e2⟩
  .cases hv:wC kvs k with
   |some d =>
    obtain⟨w',e1,e2⟩:=k1 d hv;rw[e1,hn] at er;exact Aq er
   |none =>
    rw[hv] at af;obtain⟨hl,af⟩:=vA (X:=X) af;have hl':(yD ws k vx).length<=sizeLine:=by
     have:=uZ ws k vx;have e3:=eV t;rw[<- zV];lia
    have he:∃ q,h'.get? b=Ab q:=let ⟨q,_,_,hq,_⟩:=dd';⟨q,hq⟩
    have I':=mP (t':=s.toks+1) I (by rw[z];exact Ie) hs he (oQ hl' hd (rel.put k qx) dd')
    exact⟨vx,_,I',qx,af _ _ P α (r.put (m':=.dct (yC kvs k x)) q hS (by intro z;cases z) ⟨_,qX,eW px t⟩) (qE.refl _) (Bl _) px⟩
noncomputable def zP:Aa D->Am (Aa Ak)
 |[]=>Ab []
 |.int i::r=>(zP r).map (i::·)
 |_::_=>none
theorem xP (ns:Aa Ak):zP (ns.map D.int)=Ab ns:=by
 induction ns with
 |nil=>rfl
 |cons n r ih=>exact congrArg (Option.map (n::·)) ih
theorem yA:∀ {ds:Aa D} {ns:Aa Ak},zP ds=Ab ns->ds=ns.map D.int
 |[],ns,h=>by cases h;rfl
 |d::r,ns,h=>by
  cases d with
  |int i =>
   obtain⟨m,h1,rfl⟩:=Ha.mp (show (zP r).map (i::·)=Ab ns from h)
   rw[yA h1];rfl
  |_=>exact nn h
theorem wH {K:Aj}{P:Hp}:∀ {ns:Aa Ak} {vs:Aa V},qB K P α (ns.map D.int) vs->vs=ns.map V.int
 |[],vs,r=>by rw[r.nil_inv];rfl
 |n::ns,vs,r=>by
  obtain⟨w,ws,rfl,p,t⟩:=r.cons_inv;simp only[Rep] at p;rw[p,wH t];rfl
noncomputable def mY:G2:=λa b S=>match a,b with
 |.tup xs,.tup ys=>match zP xs,zP ys with
  |some ns,Ab ms=>.ok (.bl (_H.lexLt ns ms)) S
  |_,_=>.bad
 |_,_=>gLt a b S
end
section
variable {X:Cx}
theorem rC {pins:Aa (Af × Ci)}{σ:_L.St}{H P:Hp}{s:Ag}{xs:Aa D}{v:V}{vv:Ac}{ns:Aa Ak}(I:Inv X pins σ H s)(r:Rel X.K H P α S)(rv:qF v vv)(p:Rep X.K P α (.tup xs) v)(h:zP xs=Ab ns) :
  ∃ a its,vv=.ref a/\Oy s.heap a (List.toArray its)/\IT its ns:=by
 have:=yA h;subst this;obtain⟨a,vs,its,rfl,q1,t1,rv1,h1,l1,_⟩:=yP I r p;have:=wH t1;subst this;exact⟨a,its,rv,h1,by simpa using vN rv1⟩
set_option tactic.hygienic true in
theorem TH (hu:X.A.units<Eg):OpD X (Co .Lt) mY:=by
 intro pins σ H s P α S v u vv uu a b Q I r rv ru pa pb af;unfold mY at af
 split at af
 .rename_i xs ys
  split at af
  .rename_i ns ms h1 h2
   obtain⟨a,its,rfl,t1,i1⟩:=rC I r rv pa h1;obtain⟨b,its2,rfl,t2,i2⟩:=rC I r ru pb h2;exact _H.lt_tupInts t1 t2 (by simpa using i1) (by simpa using i2) hu ⟨.bl _,H,I,rfl,xr af r (by simp only[Rep])⟩
  .exact Aq af
 .exact U5 pins σ H s P α S v u vv uu a b Q I r rv ru pa pb af
end
end _D
namespace _D
open PySem PySem.Spec PyProof.Rows _L PySem.SeqAt
section
variable {X:Cx}{pins:Aa (Af × Ci)}{σ : _L.St}{H P:Hp}{α : Aa Af}{S:Sto}{s:Ag}
inductive Same2 (X:Cx)(P:Hp)(α : Aa Af)(d d':D):Prop
 |eq (h:d=d')
 |tt (xs ys:Aa D) (its:Aa Ac) (ed:d=.tup xs) (ed':d'=.tup ys) (q:Seqs X P α xs ys its its)
 |ll (xs ys:Aa D) (its:Aa Ac) (ed:d=.lst xs) (ed':d'=.lst ys) (q:Seqs X P α xs ys its its)
theorem UF {d d':D}{u:Ac}(k1:Kd X P α s d u)(k2:Kd X P α s d' u):Same2 X P α d d':=by
 cases k1 with
 |non=>cases k2;exact .eq rfl
 |bl b=>cases k2;exact .eq rfl
 |int i t=>cases k2;exact .eq rfl
 |str x t=>cases k2;exact .eq rfl
 |tup a xs its vs rp rv h q =>
  cases k2 with
  |tup _ ys its2 ws rp2 rv2 h2 q2 =>
   cases t9 h h2;exact .tt xs ys its rfl rfl ⟨vs,ws,rp,rv,rp2,rv2⟩
  |lst _ ys its2 ws rp2 rv2 h2 q2=>exact(aY h h2).elim
 |lst a xs its vs rp rv h q =>
  cases k2 with
  |lst _ ys its2 ws rp2 rv2 h2 q2 =>
   cases eP h h2;exact .ll xs ys its rfl rfl ⟨vs,ws,rp,rv,rp2,rv2⟩
  |tup _ ys its2 ws rp2 rv2 h2 q2=>exact(aY h2 h).elim
theorem nU (I:Inv X pins σ H s)(r:Rel X.K H P α S){m:Ai}(ih:∀ (d d' e:D) (u:Ac),pl m d=true->pl m d'=true->Kd X P α s d u->Kd X P α s d' u->eqD d e=eqD d' e){xs ys zs:Aa D}{its:Aa Ac}(h1:xs.all (pl m)=true)(h2:ys.all (pl m)=true)(q:Seqs X P α xs ys its its):zX xs zs=zX ys zs:=by
 obtain⟨vs,ws,rp,rv,rp2,rv2⟩:=q;have l1:=rp.length.trans rv.length;have l2:=rp2.length.trans rv2.length;rw[wG,wG,l1,l2]
 congr 1
 have key:∀ j∈Dd (min its.length zs.length),eqD (xs.getD j .non) (zs.getD j .non)=eqD (ys.getD j .non) (zs.getD j .non):=λj hj=>by
  have hj':=Dt.mp hj;have hj:j<its.toArray.size:=by rw[Bh];lia
  obtain⟨w1,y1,z1,m1⟩:=xY rp rv hj;obtain⟨w2,y2,z2,m2⟩:=xY rp2 rv2 hj;exact ih _ _ _ _ (xT h1 m1) (xT h2 m2) (y8 I r (xT h1 m1) y1 z1) (y8 I r (xT h2 m2) y2 z2)
 rw[Lh,Ca,Ca];exact⟨λh j hj=>(key j hj)▸h j hj,λh j hj=>(key j hj).symm▸h j hj⟩
theorem JN (I:Inv X pins σ H s)(r:Rel X.K H P α S):∀ (n:Ai) (d d' e:D) (u:Ac),pl n d=true->pl n d'=true->Kd X P α s d u->Kd X P α s d' u->eqD d e=eqD d' e:=by
 intro n
 induction n with
 |zero =>
  intro d d' e u h1 h2 k1 k2;cases UF k1 k2 with
  |eq h=>rw[h]
  |tt _ _ _ ed=>subst ed;exact Ee h1
  |ll _ _ _ ed=>subst ed;exact Ee h1
 |succ m ih =>
  intro d d' e u h1 h2 k1 k2;cases UF k1 k2 with
  |eq h=>rw[h]
  |tt xs ys its ed ed' q =>
   subst ed ed';cases e with
   |tup zs=>exact nU I r ih h1 h2 q
   |_=>rfl
  |ll xs ys its ed ed' q =>
   subst ed ed';cases e with
   |lst zs=>exact nU I r ih h1 h2 q
   |_=>rfl
open Classical in
def eOf (X:Cx)(P:Hp)(α : Aa Af)(s:Ag)(xs:Aa D)(d:D)(y:Ac):Ar:=if h:∃ z,z∈xs/\Kd X P α s z y then eqD (Kr h) d else false
theorem oR (I:Inv X pins σ H s)(r:Rel X.K H P α S){n:Ai}{xs:Aa D}{vs:Aa V}{its:Aa Ac}{d:D}(h:xs.all (pl n)=true)(rp:qB X.K P α xs vs)(rv:qI vs its){j:Ai}(hj:j<its.length):∃ z,z∈xs/\Kd X P α s z its[j]/\eOf X P α s xs d its[j]=eqD z d/\eqD z d=eqD (xs.getD j .non) d:=by
 obtain⟨w,y,z,m⟩:=xY rp rv (j:=j) (by rw[Bh];exact hj)
 have k:=y8 I r (xT h m) y z;have ex:∃ z,z∈xs/\Kd X P α s z its[j]:=⟨_,m,k⟩;have hs:=Jy ex;refine⟨Kr ex,hs.1,hs.2,?_,JN I r n _ _ d _ (xT h hs.1) (xT h m) hs.2 k⟩;unfold eOf;rw[dif_pos ex]
theorem JL (I:Inv X pins σ H s)(r:Rel X.K H P α S){n:Ai}{xs:Aa D}{vs:Aa V}{its:Aa Ac}{d:D}(h:xs.all (pl n)=true)(rp:qB X.K P α xs vs)(rv:qI vs its):its.map (eOf X P α s xs d)=xs.map λx=>eqD x d:=by
 have l:=rp.length.trans rv.length;refine Ks (by rw[Ao,Ao,l]) λj h1 h2=>?_
 rw[Ao] at h1 h2;rw[Xl,Xl];obtain⟨z,_,_,e1,e2⟩:=oR (d:=d) I r h rp rv h1;rw[e1,e2];simp[HT,h2]
theorem oS (I:Inv X pins σ H s)(r:Rel X.K H P α S){n:Ai}{A:Bv}{xs:Aa D}{vs:Aa V}{its:Aa Ac}{d:D}{v:V}{u:Ac}(hu:A.units+n<Eg)(h:xs.all (pl n)=true)(hd:pl n d=true)(rp:qB X.K P α xs vs)(rv:qI vs its)(p:Rep X.K P α d v)(q:qF v u):∀ y,y∈its.toArray->Ys A s y u (eOf X P α s xs d y):=λy hy=>by
 obtain⟨j,hj,rfl⟩:=Cn.mp (show y∈its by simpa using hy)
 obtain⟨z,hz,k,e1,_⟩:=oR (d:=d) I r h rp rv hj;rw[e1];exact(dQ I r n A z d _ u hu (xT h hz) hd k (y8 I r hd p q)).eq
noncomputable def inI (a b:D):Am Ar:=match xB b with
 |some xs=>if xs.all (pl zU)&&pl zU a then Ab (xs.any λx=>eqD x a) else none
 |none=>none
noncomputable def gIn:G2:=λa b S=>match inI a b with
 |some k=>.ok (.bl k) S
 |none=>.bad
noncomputable def v9:G2:=λa b S=>match inI a b with
 |some k=>.ok (.bl (!k)) S
 |none=>.bad
theorem WJ {a b:D}{k:Ar}(h:inI a b=Ab k):∃ xs,ItV b xs/\xs.all (pl zU)=true/\pl zU a=true/\k=xs.any λx=>eqD x a:=by
 unfold inI at h;cases e:xB b with
 |none=>rw[e] at h;exact nn h
 |some xs =>
  rw[e] at h;obtain⟨c,rfl⟩:=uB h;have c':=Fy.mp c;exact⟨xs,itV e,c'.1,c'.2,rfl⟩
theorem SL (hu:X.A.units+64<Eg)(I:Inv X pins σ H s)(r:Rel X.K H P α S){a b:D}{v u:V}{vv uu:Ac}{k:Ar}(rv:qF v vv)(ru:qF u uu)(pa:Rep X.K P α a v)(pb:Rep X.K P α b u)(h:inI a b=Ab k) :
  (∀ {Q:Ac->Ag->Prop} {E:Ac->Ag->Prop},Q (.bool k) s->Ap (Au X.prog X.w) X.A (Co .In vv uu) Q E s)/\∀ {Q:Ac->Ag->Prop} {E:Ac->Ag->Prop},Q (.bool (!k)) s->Ap (Au X.prog X.w) X.A (Co .NotIn vv uu) Q E s:=by
 obtain⟨xs,hb,h1,h2,rfl⟩:=WJ h;have hu':X.A.in1.units+zU<Eg:=by show X.A.units+1+zU<Eg;unfold zU;lia
 have any:∀ {vs:Aa V} {its:Aa Ac},qB X.K P α xs vs->qI vs its->its.toArray.any (eOf X P α s xs a)=xs.any λx=>eqD x a:=λrp rvi=>by
  rw[<- Array.any_toList];have e:=congrArg (λl=>l.any id) (JL (d:=a) I r h1 rp rvi);rw[Qt,Qt] at e;exact e
 cases hb with
 |tup ed =>
  subst ed;obtain⟨l,ws,its,rfl,sq,t,rvi,ht,_,_⟩:=yP I r pb;cases (show uu=Dm l from ru)
  have he:=oS I r hu' h1 h2 t rvi pa rv;exact⟨λq=>in_tupleAt (eOf X P α s xs a) ht he (by rw[any t rvi];exact q),λq=>notIn_tupleAt (eOf X P α s xs a) ht he (by rw[any t rvi];exact q)⟩
 |lst ed =>
  subst ed;obtain⟨l,ws,its,n,rfl,sq,t,rvi,ht,_,_⟩:=jH I r pb;cases (show uu=Dm l from ru)
  have hL:s.heap.IsList l its.toArray:=⟨_,ht,rfl,n,rfl⟩;have he:=oS I r hu' h1 h2 t rvi pa rv;exact⟨λq=>in_listAt (eOf X P α s xs a) hL he (by rw[any t rvi];exact q),λq=>notIn_listAt (eOf X P α s xs a) hL he (by rw[any t rvi];exact q)⟩
theorem Y4 (hu:X.A.units+64<Eg):OpD X (Co .NotIn) v9:=by
 intro pins σ H s P α S v u vv uu a b Q I r rv ru pa pb af;have af1:qG X P α (match inI a b with|some k=>Res.ok (D.bl (!k)) S|none=>.bad) (OkV X P α Q):=af
 clear af;cases e:inI a b with
 |none=>rw[e] at af1;exact Aq af1
 |some k =>
  rw[e] at af1;exact(SL hu I r rv ru pa pb e).2 ⟨.bl _,H,I,rfl,xr af1 r (by simp only[Rep])⟩
end
end _D
namespace _D
open PySem PySem.Spec PyProof.Rows _L
section
variable {K:Aj}{H P:Hp}{α : Aa Af}{S:Sto}
theorem Rel.still {a:Af}{n:Ai}{m:MO}{o:HO}(r:Rel K H P α S)(ha:α[n]? = Ab a)(hs:S[n]? = Ab m)(hd:m≠.dead):Rel K (upd H a o) (upd P a o) α (S.set n .dead)/\qE P (upd P a o):=by
 have hP:=r.sep n a m ha hs hd;have sP:qE P (upd P a o):=kR hP;have r1:=r.put (o:=o) (m':=.dead) ha hs hd trivial;have hn:n<S.length:=(Bw.mp hs).1;refine⟨⟨r1.tb.keep (λ_ _ q _=>q) λb u q _ p n=>⟨(qO λ(z:b=a)=>n (by rw[z];exact Cu ha)).trans p,n⟩,λb u e=>?_,r1.len,r1.nd,λi b u q1 q2 q3=>?_,λi b u q1 q2=>(r1.at' i b u q1 q2).mono sP (Bl _),r1.own⟩,sP⟩
 .by_cases hb:b=a
  .subst hb;rw[qX] at e ⊢;exact e
  .rw[qO hb] at e ⊢;exact r.sub _ _ e
 .have hb:b≠a:=by
   rintro rfl;have:=l7 r.nd q1 ha;subst this;rw[Ev hn] at q2;cases q2;exact q3 rfl
  rw[qO hb];exact r1.sep i b u q1 q2 q3
end
noncomputable def Itv (a:Af)(o:Ci)(vs:Aa V):It:=
 ⟨λi H=>(∃ u,H a=Ab (.frz o u))/\i<vs.length,λi H x H'=>H'=H/\vs[i]? = Ab x,λi H=>(∃ u,H a=Ab (.frz o u))/\vs.length<=i⟩
theorem ZU {P:Be}{w:Bx}{K:Aj}{tg:Bt}{a it:Af}{o:Ci}{vs:Aa (Key × V)}{us:Aa (Key × Ac)}{ep:Ai}(kv:KV vs us)(at':∀ h:Br,h.get? a=Ab o->h.DictAt (zD P w) a us ep) :
  Turn P w K tg (Itv a o (vs.map (·.2))) [it] it (λi h=>h.IsValIter it a i us.length ep) where
 mem:=by simp
 obj:=λi h st b hb=>by
  have e:b=it:=by simpa using hb
  subst e;obtain⟨o,e,c,d⟩:=st;exact⟨o,e,λv z=>by rw[d] at z;cases z⟩
 keep:=λi h h' st k=>st.at λo e=>k it (by simp) o e
 item:=by
  intro X hP hw hK hc i pins s σ H E I hf st hg;subst hP hw hK;obtain⟨⟨u0,hu⟩,hlt⟩:=hg;have ho:s.heap.get? a=Ab o:=(I.hok a _ hu).1;have hlt':i<vs.length:=by simpa using hlt
  have get:∀ {vs:Aa (Key × V)} {us:Aa (Key × Ac)},KV vs us->∀ {i:Ai} (h:i<vs.length),∃ k u,us[i]? = Ab (k,u)/\qF (vs[i]).2 u:=by
   intro vs us kv
   induction kv with
   |nil=>intro i h;simp at h
   |cons z t ih =>
    intro i h;cases i with
    |zero=>exact⟨_,_,rfl,z.2⟩
    |succ i =>
     obtain⟨k,u,e1,e2⟩:=ih (i:=i) (by simpa using h)
     exact⟨k,u,by simpa using e1,by simpa using e2⟩
  obtain⟨k,u,e1,e2⟩:=get kv hlt';obtain⟨f0,f1,f2,f3,f4,f5⟩:=hf it (by simp)
  refine wpAny_pyNext_values_item st (at' _ ho) e1 λh' st' sb=>?_;have I1:Inv X pins σ H { s with heap:=h' }:=I.turned (t':=s.toks) (λb o hb e=>(sb.2 b hb).trans e) f0 f1 f3 f4 f5
  obtain⟨oi,ei,c,d⟩:=id st';exact⟨u,rfl,lR (s:={ s with heap:=h' }) ei c d (by decide) ⟨(vs[i]).2,H,I1,e2,⟨rfl,by simp[hlt']⟩,st',λb hb=>(hf b hb).1⟩⟩
 done:=by
  intro X hP hw hK hc i pins s σ H E I hf st hg;subst hP hw hK;obtain⟨⟨u0,hu⟩,hle⟩:=hg;have ho:s.heap.get? a=Ab o:=(I.hok a _ hu).1;obtain⟨f0,f1,f2,f3,f4,f5⟩:=hf it (by simp)
  have hl:=kv.length;have hle':us.length<=i:=by rw[<- hl];simpa using hle
  exact wpAny_pyNext_values_end (I.ok.hd hc) st (at' _ ho) (by simp;omega) λh' eb=>⟨rfl,I.turned (t':=s.toks) (λb o hb e=>eb b o hb e) f0 f1 f3 f4 f5⟩
 self:=λ_ _ _ _ _ st h=>wpAny_pyIter_valiter st h
noncomputable def fG (f:DE):DI:=λenv S=>(f env S).bind λd S1=>match d with
 |.loc n=>match S1[n]? with
  |some (.dct kvs)=>.ok (kvs.map (·.2)) (S1.set n .dead)
  |_=>.bad
 |_=>.bad
theorem tG {K:Aj}{P:Hp}{α:Aa Af}:∀ {kvs:Aa (Key × D)} {vs:Aa (Key × V)},KVs K P α kvs vs->qB K P α (kvs.map (·.2)) (vs.map (·.2))
 |_,_,.nil=>.nil
 |_,_,.cons z t=>.cons z.2 (tG t)
theorem WQ {K:Aj}{P:Hp}{α:Aa Af}{a:Af}{o:Ci}{u:HO}{ds:Aa D}{vs:Aa V}(q:P a=Ab (.frz o u))(t:qB K P α ds vs):ItD K (Itv a o vs) P α ds where
 go:=λi H P1 α1 S hi r e _=>⟨⟨u,r.sub _ _ (e _ _ q)⟩,by rw[<- t.length];exact hi⟩
 yld:=λi H x H' P1 α1 S hi r e e2 y=>by
  obtain⟨rfl,hx⟩:=y;obtain⟨v,h1,h2⟩:=t.get (An hi);rw[hx] at h1;cases h1;exact⟨P1,_,An hi,r,qE.refl _,Rep.mono e e2 _ _ h2⟩
 stop:=λi H P1 α1 S hi r e _=>⟨⟨u,r.sub _ _ (e _ _ q)⟩,by rw[<- t.length];exact hi⟩
section
variable {X:Cx}{tg o:Bt}{fo:DE}{apos cpos:Eu}
theorem rF {S:Sto}{n:Ai}{kvs:Aa (Key × D)}(h:S[n]? = Ab (.dct kvs)):tyD (.loc n) S=Ab "dict":=by
 show (match S[n]? with|some (.lst _)=>Ab "list" | some (.dct _)=>Ab "dict" | _=>none)=_
 rw[h]
set_option tactic.hygienic true in
theorem JC (ho:PE X o (tD X fo))(hbase:Kx o "values" X.env (eval o X.env)=eval o X.env:=by rfl)(hline:(apos.endLine == cpos.line)=true:=by rfl):PI X tg (.Call (.Attribute o "values" apos) [] [] cpos) (tDI X (fG fo)):=by
 intro pins s σ H R I h;obtain⟨P,α,env,S,r,re,af⟩:=h;refine Qv hbase hline (thn (zL ho I r re af) λvv s1 ⟨v,H1,P1,α1,d,S1,G1,af1⟩=>?_);cases d with
 |loc n =>
  simp only at af1
  split at af1
  .rename_i kvs hS
   have rp:=G1.rep;have I1:=G1.inv;have r1:=G1.rel;have ht:tyD (.loc n) S1=Ab "dict":=rF hS;obtain⟨h1,h2⟩:=rD I1 G1.val (rE r1 rp ht (by simp))
   simp only[Rep] at rp;obtain⟨a,rfl,ha⟩:=rp;cases (show vv=Dm a from G1.val)
   obtain⟨vs,z,t⟩:=r1.at' n a _ ha hS;obtain⟨hz,hd,us,rel,dd⟩:=lP I1.hok z;refine⟨"dict","dict.values",Jh,Pu,PySem.F.type_dict_values,h1,h2,Nb rfl (Ud ?_)⟩;refine Vv Pu dd.typeIs PySem.F.entry_dict_values (PySem.F.args_dict_values_1 _) (meets_dict_values (zD X.prog X.w) a hd) ⟨⟨us,dd⟩,?_⟩;obtain⟨ep,oa,es,hoa,qJ⟩:=dd.dictAt;have at':∀ h:Br,h.get? a=Ab oa->h.DictAt (zD X.prog X.w) a us ep:=λh e=>⟨oa,es,e,qJ⟩;have hne:s1.heap.objs.size≠a:=Fw (Az hoa);obtain⟨r2,e2⟩:=r1.still (o:=.frz oa (.dK vs)) ha hS (by intro q;cases q)
   have I2:Inv X pins σ (upd H1 a (.frz oa (.dK vs))) { s1 with heap:=s1.heap,toks:=s1.toks }:=I1.write (x:=a) (e:=a) (by rw[z];exact Ie) (.inl rfl) (λb q hb e=>e) ⟨oa,hoa⟩ ⟨hoa,hz,hd,us,rel,dd⟩
   have I3:=I2.kept (t':=s1.toks) (h':=s1.heap.push { cls:=.type "dict_values",data:=.fields #[.ref a] }) λb u e=>Ah _ e;refine wpAny_pyIter_values (s:={ s1 with heap:=s1.heap.push { cls:=.type "dict_values",data:=.fields #[.ref a] } }) (knd:=zD X.prog X.w) (d:=a) (kvs:=us) (ep:=ep) ⟨_,Ba _ rfl,rfl,rfl⟩ (at' _ (Ah _ hoa)) ?_
   have I4:=I3.kept (t':=s1.toks) (h':=(s1.heap.push { cls:=.type "dict_values",data:=.fields #[.ref a] }).push { cls:=.type "dict_valueiterator",data:=.fields #[.ref a,.int 0 0,.int us.length 0,.int ep 0] }) λb u e=>Ah _ e;refine⟨_,[_],_,_,_,rfl,I4,ZU rel at',⟨_,Ba _ rfl,rfl,rfl⟩,λb hb=>?_,af1 _ _ _ α1 r2 (G1.same.trans e2) G1.pre (WQ (u:=.dK vs) qX (qB.mono e2 (Bl _) _ _ (tG t)))⟩;have e:b=(s1.heap.push { cls:=.type "dict_values",data:=.fields #[.ref a] }).objs.size:=by simpa using hb
   subst e;exact I3.fpOk (As _) (I3.hok.fresh (As _))
  .exact Aq af1
 |_=>exact Aq af1
end
section
variable {X:Cx}
noncomputable def bJ (ns:Aa Ak):Ai:=(ns.foldl Yt []).length
theorem gC (ns:Aa Ak):firstMet (λi=>ns.getD i 0) ns.length=ns.foldl Yt []:=by
 unfold firstMet
 congr 1
 apply Pe;intro i;rw[Du];by_cases h:i<ns.length
 .simp[h]
 .simp[h]
theorem d9:Fm "set" = Ab (.type "set"):=by decide +kernel
variable {e:Bt}{fa:DE}{p1 p2 pos1 pos2:Eu}
end
structure QI2 (X:Cx)(tg it:Bt)(f:DI2):Prop where
 get:PI X tg it (tDI2 X f)
structure QK (B:Acc)(Y:Cx)(step:Ac->Jw Su)(k:DK):Prop where
 get:PK B Y step k
section
variable {B:Acc}{X Y:Cx}{tg it e o elt iter ie:Bt}{es ifs qJ:Aa Bt}{fa fo fe fi:DE}{fA:DA}{fI:DI}{f2:DI2}{g:DG}{t:DT}{kk:DK}{p pos:Eu}{n k:Ai}{x:Av}{cm:Ar}{F:DF}{f:DS}{gens grest:Aa Dg}{scope:Eo}{N':Aa Av}{cap:Aa (Am Ai)}{mm:Ar}
theorem L0 (h:QI X tg it fI):QI2 X tg it (xG fI):=⟨JB h.1⟩
theorem NZ (h:QE X e fa):QI2 X tg e (dIt fa):=⟨DX h.1⟩
theorem GZ {e1:Bt}{elts:Aa Bt}{x1:Ai}{tpos:Eu}(hg:Gl X "enumerate")(hm:X.mg "enumerate" = none)(ha:QA X [e1] fA)(hs:Bm [e1] X.env=(false,eval e1 X.env)::Bm [] X.env:=by rfl)(hpl:(Gi pos (Bm [] X.env)).any (·.1)=false:=by rfl) :
  QI X (.Tuple elts x1 tpos) (.Call (.Name "enumerate" p) [e1] [] pos) (pD fA):=⟨JA hg hm ha.1 hs hpl⟩
theorem P7 {apos:Eu}(ho:QE X o fo)(hbase:Kx o "values" X.env (eval o X.env)=eval o X.env:=by rfl)(hline:(apos.endLine == pos.line)=true:=by rfl):QI X tg (.Call (.Attribute o "values" apos) [] [] pos) (fG fo):=⟨JC ho.1 hbase hline⟩
theorem P9 (hx:Y.xe=λ_ _=>Fd)(hlast:gens[k+1]? = none)(he:QE Y elt fe):QK accL Y (λacc=>zF false elt gens scope pos k acc Y.env) (zH fe):=⟨GJ hx hlast he.1⟩
theorem RQ (hc:Y.calm=true)(hx:Y.xe=λ_ _=>Fd)(hgk:gens[k+1]? = Ab ⟨tg,iter,ifs,0⟩)(has:∀ g',gens[k+1+1]? = Ab g'->g'.is_async=0)(hi:QI2 Y tg iter f2)(hg:QG Y tg g)(ht:QTs Y ifs t)(he:QK B Y (λacc=>zF B.m elt gens scope pos (k+1) acc Y.env) kk)(hs:∀ x,Dz iter Y.env x=pure x) :
  QK B Y (λacc=>zF B.m elt gens scope pos k acc Y.env) (kIn f2 g t kk):=⟨RI hc hx hgk has hi.1 hg.1 ht.1 he.1 hs⟩
theorem YG (hc:X.calm=true)(S:CompSc X.env.scope X.N scope N' cap)(hi:QI2 X tg iter f2)(hg:∀ cl C ex s₀ H₀,QG (qN X N' scope cl C ex s₀ H₀) tg g)(ht:∀ cl C ex s₀ H₀,QTs (qN X N' scope cl C ex s₀ H₀) ifs t)
  (has:∀ g',(⟨tg,iter,ifs,0⟩::grest:Aa Dg)[0+1]? = Ab g'->g'.is_async=0)
  (he:∀ cl C ex s₀ H₀,QK accL (qN X N' scope cl C ex s₀ H₀) (λacc=>zF false elt (⟨tg,iter,ifs,0⟩::grest) scope pos 0 acc (qN X N' scope cl C ex s₀ H₀).env) kk) (hs:∀ x,Dz iter X.env x=pure x) :
  QE X (.ListComp elt (⟨tg,iter,ifs,0⟩::grest) scope pos) (zB mm cap f2 g t kk):=
 ⟨XO hc S hi.1 (λcl C ex s H=>(hg cl C ex s H).1) (λcl C ex s H=>(ht cl C ex s H).1) has (λcl C ex s H=>(he cl C ex s H).1) hs⟩
theorem YM {m:Ai}{y:Av}{py spos:Eu}(hc:X.calm=true)(hN:X.N.Nodup)(S:CompSc X.env.scope X.N scope N' cap)(hi:QI2 X tg iter f2)(hg:∀ cl C ex s₀ H₀,QG (qN X N' scope cl C ex s₀ H₀) tg g)(ht:∀ cl C ex s₀ H₀,QTs (qN X N' scope cl C ex s₀ H₀) ifs t)
  (has:∀ g',(⟨tg,iter,ifs,0⟩::grest:Aa Dg)[0+1]? = Ab g'->g'.is_async=0)
  (he:∀ cl C ex s₀ H₀,QK accL (qN X N' scope cl C ex s₀ H₀) (λacc=>zF false elt (⟨tg,iter,ifs,0⟩::grest) scope pos 0 acc (qN X N' scope cl C ex s₀ H₀).env) kk) (hy:X.N[m]? = Ab y) (hyl:Loc X.env.scope y) (hf:X.fn y=true\/X.env.scope.names.lookup y=Ab .local)
  (hsw:Mq (.ListComp elt (⟨tg,iter,ifs,0⟩::grest) scope pos) (Ab (.Name y py)) spos.line X.env=pure true) (hs:∀ x,Dz iter X.env x=pure x):QS X (.Assign [.Name y py] (.ListComp elt (⟨tg,iter,ifs,0⟩::grest) scope pos) spos) (zZ (zB mm cap f2 g t kk) (gNm m)):=
 ⟨XY hc hN S hi.1 (λcl C ex s H=>(hg cl C ex s H).1) (λcl C ex s H=>(ht cl C ex s H).1) has (λcl C ex s H=>(he cl C ex s H).1) hy hyl hf hsw hs⟩
theorem VA:ZMt X "dict.setdefault" w9:=⟨QU⟩
theorem EJ (hr:RoomC cm k X.A):ZOp X (Co .Lt) mY:=⟨TH (by have:=hu1 hr;omega)⟩
end
noncomputable def j7 (H:Hp):Aa (Af × HO)->Hp
 |[]=>H
 |p::ps=>j7 (upd H p.1 p.2) ps
theorem nE {b:Af}:∀ {L:Aa (Af × HO)} {H:Hp},b ∉ L.map (·.1)->j7 H L b=H b
 |[],_,_=>rfl
 |p::ps,H,h=>by
  simp only[De,Ax,Uu] at h;show j7 (upd H p.1 p.2) ps b=H b;rw[nE h.2,qO h.1]
theorem rH {b:Af}{u:HO}:∀ {L:Aa (Af × HO)} {H:Hp},j7 H L b=Ab u->(b,u)∈L\/H b=Ab u
 |[],_,h=>.inr h
 |p::ps,H,h=>by
  rcases rH (L:=ps) (H:=upd H p.1 p.2) h with h|h
  .exact .inl (Cg _ h)
  .by_cases hb:b=p.1
   .subst hb
    rw[qX] at h;cases h;exact .inl (Dl ..)
   .rw[qO hb] at h
    exact .inr h
section
variable {X:Cx}{pins:Aa (Af × Ci)}{σ : _L.St}{H:Hp}{s:Ag}
theorem Inv.laidL {L:Aa (Af × HO)}{h':Br}{t':Ai}(I:Inv X pins σ H s)(k:∀ b u,s.heap.get? b=Ab u->h'.get? b=Ab u)(hp:∀ p∈L,s.heap.objs.size<=p.1)(new:∀ p∈L,zG X.prog X.w (j7 H L) h' p.1 p.2) :
  Inv X pins σ (j7 H L) { s with heap:=h',toks:=t' }:=by
 have old:∀ b u,H b=Ab u->j7 H L b=Ab u:=λb u e=>by
  rw[nE (L:=L)]
  .exact e
  .intro hb
   obtain⟨p,hp',rfl⟩:=Aw.mp hb;rw[I.hok.fresh (hp p hp')] at e;cases e
 have low:∀ b,b<s.heap.objs.size->j7 H L b=H b:=λb hb=>nE λhm=>by
  obtain⟨p,hp',rfl⟩:=Aw.mp hm;exact absurd (Bc hb (hp p hp')) (Ek _)
 refine I.un ⟨λb u q _ _ _=>k b u q,λb u q _ _ _=>⟨u.slots,k b u q⟩,λb u q n _=>by rw[low b (Az q)];exact n,λb u q _=>⟨u,k b u q⟩,λb xs q=>old b _ q,λb o xs q=>old b _ q,λb ps q=>⟨#[],by rw[old b _ q];simp⟩⟩ λb u e=>?_
 rcases rH e with hm|hb
 .exact new (b,u) hm
 .exact(I.hok b u hb).stay (λc v _ q=>k c v q) (λc q=>old c _ q) λc xs q=>old c _ q
end
noncomputable def kD:Key->D
 |.inl i=>.int i
 |.inr x=>.str x
theorem ML {K:Aj}{P:Hp}{α:Aa Af}(k:Key):Rep K P α (kD k) (kV k):=by
 cases k <;> simp only[kD,kV,Rep]
theorem SO {k:Key}{u:Ac}(h:kA k u=true):qF (kV k) u:=by
 rcases zW h with⟨i,t,rfl,rfl⟩|⟨x,t,rfl,rfl⟩
 .exact⟨t,rfl⟩
 .exact⟨t,rfl⟩
theorem QD {κ:Type}:∀ {vs:Aa (κ × V)} {us:Aa (κ × Ac)},KV vs us->∀ {j:Ai} {q:κ × V},vs[j]? = Ab q->∃ u,us[j]? = Ab (q.1,u)/\qF q.2 u
 |_,_,.nil,j,q,h=>by simp at h
 |_,_,.cons (a:=x) (b:=y) z t,j,q,h=>by
  cases j with
  |zero =>
   simp at h;subst h;exact⟨y.2,by simp;exact Yb z.1.symm rfl,z.2⟩
  |succ j =>
   obtain⟨u,e1,e2⟩:=QD t (j:=j) (q:=q) (by simpa using h)
   exact⟨u,by simpa using e1,e2⟩
noncomputable def WB:G2:=λa b S=>match a,b with
 |.bl x,.bl y=>.ok (.bl (x == y)) S
 |_,_=>.bad
section
variable {X:Cx}{tg e o i:Bt}{fa fo fi:DE}{p pos apos cpos:Eu}{cm:Ar}{k:Ai}
theorem TF:OpD X (Co .Is) WB:=by
 intro pins σ H s P α S v u vv uu a b Q I r rv ru pa pb af;cases a with
 |bl x =>
  cases b with
  |bl y =>
   simp only[Rep] at pa pb;subst pa pb;cases (show vv=Hv x from rv)
   cases (show uu=Hv y from ru)
   have h:EP X pins σ Q (.bool (x == y)) s:=⟨.bl _,H,I,rfl,xr af r (by simp only[Rep])⟩
   cases x <;> cases y <;> exact Al h
  |_=>exact Aq af
 |_=>exact Aq af
theorem EG:ZOp X (Co .Is) WB:=⟨TF⟩
end
section
variable {X:Cx}{cm:Ar}{k:Ai}
theorem BL (hr:RoomC cm k X.A):ZOp X (Co .NotIn) v9:=⟨Y4 hr.units⟩
end
end _D
namespace _S
open PySem
variable {mask:Ai}{xs:Ay Ai}
def Rs (xs:Ay Ai):Prop:=xs.toList.Pairwise (· < ·)
theorem Rs.lt (h:Rs xs){a b:Ai}{x y:Ai}(hab:a<b)(ha:xs[a]? = Ab x)(hb:xs[b]? = Ab y):x<y:=by
 obtain⟨h1,e1⟩:=Dv.mp ha;obtain⟨h2,e2⟩:=Dv.mp hb;have:=IV.mp h a b (by simpa using h1) (by simpa using h2) hab
 rw[<- e1,<- e2];simpa using this
theorem getD_some {i x d:Ai}(h:xs[i]? = Ab x):xs.getD i d=x:=by
 obtain⟨h1,e1⟩:=Dv.mp h;simp[Ge,h1,e1]
structure Bel (xs:Ay Ai)(j p:Ai):Prop where
 le:p<=xs.size
 lo:∀ i x,i<p->xs[i]? = Ab x->x<j
 hi:∀ i x,p<=i->xs[i]? = Ab x->j<=x
set_option tactic.hygienic true in
theorem bG (h:Rs xs)(j:Ai):∀ (fuel lo hi:Ai),hi-lo<=fuel->lo<=hi->hi<=xs.size ->
  (∀ i x,i<lo->xs[i]? = Ab x->x<j)->(∀ i x,hi<=i->xs[i]? = Ab x->j<=x)->Bel xs j (Wr xs j fuel lo hi)
 |0,lo,hi,h1,h2,h3,h4,h5=>by
  have:lo=hi:=by lia
  subst this;exact⟨h3,h4,h5⟩
 |fuel+1,lo,hi,h1,h2,h3,h4,h5=>by
  unfold Wr;by_cases hlt:lo<hi
  .rw[Bp hlt]
   have hm:(lo+hi)/2<xs.size:=by lia
   have e:xs[(lo+hi)/2]? = Ab xs[(lo+hi)/2]:=Ec hm;simp only[getD_some e]
   split
   .rename_i hc
    refine bG h j fuel _ hi (by lia) (by lia) h3 (λi x hi' ex=>?_) h5
    by_cases q:i=(lo+hi)/2
    .subst q;rw[e] at ex;cases ex;exact hc
    .exact Ia (h.lt (by lia) ex e) hc
   .rename_i hc
    refine bG h j fuel lo _ (by lia) (by lia) (by lia) h4 (λi x hi' ex=>?_)
    by_cases q:i=(lo+hi)/2
    .subst q;rw[e] at ex;cases ex;lia
    .have:=h.lt (show (lo+hi)/2<i by lia) e ex
     lia
  .rw[Bj hlt]
   have:lo=hi:=by lia
   subst this;exact⟨h3,h4,h5⟩
theorem vY (h:Rs xs)(j:Ai):Bel xs j (Cd xs j):=
 bG h j _ _ _ (by lia) (by lia) (As _) (λi x hi=>by lia) λi x hi ex=>by
  have:=(Dv.mp ex).1
  lia
theorem bF (h:Rs xs){i j:Ai}(e:xs[i]? = Ab j):Cd xs j=i:=by
 have b:=vY h j;have hi:=(Dv.mp e).1;by_cases h1:Cd xs j<i
 .have e2:xs[Cd xs j]? = Ab xs[Cd xs j]:=Ec (by lia)
  have:=h.lt h1 e2 e;have:=b.hi _ _ (As _) e2
  lia
 .by_cases h2:i<Cd xs j
  .have:=b.lo _ _ h2 e
   lia
  .lia
theorem aA (h:Rs xs){i j:Ai}(e:xs[i]? = Ab j):Cd xs (j+1)=i+1:=by
 have b:=vY h (j+1);have hi:=(Dv.mp e).1;have h1:i<Cd xs (j+1):=by
  apply Fk;intro q;have:=b.hi _ _ (by lia) e
  lia
 by_cases h2:i+1<Cd xs (j+1)
 .have hz:i+1<xs.size:=by have:=b.le;lia
  have e2:xs[i+1]? = Ab xs[i+1]:=Ec hz;have:=b.lo _ _ h2 e2;have:=h.lt (Ik i) e e2
  lia
 .lia
theorem aD (h:Rs xs):Cd xs 0=0:=by
 have b:=vY h 0;apply Fk;intro q;have hz:0<xs.size:=by have:=b.le;lia
 have e2:xs[0]? = Ab xs[0]:=Ec hz;have:=b.lo _ _ (by lia) e2
 lia
structure Tb (t:Ex):Prop where
 rs:Rs t.place
 dm:t.dummies=#[]
theorem eJ (j:Ai):Vw #[] j=false:=by simp[Vw]
theorem lC {t:Ex}(T:Tb t){i j:Ai}(e:t.place[i]? = Ab j):t.slot j=.live i:=by
 unfold Zr;simp only[bF T.rs e,e];simp
theorem iO {t:Ex}(T:Tb t)(j:Ai):(∃ i,t.slot j=.live i/\t.place[i]? = Ab j)\/(t.slot j=.empty/\j ∉ t.place.toList):=by
 by_cases h:j∈t.place.toList
 .obtain⟨i,hi,e⟩:=Cn.mp h
  have e':t.place[i]? = Ab j:=by rw[<- Bk,An hi,e]
  exact .inl ⟨i,lC T e',e'⟩
 .refine .inr ⟨?_,h⟩
  unfold Zr;simp only[T.dm,eJ];rw[Bj,Bj (by simp)]
  intro q;apply h;have:t.place[Cd t.place j]? = Ab j:=by simpa using q
  obtain⟨h1,e1⟩:=Dv.mp this;rw[<- e1];simp
theorem ZP (h:Rs xs){j:Ai}(hj:j ∉ xs.toList):Rs (Bz xs (Cd xs j) j):=by
 have b:=vY h j;unfold Rs;rw[Pv];have key:∀ (i:Ai) (x:Ai),xs.toList[i]? = Ab x->(i<Cd xs j->x<j)/\(Cd xs j<=i->j<x):=λi x e=>by
  have e':xs[i]? = Ab x:=by rw[<- Bk];exact e
  refine⟨λq=>b.lo _ _ q e',λq=>?_⟩;have h1:=b.hi _ _ q e';have:x≠j:=by
   rintro rfl;exact hj (Cu e)
  lia
 have tk:∀ x∈xs.toList.take (Cd xs j),x<j:=λx hx=>by
  obtain⟨i,hi,e⟩:=Cn.mp hx;rw[Fc] at hi;rw[Pg] at e;exact(key i x (by rw[An (by lia),e])).1 (by lia)
 have dr:∀ x∈xs.toList.drop (Cd xs j),j<x:=λx hx=>by
  obtain⟨i,hi,e⟩:=Cn.mp hx;rw[Ko] at hi;rw[Ph] at e;exact(key (Cd xs j+i) x (by rw[An (by lia),e])).2 (by lia)
 rw[Ds,Ch];refine⟨List.Pairwise.take h,⟨dr,List.Pairwise.drop h⟩,λx hx y hy=>?_⟩;rcases Ax.mp hy with rfl|hy
 .exact tk x hx
 .exact Ia (tk x hx) (dr y hy)
theorem fM {α:Type}(xs:Ay α){p:Ai}(hp:p<=xs.size)(x:α)(i:Ai):(Bz xs p x)[i]? = if i<p then xs[i]? else if i=p then Ab x else xs[i-1]?:=by
 rw[<- Bk,Pv];have hl:(xs.toList.take p).length=p:=by simp;lia
 by_cases h1:i<p
 .rw[Bp h1,Bo (by lia),Lq h1,Bk]
 .rw[Bj h1,Dc (by lia),hl]
  by_cases h2:i=p
  .subst h2;simp
  .rw[Bj h2]
   obtain⟨k,hk⟩:∃ k,i-p=k+1:=⟨i-p-1,by lia⟩
   rw[hk,Qw,Vi,Bk]
   congr 1;lia
theorem yZ {α:Type}(xs:Ay α)(p:Ai)(x:α):(Bz xs p x).size=xs.size+1:=by
 have:=(Im xs p x).length_eq;simpa using this
theorem NG {t:Ex}(T:Tb t){j:Ai}(hj:j ∉ t.place.toList):Tb (t.put j).1:=by
 refine⟨ZP T.rs hj,?_⟩;show (if Vw t.dummies j then _ else t.dummies)=#[]
 rw[T.dm,eJ];rfl
open PySem.SetTable (Probe leap runEnd turns bits)
noncomputable def adv (mask:Ai)(p:Ms):Ms:=if p.more>0 then { p with j:=p.j+1,more:=p.more-1 } else { p with j:=(leap mask p.i p.perturb).1,more:=He mask (leap mask p.i p.perturb).1-(leap mask p.i p.perturb).1,i:=(leap mask p.i p.perturb).1,perturb:=(leap mask p.i p.perturb).2 }
theorem BY (t:Ex)(p:Ms):t.advance p=adv t.mask p:=rfl
noncomputable def it (mask:Ai):Ai->Ms->Ms
 |0,p=>p
 |n+1,p=>it mask n (adv mask p)
theorem pK (mask:Ai):∀ (n:Ai) (p:Ms),it mask (n+1) p=adv mask (it mask n p)
 |0,p=>rfl
 |n+1,p=>pK mask n (adv mask p)
theorem fP (mask:Ai):∀ (m n:Ai) (p:Ms),it mask (m+n) p=it mask n (it mask m p)
 |0,n,p=>by rw[Gs];rfl
 |m+1,n,p=>by rw[OG];exact fP mask m n (adv mask p)
noncomputable def rs (mask i pert:Ai):Ms:={ j:=i,more:=He mask i-i,i,perturb:=pert,dummy:=none }
noncomputable def st (mask:Ai)(h:Ak):Ms:=rs mask (bits h % (mask+1)) (bits h)
theorem E1 (t:Ex)(h:Ak):t.probeStart h=st t.mask h:=rfl
theorem gQ (mask i pert:Ai):∀ k,k<=He mask i-i->it mask k (rs mask i pert)={ j:=i+k,more:=He mask i-i-k,i,perturb:=pert,dummy:=none }
 |0,_=>rfl
 |k+1,hk=>by
  rw[pK,gQ mask i pert k (by lia)]
  unfold adv;rw[Bp (by show He mask i-i-k>0;lia)]
  simp only[Probe.mk.injEq,and_true,true_and]
  lia
theorem eR (mask i pert:Ai):it mask (He mask i-i+1) (rs mask i pert)=rs mask (leap mask i pert).1 (leap mask i pert).2:=by
 rw[pK,gQ mask i pert _ (As _)];unfold adv;rw[Bj (by show ¬ (He mask i-i-(He mask i-i)>0);lia)]
 rfl
theorem LM (mask i:Ai):He mask i-i+1<=10:=by
 unfold He
 split <;> lia
noncomputable def lp (mask:Ai):Ai->Ai × Ai->Ai × Ai
 |0,q=>q
 |n+1,q=>lp mask n (leap mask q.1 q.2)
theorem QN (mask:Ai):∀ (m n:Ai) (q:Ai × Ai),lp mask (m+n) q=lp mask n (lp mask m q)
 |0,n,p=>by rw[Gs];rfl
 |m+1,n,p=>by rw[OG];exact QN mask m n _
theorem VW (mask:Ai):∀ (n i pert:Ai),∃ k,k<=10*n/\it mask k (rs mask i pert)=rs mask (lp mask n (i,pert)).1 (lp mask n (i,pert)).2
 |0,i,pert=>⟨0,by lia,rfl⟩
 |n+1,i,pert=>by
  obtain⟨k,hk,e⟩:=VW mask n (leap mask i pert).1 (leap mask i pert).2;refine⟨(He mask i-i+1)+k,by have:=LM mask i;lia,?_⟩
  rw[fP,eR,e];rfl
theorem hJ (mask:Ai):∀ (n i pert:Ai),(lp mask n (i,pert)).2=pert/32 ^ n
 |0,i,pert=>by simp[lp]
 |n+1,i,pert=>by
  show (lp mask n ((leap mask i pert).1,pert/32)).2=_;rw[hJ mask n _ (pert/32),Nat.div_div_eq_div_mul,<- Nat.pow_succ']
theorem tH (mask i pert:Ai):(leap mask i pert).1<=mask:=Ka (Oq _ (Me _))
theorem VZ (mask:Ai):∀ (n i pert:Ai),i<=mask->(lp mask n (i,pert)).1<=mask
 |0,i,pert,h=>h
 |n+1,i,pert,h=>VZ mask n _ _ (tH mask i pert)
theorem rY (h:Ak):bits h<2 ^ 64:=by
 unfold bits;have h1:(0:Ak)<=h % 2 ^ 64:=IN _ (by decide)
 have h2:h % 2 ^ 64<(2 ^ 64:Ak):=Hs _ (by decide)
 lia
noncomputable def cyc (mask:Ai):Ai->Ai->Ai
 |0,i=>i
 |n+1,i=>cyc mask n ((i*5+1) % (mask+1))
theorem pC (mask:Ai):∀ (m n i:Ai),cyc mask (m+n) i=cyc mask n (cyc mask m i)
 |0,n,p=>by rw[Gs];rfl
 |m+1,n,p=>by rw[OG];exact pC mask m n _
theorem QP (mask:Ai):∀ (n i:Ai),(lp mask n (i,0)).1=cyc mask n i
 |0,i=>rfl
 |n+1,i=>by
  show (lp mask n (leap mask i 0)).1=_;have:leap mask i 0=((i*5+1) % (mask+1),0):=by simp[leap]
  rw[this,QP mask n];rfl
def Msk (mask:Ai):Prop:=mask=7\/mask=31\/mask=127\/mask=511\/mask=2047
noncomputable def orb (mask:Ai):Ai->Ai->Ai->Ai
 |0,_,acc=>acc
 |n+1,i,acc=>orb mask n ((i*5+1) % (mask+1)) (acc ||| 1 <<< i)
noncomputable def oK (mask:Ai):Ar:=orb mask (mask+1) 0 0 == 2 ^ (mask+1)-1&&cyc mask (mask+1) 0 == 0
theorem oM (h:Msk mask):oK mask=true:=by
 rcases h with rfl|rfl|rfl|rfl|rfl <;> decide +kernel
theorem c8 (mask e:Ai):∀ (n i acc:Ai),(orb mask n i acc).testBit e=true->acc.testBit e=true\/∃ m,m<n/\cyc mask m i=e
 |0,i,acc,h=>.inl h
 |n+1,i,acc,h=>by
  rcases c8 mask e n _ _ h with q|⟨m,hm,q⟩
  .rw[Nat.testBit_or,Rk] at q
   rcases q with q|q
   .exact .inl q
   .rw[Nat.one_shiftLeft,Nat.testBit_two_pow,Cb] at q
    exact .inr ⟨0,by lia,q⟩
  .exact .inr ⟨m+1,by lia,q⟩
theorem XI (h:Msk mask){i e:Ai}(hi:i<=mask)(he:e<=mask):∃ n,n<=mask/\cyc mask n i=e:=by
 have a:=oM h;unfold oK at a;rw[Bi] at a;obtain⟨a1,a2⟩:=a;have a1:orb mask (mask+1) 0 0=2 ^ (mask+1)-1:=by simpa using a1
 have g:∀ e,e<=mask->∃ n,n<=mask/\cyc mask n 0=e:=λe he=>by
  have q:(orb mask (mask+1) 0 0).testBit e=true:=by rw[a1,Nat.testBit_two_pow_sub_one];simp;lia
  rcases c8 mask e _ _ _ q with q|⟨n,hn,q⟩
  .simp at q
  .exact⟨n,by lia,q⟩
 have a3:cyc mask (mask+1) 0=0:=by simpa using a2
 obtain⟨m,hm,em⟩:=g i hi;obtain⟨n,hn,en⟩:=g e he;by_cases q:m<=n
 .refine⟨n-m,by lia,?_⟩
  rw[<- em,<- pC,show m+(n-m)=n by lia]
  exact en
 .refine⟨n+(mask+1)-m,by lia,?_⟩
  rw[<- em,<- pC,show m+(n+(mask+1)-m)=(mask+1)+n by lia,pC,a3]
  exact en
theorem sE (h:Msk mask){i pert e:Ai}(hi:i<=mask)(hp:pert<2 ^ 64)(he:e<=mask):∃ n,n<=mask+13/\(lp mask n (i,pert)).1=e:=by
 have h0:(lp mask 13 (i,pert)).2=0:=by
  rw[hJ];apply Nat.div_eq_of_lt;exact Ia hp (by decide)
 obtain⟨n,hn,q⟩:=XI h (VZ mask 13 i pert hi) he;refine⟨13+n,by lia,?_⟩
 rw[QN];have:lp mask 13 (i,pert)=((lp mask 13 (i,pert)).1,0):=by rw[<- h0]
 rw[this,QP];exact q
theorem s9 (h:Msk mask)(hs:Ak){e:Ai}(he:e<=mask):∃ n,n<10*turns mask/\(it mask n (st mask hs)).j=e:=by
 obtain⟨n,hn,q⟩:=sE h (i:=bits hs % (mask+1)) (Ka (Oq _ (Me _))) (rY hs) he;obtain⟨k,hk,e1⟩:=VW mask n (bits hs % (mask+1)) (bits hs);refine⟨k,by unfold turns;lia,?_⟩
 show (it mask k (rs mask _ _)).j=e;rw[e1];exact q
theorem bQ (mask:Ai):∀ (n:Ai) (p:Ms),(it mask n p).dummy=p.dummy
 |0,p=>rfl
 |n+1,p=>by
  show (it mask n (adv mask p)).dummy=_;rw[bQ mask n];unfold adv
  split <;> rfl
def Way (t:Ex)(p:Ms)(n:Ai):Prop:=∀ m,m<n->(it t.mask m p).j∈t.place.toList
inductive Meets (t:Ex)(hashAt:Ai->Ak)(h:Ak)(p:Ms)(fuel:Ai):Am SetTable.Met->Prop
 |emp (n:Ai) (hn:n<fuel) (w:Way t p n) (e:(it t.mask n p).j ∉ t.place.toList) (q:∀ m i,m<n->t.place[i]? = Ab (it t.mask m p).j->hashAt i≠h):Meets t hashAt h p fuel (Ab (.empty (it t.mask n p).j none))
 |cand (n i:Ai) (hn:n<fuel) (w:Way t p n) (e:t.place[i]? = Ab (it t.mask n p).j) (hh:hashAt i=h) (q:∀ m i,m<n->t.place[i]? = Ab (it t.mask m p).j->hashAt i≠h):Meets t hashAt h p fuel (Ab (.candidate (it t.mask n p).j i (it t.mask (n+1) p)))
theorem ZO (h:Rs xs){a b x:Ai}(ha:xs[a]? = Ab x)(hb:xs[b]? = Ab x):a=b:=by rw[<- bF h ha,bF h hb]
set_option tactic.hygienic true in
theorem jX {t:Ex}(T:Tb t)(hashAt:Ai->Ak)(h:Ak):∀ (fuel:Ai) (p:Ms),p.dummy=none->(∃ n,n<fuel/\(it t.mask n p).j ∉ t.place.toList)->Meets t hashAt h p fuel (Kb t hashAt h fuel p)
 |0,p,_,⟨n,hn,_⟩=>by lia
 |fuel+1,p,hd,⟨n,hn,hne⟩=>by
  unfold Kb;rcases iO T p.j with⟨i,e,ei⟩|⟨e,q⟩
  .rw[e]
   simp only
   split
   .rename_i hh
    exact Meets.cand 0 i (by lia) (λm hm=>by lia) ei (by simpa using hh) λm i hm=>by lia
   .rename_i hh
    have hh':hashAt i≠h:=by simpa using hh
    have hn0:n≠0:=by
     rintro rfl;exact hne (Cu (by rw[Bk];exact ei))
    obtain⟨n',rfl⟩:∃ n',n=n'+1:=⟨n-1,by lia⟩
    have ih:=jX T hashAt h fuel (adv t.mask p) (by rw[<- hd];exact bQ t.mask 1 p) ⟨n',by lia,hne⟩
    rw[BY];have mem0:p.j∈t.place.toList:=Cu (by rw[Bk];exact ei)
    have up:∀ {k:Ai},Way t (adv t.mask p) k->Way t p (k+1):=λ{k} w m hm=>by
     cases m with
     |zero=>exact mem0
     |succ m=>exact w m (by lia)
    have upq:∀ {k:Ai},(∀ m i,m<k->t.place[i]? = Ab (it t.mask m (adv t.mask p)).j->hashAt i≠h)->∀ m i,m<k+1->t.place[i]? = Ab (it t.mask m p).j->hashAt i≠h:=λ{k} q m i' hm e'=>by
     cases m with
     |zero=>rw[ZO T.rs e' ei];exact hh'
     |succ m=>exact q m i' (by lia) e'
    generalize hg:Kb t hashAt h fuel (adv t.mask p)=r at ih;cases ih with
    |emp k hk w e1 q1=>exact Meets.emp (p:=p) (k+1) (by lia) (up w) e1 (upq q1)
    |cand k i' hk w e1 hh1 q1=>exact Meets.cand (p:=p) (k+1) i' (by lia) (up w) e1 hh1 (upq q1)
  .rw[e]
   simp only[hd];exact Meets.emp (p:=p) 0 (by lia) (λm hm=>by lia) q λm i hm=>by lia
end _S
namespace _S
open PySem
open PySem.SetTable (Probe leap runEnd turns bits)
variable {us:Aa Ai}{mask:Ai}{owner:Ay (Am Ai)}
structure Own (mask:Ai)(owner:Ay (Am Ai))(us:Aa Ai):Prop where
 size:owner.size=mask+1
 nd:us.Nodup
 le:∀ u∈us,u<=mask
 at':∀ j k,j<=mask->(owner.getD j (Ab 0)=Ab k↔us[k]? = Ab j)
theorem tZ {i:Ai}(hi:i<=mask):He mask i<=mask:=by
 unfold He
 split <;> lia
theorem n6 (mask i:Ai):i<=He mask i:=by
 unfold He
 split <;> lia
theorem Own.none (O:Own mask owner us){j:Ai}(hj:j<=mask):(owner.getD j (Ab 0)).isNone=true↔j ∉ us:=by
 constructor
 .intro h hm
  obtain⟨k,hk,e⟩:=Cn.mp hm;have:=(O.at' j k hj).mpr (by rw[An hk,e])
  rw[this] at h;cases h
 .intro h
  cases q:owner.getD j (Ab 0) with
  |none=>rfl
  |some k=>exact absurd (Cu ((O.at' j k hj).mp q)) h
theorem nY (O:Own mask owner us):∀ (fuel i pert:Ai),i<=mask->(∃ L,L<fuel/\(lp mask L (i,pert)).1 ∉ us) ->
  ∃ n,Io mask owner fuel i pert=Ab (it mask n (rs mask i pert)).j/\(it mask n (rs mask i pert)).j<=mask/\(it mask n (rs mask i pert)).j ∉ us/\∀ m,m<n->(it mask m (rs mask i pert)).j∈us
 |0,i,pert,hi,⟨L,hL,_⟩=>by lia
 |fuel+1,i,pert,hi,⟨L,hL,hne⟩=>by
  unfold Io;have hmx:=tZ hi;have hmn:=n6 mask i;cases hf:(Dd (He mask i+1-i)).find? λk=>(owner.getD (i+k) (Ab 0)).isNone with
  |some k =>
   obtain⟨h1,h2,h3⟩:=List.find?_range_eq_some.mp hf;have hk:k<He mask i+1-i:=Dt.mp h2;have ej:(it mask k (rs mask i pert)).j=i+k:=by rw[gQ mask i pert k (by lia)]
   refine⟨k,?_,?_,?_,λm hm=>?_⟩
   .rw[ej]
   .rw[ej];lia
   .rw[ej];exact(O.none (by lia)).mp h1
   .rw[gQ mask i pert m (by lia)]
    have:=h3 m hm;apply Fk;intro q;rw[(O.none (show i+m<=mask by lia)).mpr q] at this
    cases this
  |none =>
   have hall:∀ k,k<He mask i+1-i->i+k∈us:=λk hk=>by
    have:=Ly.mp hf k (Dt.mpr hk);apply Fk;intro q;exact this ((O.none (show i+k<=mask by lia)).mpr q)
   have hL0:L≠0:=by
    rintro rfl;exact hne (hall 0 (by lia))
   obtain⟨L',rfl⟩:∃ L',L=L'+1:=⟨L-1,by lia⟩
   obtain⟨n,q1,q2,q3,q4⟩:=nY O fuel (leap mask i pert).1 (leap mask i pert).2 (tH mask i pert) ⟨L',by lia,hne⟩
   have e:∀ m,it mask (He mask i-i+1+m) (rs mask i pert)=it mask m (rs mask (leap mask i pert).1 (leap mask i pert).2):=λm=>by rw[fP,eR]
   refine⟨He mask i-i+1+n,?_,?_,?_,λm hm=>?_⟩
   .rw[e];exact q1
   .rw[e];exact q2
   .rw[e];exact q3
   .by_cases hlt:m<He mask i-i+1
    .rw[gQ mask i pert m (by lia)]
     exact hall m (by lia)
    .obtain⟨m',rfl⟩:∃ m',m=He mask i-i+1+m':=⟨m-(He mask i-i+1),by lia⟩
     rw[e];exact q4 m' (by lia)
theorem gap (h:us.length<=mask):∃ e,e<=mask/\e ∉ us:=by
 apply Fk;intro q;have:Dd (mask+1) ⊆ us:=λe he=>by
  apply Fk;intro r;exact q ⟨e,by have:=Dt.mp he;lia,r⟩
 have:=List.Nodup.length_le_of_subset Xm this;rw[Gf] at this
 lia
theorem GB (mask:Ai):Own mask (Array.replicate (mask+1) none) []:=by
 refine⟨by simp,Iq,λu hu=>by simp at hu,λj k hj=>?_⟩
 have:j<mask+1:=by lia
 simp[Ge,this]
theorem Y6 (O:Own mask owner us){j:Ai}(hj:j<=mask)(hn:j ∉ us):Own mask (owner.setIfInBounds j (Ab us.length)) (us++[j]):=by
 refine⟨by simp[O.size],?_,λu hu=>?_,λi k hi=>?_⟩
 .rw[Jx]
  refine⟨O.nd,by simp,λa ha b hb=>?_⟩
  simp at hb;rintro rfl;subst hb;exact hn ha
 .rcases Ce.mp hu with h|h
  .exact O.le u h
  .simp at h;lia
 .have hsz:=O.size
  have hi':i<owner.size:=by lia
  have hk:∀ {k},us[k]? = Ab i->k<us.length:=λq=>(Bw.mp q).1;by_cases hij:j=i
  .subst hij
   have e1:(owner.setIfInBounds j (Ab us.length)).getD j (Ab 0)=Ab us.length:=by simp[Ge,hi']
   rw[e1];constructor
   .intro q;cases q;simp
   .intro q
    by_cases h1:k<us.length
    .rw[Bo h1] at q
     exact absurd (Cu q) hn
    .rw[Dc (by lia)] at q
     have:k-us.length=0:=by
      cases hz:k-us.length with
      |zero=>rfl
      |succ z=>rw[hz] at q;simp at q
     congr 1;lia
  .have e1:(owner.setIfInBounds j (Ab us.length)).getD i (Ab 0)=owner.getD i (Ab 0):=by
    simp[Ge,hi',Array.getElem_setIfInBounds,hij]
   rw[e1,O.at' i k hi];constructor
   .intro q;rw[Bo (hk q)];exact q
   .intro q
    by_cases h1:k<us.length
    .rw[Bo h1] at q;exact q
    .rw[Dc (by lia)] at q
     cases hz:k-us.length with
     |zero=>rw[hz] at q;simp at q;exact absurd q hij
     |succ z=>rw[hz] at q;simp at q
def cV (mask:Ai)(us:Aa Ai)(hs:Aa Ak):Prop:=∀ (k:Ai) (h:Ak),hs[k]? = Ab h->∃ n,us[k]? = Ab (it mask n (st mask h)).j/\∀ m,m<n->(it mask m (st mask h)).j∈us
theorem nX (hM:Msk mask):∀ (hs done:Aa Ak) (owner:Ay (Am Ai)) (us:Aa Ai),Own mask owner us->us.length=done.length->done.length+hs.length<=mask->cV mask us done ->
  ∃ owner' us',hs.foldl (λacc h=>do
   let (owner,k) <- acc
   let j <- Io mask owner (turns mask) (bits h % (mask+1)) (bits h)
   pure (owner.setIfInBounds j (Ab k),k+1)) (Ab (owner,us.length))=Ab (owner',us'.length)/\Own mask owner' us'/\us'.length=done.length+hs.length/\cV mask us' (done++hs)
 |[],done,owner,us,O,hl,_,hL=>⟨owner,us,rfl,O,by simpa using hl,by simpa using hL⟩
 |h::hs,done,owner,us,O,hl,hlen,hL=>by
  rw[Bd] at hlen;obtain⟨e,he,hne⟩:=gap (mask:=mask) (us:=us) (by lia)
  obtain⟨L,hLn,hLe⟩:=sE hM (i:=bits h % (mask+1)) (Ka (Oq _ (Me _))) (rY h) he;obtain⟨n,q1,q2,q3,q4⟩:=nY O (turns mask) (bits h % (mask+1)) (bits h) (Ka (Oq _ (Me _))) ⟨L,by unfold turns;lia,by rw[hLe];exact hne⟩
  have O':=Y6 O q2 q3;have hL':cV mask (us++[(it mask n (rs mask (bits h % (mask+1)) (bits h))).j]) (done++[h]):=λk h' e'=>by
   by_cases hk:k<done.length
   .rw[Bo hk] at e'
    obtain⟨n',w1,w2⟩:=hL k h' e';exact⟨n',by rw[Bo (by lia)];exact w1,λm hm=>Cj _ (w2 m hm)⟩
   .rw[Dc (by lia)] at e'
    cases hz:k-done.length with
    |succ z=>rw[hz] at e';simp at e'
    |zero =>
     rw[hz] at e';simp at e';subst e';refine⟨n,?_,λm hm=>Cj _ (q4 m hm)⟩;rw[Dc (by lia),hl,hz]
     rfl
  obtain⟨owner',us',r1,r2,r3,r4⟩:=nX hM hs (done++[h]) _ _ O' (by simp[hl]) (by simp;lia) hL'
  refine⟨owner',us',?_,r2,by simpa [Zs,Qx 1] using r3,by simpa using r4⟩
  rw[Li];rw[Ct] at r1;have e0:(do
   let (owner,k) <- Ab (owner,us.length)
   let j <- Io mask owner (turns mask) (bits h % (mask+1)) (bits h)
   pure (owner.setIfInBounds j (Ab k),k+1))=Ab (owner.setIfInBounds (it mask n (rs mask (bits h % (mask+1)) (bits h))).j (Ab us.length),us.length+1):=by
   show (Io mask owner (turns mask) (bits h % (mask+1)) (bits h)).bind _=_;rw[q1];rfl
  rw[e0];exact r1
theorem lI (hM:Msk mask)(hs:Ay Ak)(hlen:hs.size<=mask):∃ owner us,Ws mask hs=Ab owner/\Own mask owner us/\us.length=hs.size/\cV mask us hs.toList:=by
 obtain⟨owner',us',r1,r2,r3,r4⟩:=nX hM hs.toList [] _ [] (GB mask) rfl (by simpa using hlen) (λk h e=>by simp at e)
 refine⟨owner',us',?_,r2,by simpa using r3,by simpa using r4⟩
 unfold Ws;rw[<- Array.foldl_toList];have:(([]:Aa Ai).length)=0:=rfl;rw[this] at r1
 erw [r1]
 rfl
structure Laid (mask:Ai)(hs:Ay Ak)(t:Ex)(qP:Ay Ai):Prop where
 msk:t.mask=mask
 tb:Tb t
 size:t.place.size=hs.size
 le:∀ x∈t.place.toList,x<=mask
 perm:qP.toList.Perm (Dd hs.size)
 way:∀ (i k:Ai) (h:Ak),qP[i]? = Ab k->hs[k]? = Ab h->∃ n,t.place[i]? = Ab (it mask n (st mask h)).j/\Way t (st mask h) n
theorem QF (hM:Msk mask)(hs:Ay Ak)(hlen:hs.size<=mask)(finger moves:Ai)(led plain:Ar) :
  ∃ t qP,Ue mask finger moves led plain hs=Ab (t,qP)/\t.led=led/\t.plain=plain/\Laid mask hs t qP:=by
 obtain⟨owner,us,e,O,hl,hL⟩:=lI hM hs hlen;have hg:∀ j,j<=mask->owner.getD j none=owner.getD j (Ab 0):=λj hj=>by
  have:j<owner.size:=by rw[O.size];lia
  simp[Ge,this]
 generalize hlv:((Dd (mask+1)).filterMap λj=>(owner.getD j none).map (j,·))=live
 have mem:∀ (j k:Ai),(j,k)∈live↔us[k]? = Ab j:=λj k=>by
  rw[<- hlv,Lv];constructor
  .rintro⟨j',hj',q⟩
   have hj'':j'<=mask:=by have:=Dt.mp hj';lia
   rw[hg j' hj''] at q;cases hz:owner.getD j' (Ab 0) with
   |none=>rw[hz] at q;cases q
   |some k' =>
    rw[hz] at q;simp at q;obtain⟨rfl,rfl⟩:=q;exact(O.at' _ _ hj'').mp hz
  .intro q
   have hj:j<=mask:=O.le j (Cu q);refine⟨j,Dt.mpr (by lia),?_⟩
   rw[hg j hj,(O.at' j k hj).mpr q];rfl
 have hfst:live.map (·.1)=(Dd (mask+1)).filter λj=>(owner.getD j none).isSome:=by
  rw[<- hlv,Vj];generalize owner.getD=f
  induction Dd (mask+1) with
  |nil=>rfl
  |cons a l ih =>
   rw[Fz,Xn];cases hz:f a none with
   |none=>simpa using ih
   |some k=>simpa using ih
 have hR:(live.map (·.1)).Pairwise (· < ·):=by
  rw[hfst];exact wS _ Ro
 have ndl:(live.map (·.2)).Nodup:=by
  unfold Uf;rw[Di];have h1:=Di.mp hR;refine Pw (λ{a b} ha hb hab=>?_) h1;intro q;have ea:=(mem a.1 a.2).mp ha;have eb:=(mem b.1 b.2).mp hb;rw[<- q,ea] at eb;simp at eb
  lia
 have pm:(live.map (·.2)).Perm (Dd hs.size):=by
  rw[ON ndl Xm];intro k;rw[Aw,Dt,<- hl];constructor
  .rintro⟨⟨j,k'⟩,h1,rfl⟩
   exact(Bw.mp ((mem j k').mp h1)).1
  .intro hk
   exact⟨(us[k],k),(mem _ _).mpr (An hk),rfl⟩
 have hmem:∀ j,j∈live.map (·.1)↔j∈us:=λj=>by
  rw[Aw];constructor
  .rintro⟨⟨j',k⟩,h1,rfl⟩
   exact Cu ((mem _ _).mp h1)
  .intro h1
   obtain⟨k,hk,e⟩:=Cn.mp h1;exact⟨(j,k),(mem _ _).mpr (by rw[An hk,e]),rfl⟩
 refine⟨{ mask,place:=(live.map (·.1)).toArray,dummies:=#[],finger,led,moves,plain },(live.map (·.2)).toArray,?_,rfl,rfl,rfl,⟨?_,rfl⟩,?_,λx hx=>?_,?_,λi k h e1 e2=>?_⟩
 .unfold Ue
  rw[e,<- hlv];rfl
 .exact hR
 .have:=pm.length_eq
  simp at this ⊢;exact this
 .exact O.le x ((hmem x).mp hx)
 .exact pm
 .have e1':(live.map (·.2))[i]? = Ab k:=by simpa using e1
  rw[Du] at e1';cases hz:live[i]? with
  |none=>rw[hz] at e1';cases e1'
  |some jk =>
   rw[hz] at e1';simp at e1';have hin:=Cu hz;have hu:=(mem jk.1 jk.2).mp hin;obtain⟨n,w1,w2⟩:=hL k h (by rw[Bk];exact e2)
   rw[<- e1'] at w1;rw[hu] at w1;refine⟨n,?_,λm hm=>?_⟩
   .rw[<- w1]
    simp[hz]
   .have:=(hmem _).mpr (w2 m hm)
    simpa using this
theorem B0 {t:Ex}{hs:Ay Ak}{w:Ai}:SetTable.relaid t hs w=Ue (Ez w-1) t.finger (t.movedTo (Ez w-1)) t.led t.plain hs:=rfl
end _S
namespace _S
open PySem
open PySem.SetTable (Probe leap runEnd turns bits)
structure Set0 {K:Type}(is:K->Ac->Prop)(hash:K->Ak)(es:Ay (Ak × Ac))(seen:Aa K):Prop where
 good:∀ e∈es.toList,∃ k,e.1=hash k/\is k e.2
 nd:es.toList.Pairwise λa b=>∀ k,is k a.2->¬ is k b.2
 mem:∀ k,k∈seen↔∃ e∈es.toList,is k e.2
section
variable {K:Type}{is:K->Ac->Prop}{hash:K->Ak}{es es':Ay (Ak × Ac)}{seen seen':Aa K}
theorem Set0.perm (Z:Set0 is hash es seen)(p:es'.toList.Perm es.toList):Set0 is hash es' seen:=
 ⟨λe he=>Z.good e (p.mem_iff.mp he),(p.pairwise_iff λ{x y} h k hy hx=>h k hx hy).mpr Z.nd,λk=>(Z.mem k).trans ⟨λ⟨e,he,q⟩=>⟨e,p.mem_iff.mpr he,q⟩,λ⟨e,he,q⟩=>⟨e,p.mem_iff.mp he,q⟩⟩⟩
theorem Set0.nil:Set0 is hash #[] []:=⟨λe he=>by simp at he,by simp,λk=>by simp⟩
theorem Set0.push (Z:Set0 is hash es seen)(inj:∀ {k k':K} {v:Ac},is k v->is k' v->k=k'){k:K}{x:Ac}(hk:is k x)(hn:k ∉ seen)(p:es'.toList.Perm (es.toList++[(hash k,x)])):Set0 is hash es' (k::seen):=by
 refine Set0.perm (es:=es.push (hash k,x)) ⟨λe he=>?_,?_,λk'=>?_⟩ (by simpa using p)
 .rw[Ei] at he
  rcases Ce.mp he with he|he
  .exact Z.good e he
  .simp at he;subst he;exact⟨k,rfl,hk⟩
 .rw[Ei,Ds]
  refine⟨Z.nd,by simp,λa ha b hb k' h1 h2=>?_⟩
  simp at hb;subst hb;have:=inj hk h2;subst this;exact hn ((Z.mem k).mpr ⟨a,ha,h1⟩)
 .rw[Ax,Z.mem,Ei]
  constructor
  .rintro (rfl|⟨e,he,q⟩)
   .exact⟨(hash k',x),by simp,hk⟩
   .exact⟨e,Cj _ he,q⟩
  .rintro⟨e,he,q⟩
   rcases Ce.mp he with he|he
   .exact .inr ⟨e,he,q⟩
   .simp at he;subst he;exact .inl (inj q hk)
theorem Set0.again (Z:Set0 is hash es seen){k:K}(hk:k∈seen):Set0 is hash es (k::seen):=
 ⟨Z.good,Z.nd,λk'=>by rw[Ax,Z.mem];exact⟨λh=>h.elim (λe=>by subst e;exact(Z.mem _).mp hk) id,.inr⟩⟩
end
section
open Classical in
theorem bR {K:Type}{is:K->Ac->Prop}:∀ (L:Aa (Ak × Ac)) (U:Aa K),L.Pairwise (λa b=>∀ k,is k a.2->¬ is k b.2)->(∀ e∈L,∃ k∈U,is k e.2)->L.length<=U.length
 |[],U,_,_=>Gj _
 |e::L,U,nd,h=>by
  rw[Ch] at nd;obtain⟨k0,hk0,q0⟩:=h e (by simp)
  have ih:=bR L (U.erase k0) nd.2 λe' he'=>by
   obtain⟨k,hk,q⟩:=h e' (by simp[he'])
   have:k≠k0:=λz=>nd.1 e' he' k0 q0 (z▸q);exact⟨k,(Ny this).mpr hk,q⟩
  rw[Lu hk0] at ih;have:0<U.length:=Rp hk0;rw[Bd]
  lia
open Classical in
theorem Set0.few {K:Type}{is:K->Ac->Prop}{hash:K->Ak}{es:Ay (Ak × Ac)}{seen U:Aa K}{k:K}(Z:Set0 is hash es seen)(hU:∀ k'∈seen,k'∈U)(hk:k∈U)(hn:k ∉ seen):es.size<U.length:=by
 have:=bR es.toList (U.erase k) Z.nd λe he=>by
  obtain⟨k',_,q⟩:=Z.good e he;have hs:=(Z.mem k').mpr ⟨e,he,q⟩;have hne:k'≠k:=λz=>hn (z▸hs);exact⟨k',(Ny hne).mpr (hU k' hs),q⟩
 rw[Lu hk,Bg] at this;have:0<U.length:=Rp hk
 lia
end
structure TabT (t:Ex)(es:Ay (Ak × Ac)):Prop where
 tb:Tb t
 msk:Msk t.mask
 size:t.place.size=es.size
 le:∀ x∈t.place.toList,x<=t.mask
 few:es.size*5<t.mask*3
 way:∀ (i:Ai) (e:Ak × Ac),es[i]? = Ab e->∃ n,t.place[i]? = Ab (it t.mask n (st t.mask e.1)).j/\Way t (st t.mask e.1) n
 plain:t.plain=true
theorem TabT.fits {t:Ex}{es:Ay (Ak × Ac)}(T:TabT t es):t.fits es.size=true:=by
 have h1:=T.size;have h2:=T.few;have h3:t.fill=es.size:=by unfold Ky;rw[T.tb.dm,h1];rfl
 unfold Ug;rw[h3,h1];rcases T.msk with h|h|h|h|h <;> rw[h] at h2 ⊢ <;> simp <;> lia
theorem TabT.gap {t:Ex}{es:Ay (Ak × Ac)}(T:TabT t es):∃ e,e<=t.mask/\e ∉ t.place.toList:=by
 apply _S.gap;rw[Bg,T.size];have h2:=T.few;rcases T.msk with h|h|h|h|h <;> rw[h] at h2 ⊢ <;> lia
theorem TabT.odd {t:Ex}{es:Ay (Ak × Ac)}(T:TabT t es):t.gaveWay=false:=by
 unfold SetTable.gaveWay;rcases T.msk with h|h|h|h|h <;> rw[h] <;> rfl
theorem TabT.put {t:Ex}{es:Ay (Ak × Ac)}(T:TabT t es){h:Ak}{x:Ac}{n:Ai}(w:Way t (st t.mask h) n)(hn:(it t.mask n (st t.mask h)).j ∉ t.place.toList)(hle:(it t.mask n (st t.mask h)).j<=t.mask) :
  let es':=Bz es (t.put (it t.mask n (st t.mask h)).j).2 (h,x)
  Tb (t.put (it t.mask n (st t.mask h)).j).1/\(t.put (it t.mask n (st t.mask h)).j).1.place.size=es'.size/\(∀ y∈(t.put (it t.mask n (st t.mask h)).j).1.place.toList,y<=t.mask) /\
  (∀ (i:Ai) (e:Ak × Ac),es'[i]? = Ab e->∃ m,(t.put (it t.mask n (st t.mask h)).j).1.place[i]? = Ab (it t.mask m (st t.mask e.1)).j/\Way (t.put (it t.mask n (st t.mask h)).j).1 (st t.mask e.1) m):=by
 generalize hj:(it t.mask n (st t.mask h)).j=j at *;have pm:∀ y,y∈(t.put j).1.place.toList↔y=j\/y∈t.place.toList:=λy=>by
  show y∈(Bz t.place (Cd t.place j) j).toList↔_;rw[(Im _ _ _).mem_iff];simp[or_comm]
 have hb:Cd t.place j<=t.place.size:=(vY T.tb.rs j).le;have wm:∀ {p:Ms} {m:Ai},Way t p m->Way (t.put j).1 p m:=λ{p m} w q hq=>(pm _).mpr (.inr (w q hq));refine⟨NG T.tb hn,?_,λy hy=>?_,λi e he=>?_⟩
 .show (Bz t.place _ j).size=(Bz es _ (h,x)).size
  rw[yZ,yZ,T.size]
 .rcases (pm y).mp hy with rfl|hy
  .exact hle
  .exact T.le y hy
 .have he':(if i<Cd t.place j then es[i]? else if i=Cd t.place j then Ab (h,x) else es[i-1]?)=Ab e:=by
   rw[<- fM es (by rw[<- T.size];exact hb)]
   exact he
  have pl:(t.put j).1.place[i]? = if i<Cd t.place j then t.place[i]? else if i=Cd t.place j then Ab j else t.place[i-1]?:=fM t.place hb j i
  rw[pl];by_cases h1:i<Cd t.place j
  .rw[Bp h1] at he' ⊢
   obtain⟨m,q1,q2⟩:=T.way i e he';exact⟨m,q1,wm q2⟩
  .rw[Bj h1] at he' ⊢
   by_cases h2:i=Cd t.place j
   .rw[Bp h2] at he' ⊢
    cases he';exact⟨n,by rw[hj],wm w⟩
   .rw[Bj h2] at he' ⊢
    obtain⟨m,q1,q2⟩:=T.way _ e he';exact⟨m,q1,wm q2⟩
theorem VV {mask:Ai}(p:Ms)(hp:p.j+p.more<=mask):∀ n,(it mask n p).j+(it mask n p).more<=mask
 |0=>hp
 |n+1=>by
  rw[pK];have ih:=VV p hp n;unfold adv
  split
  .show (it mask n p).j+1+((it mask n p).more-1)<=mask
   lia
  .show (leap mask _ _).1+(He mask (leap mask _ _).1-(leap mask _ _).1)<=mask
   have h1:=tZ (tH mask (it mask n p).i (it mask n p).perturb);have h2:=n6 mask (leap mask (it mask n p).i (it mask n p).perturb).1
   lia
theorem UI (mask:Ai)(h:Ak)(n:Ai):(it mask n (st mask h)).j<=mask:=by
 have h0:bits h % (mask+1)<=mask:=Ka (Oq _ (Me _));have:=VV (mask:=mask) (st mask h) (by
  show bits h % (mask+1)+(He mask (bits h % (mask+1))-bits h % (mask+1))<=mask;have h1:=tZ h0;have h2:=n6 mask (bits h % (mask+1))
  lia) n
 lia
theorem b8 {t:Ex}{es:Ay (Ak × Ac)}(hM:Msk t.mask)(hp:t.plain=true)(h1:t.place.size=es.size)(h2:es.size<=1001)(hf:t.tooFull=true)(hd:t.dummies=#[])(h3:(es.size-1)*5<t.mask*3)(h4:0<es.size) :
  Ez (Gw es.size)<=2048/\∃ t' qP,t.relaid (es.map (·.1)) (Gw es.size)=Ab (t',qP)/\t'.led=t.led/\(qP.filterMap (es[·]?)).toList.Perm es.toList/\TabT t' (qP.filterMap (es[·]?))/\qP.toList.Perm (Dd es.size):=by
 have hfill:t.fill=es.size:=by unfold Ky;rw[hd,h1];rfl
 have hful:t.mask*3<=es.size*5:=by
  unfold Ql at hf;rw[hfill] at hf;simpa using hf
 have hcase:(es.size=5/\Ez (Gw es.size)=32)\/(es.size=19/\Ez (Gw es.size)=128)\/(es.size=77/\Ez (Gw es.size)=512)\/(es.size=307/\Ez (Gw es.size)=2048):=by
  rcases hM with h|h|h|h|h <;> rw[h] at hful h3
  .have:es.size=5:=by lia
   exact .inl ⟨this,by rw[this];decide⟩
  .have:es.size=19:=by lia
   exact .inr (.inl ⟨this,by rw[this];decide⟩)
  .have:es.size=77:=by lia
   exact .inr (.inr (.inl ⟨this,by rw[this];decide⟩))
  .have:es.size=307:=by lia
   exact .inr (.inr (.inr ⟨this,by rw[this];decide⟩))
  .lia
 have hM':Msk (Ez (Gw es.size)-1):=by
  rcases hcase with⟨_,h⟩|⟨_,h⟩|⟨_,h⟩|⟨_,h⟩ <;> rw[h]
  .exact .inr (.inl rfl)
  .exact .inr (.inr (.inl rfl))
  .exact .inr (.inr (.inr (.inl rfl)))
  .exact .inr (.inr (.inr (.inr rfl)))
 have hle:(es.map (·.1)).size<=Ez (Gw es.size)-1:=by
  rw[Ta];rcases hcase with⟨h5,h⟩|⟨h5,h⟩|⟨h5,h⟩|⟨h5,h⟩ <;> rw[h,h5] <;> lia
 obtain⟨t',qP,e,l1,l2,L⟩:=QF hM' (es.map (·.1)) hle t.finger (t.movedTo (Ez (Gw es.size)-1)) t.led t.plain
 have hosz:qP.size=es.size:=by
  have:=L.perm.length_eq;simpa using this
 have hord:∀ i k,qP[i]? = Ab k->k<es.size:=λi k q=>by
  have:k∈Dd (es.map (·.1)).size:=L.perm.mem_iff.mp (Cu (by rw[Bk];exact q))
  simpa using this
 have hfm:(qP.filterMap (es[·]?)).toList=qP.toList.map λk=>es.toList.getD k (0,.none):=by
  rw[Array.toList_filterMap];have:∀ l:Aa Ai,(∀ k∈l,k<es.size)->l.filterMap (es[·]?)=l.map λk=>es.toList.getD k (0,.none):=by
   intro l
   induction l with
   |nil=>intro _;rfl
   |cons a l ih =>
    intro hl;have ha:=hl a (by simp)
    rw[Fz,De,ih λk hk=>hl k (by simp[hk])]
    rw[Ec ha];simp[ha]
  refine this _ λk hk=>?_;obtain⟨i,hi,q⟩:=Cn.mp hk;exact hord i k (by rw[<- Bk,An hi,q])
 have hperm:(qP.filterMap (es[·]?)).toList.Perm es.toList:=by
  rw[hfm];have p1:=L.perm.map λk=>es.toList.getD k (0,Dn);refine p1.trans ?_;have e2:(Dd (es.map (·.1)).size).map (λk=>es.toList.getD k (0,Dn))=es.toList:=by
   apply Ks
   .simp
   .intro i a1 a2
    have a3:i<es.size:=by simpa using a2
    simp[a3]
  rw[e2]
 have hsz:(qP.filterMap (es[·]?)).size=es.size:=by rw[<- Bg,hperm.length_eq,Bg]
 have hentry:∀ i,(qP.filterMap (es[·]?))[i]? = (qP[i]?).map λk=>es.toList.getD k (0,.none):=λi=>by
  rw[<- Bk,hfm,Du,Bk]
 refine⟨by rcases hcase with⟨_,h⟩|⟨_,h⟩|⟨_,h⟩|⟨_,h⟩ <;> rw[h] <;> decide,t',qP,by rw[B0];exact e,l1,hperm,⟨L.tb,by rw[L.msk];exact hM',by rw[L.size,hsz,Ta],by rw[L.msk];exact L.le,?_,λi en q=>?_,by rw[l2];exact hp⟩,by have:=L.perm;rwa [Ta] at this⟩
 .rw[hsz,L.msk]
  rcases hcase with⟨h5,h⟩|⟨h5,h⟩|⟨h5,h⟩|⟨h5,h⟩ <;> rw[h,h5] <;> lia
 .rw[hentry] at q
  cases hz:qP[i]? with
  |none=>rw[hz] at q;cases q
  |some k =>
   rw[hz] at q;simp only[Rq,Option.some.injEq] at q;have hk:=hord i k hz;have:(es.map (·.1))[k]? = Ab en.1:=by
    rw[Array.getElem?_map,Ec hk];rw[<- q];simp[hk]
   rw[L.msk];exact L.way i k en.1 hz this
end _S
namespace _S
open PySem
open PySem.SetTable (Probe leap runEnd turns bits)
variable {Q:Ar->Ag->Prop}
def Sup (h0 h:Br):Prop:=∀ b o,h0.get? b=Ab o->h.get? b=Ab o
def isT (prog:Be)(w:Bx)(h0:Br)(ks:Aa Ak)(v:Ac):Prop:=∃ a,v=.ref a/\Os (Bf prog w) h0 ks a
section
variable {prog:Be}{w:Bx}{h0:Br}
theorem isT.inj {x y:Aa Ak}{v:Ac}(hx:isT prog w h0 x v)(hy:isT prog w h0 y v):x=y:=by
 obtain⟨a,rfl,h1⟩:=hx;obtain⟨b,e,h2⟩:=hy;cases e;exact h1.inj h2
theorem vF {h:Br}{ks:Aa Ak}{a:Af}(hS:Sup h0 h)(hx:Os (Bf prog w) h0 ks a):Os (Bf prog w) h ks a:=by
 obtain⟨o,items,n,ho,r⟩:=hx;exact⟨o,items,n,hS _ _ ho,r⟩
variable {A:Bv}{E:Ac->Ag->Prop}{s:Ag}
theorem SJ {k:Aa Ak}{v:Ac}{Q:Ak->Ag->Prop}(hu:A.units<Eg)(hS:Sup h0 s.heap)(hx:isT prog w h0 k v)(h:Q (Bu (Bf prog w) k) { s with toks:=s.toks+(k.length+1) }) : Ap (Au prog w) A (pyHash v) Q E s:=by
 obtain⟨a,rfl,hx⟩:=hx;exact wpAny_pyHash_tuple hu (vF hS hx) h
theorem eqT {k k':Aa Ak}{v v':Ac}(hu:A.units<Eg)(hS:Sup h0 s.heap)(hx:isT prog w h0 k v)(hy:isT prog w h0 k' v')(h:Q (decide (k=k')) s):Ap (Au prog w) A (eqBool v v') Q E s:=by
 obtain⟨a,rfl,hx⟩:=hx;obtain⟨b,rfl,hy⟩:=hy;exact wpAny_eqBool_tuple hu (vF hS hx) (vF hS hy) h
theorem fQ:∀ {ks:Aa Ak} {vs:Aa Ac},ItemsAre (Bf prog w) ks vs->∀ v∈vs,∃ i t,v=.int i t:=by
 intro ks vs h
 induction h with
 |nil=>intro v hv;simp at hv
 |@cons k v' ks vs h1 _ ih =>
  intro v hv;rcases Ax.mp hv with rfl|hv
  .cases v <;> first|exact⟨_,_,rfl⟩|exact absurd h1 (by rintro⟨⟩)
  .exact ih v hv
theorem HA {k:Aa Ak}{v:Ac}(hS:Sup h0 s.heap)(hx:isT prog w h0 k v)(h:Q true s):Ap (Au prog w) A (OO 8 v) Q E s:=by
 obtain⟨a,rfl,hx⟩:=hx;have hx:=vF hS hx;have hT:=hx.typeIs;obtain⟨o,items,n,ho,_,hd,hi⟩:=hx;unfold OO;refine Ad (Yg hT F.slot_tuple_hash.lookup ?_);show Ap _ _ (Zo (.ref a) >>= _) Q E s;refine Ad (Gv ho hd ?_);refine Ad ?_;show Ap _ _ (forIn items _ _) _ _ s;rw[<- Vk];refine Kn _ (λqJ r s'=>r.1=none/\s'=s/\∀ v∈qJ,∃ i t,v=.int i t) _ ?_ ?_ _ _ ⟨rfl,rfl,fQ hi⟩
 .rintro v qJ r s' ⟨hr,rfl,hall⟩
  obtain⟨i,t,rfl⟩:=hall v Dl;show Ap _ _ (OO 7 (.int i t) >>= _) _ _ _;rw[show OO 7 (.int i t)=pure true from rfl]
  refine Ad (Al ?_);simp only[Js,By,Ef];exact Al ⟨rfl,rfl,λu hu'=>hall u (Cg _ hu')⟩
 .rintro⟨r1,r2⟩ s' ⟨hr,rfl,_⟩
  simp only at hr;subst hr;exact Al h
theorem oG {k:Aa Ak}{v:Ac}(hS:Sup h0 s.heap)(hx:isT prog w h0 k v)(h:Q false s):Ap (Au prog w) A (Mt 8 v) Q E s:=by
 obtain⟨a,rfl,hx⟩:=hx;have hx:=vF hS hx;have hT:=hx.typeIs;obtain⟨o,items,n,ho,_,hd,hi⟩:=hx;unfold Mt;refine Ad (Kk hT ?_);dsimp only;refine Ad (Al ?_);simp only[Js,By,Ef];refine Ad (Gv ho hd ?_);refine Ad ?_;show Ap _ _ (forIn items _ _) _ _ s;rw[<- Vk];refine Kn _ (λqJ r s'=>r.1=none/\s'=s/\∀ v∈qJ,∃ i t,v=.int i t) _ ?_ ?_ _ _ ⟨rfl,rfl,fQ hi⟩
 .rintro v qJ r s' ⟨hr,rfl,hall⟩
  obtain⟨i,t,rfl⟩:=hall v Dl;show Ap _ _ (Mt 7 (.int i t) >>= _) _ _ _;rw[show Mt 7 (.int i t)=pure false from rfl]
  refine Ad (Al ?_);simp only[By,Ef];exact Al ⟨rfl,rfl,λu hu'=>hall u (Cg _ hu')⟩
 .rintro⟨r1,r2⟩ s' ⟨hr,rfl,_⟩
  simp only at hr;subst hr;exact Al h
theorem ZH {k:Aa Ak}{v:Ac}(hS:Sup h0 s.heap)(hx:isT prog w h0 k v)(h:Q true s):Ap (Au prog w) A (eqIsQuiet 8 v) Q E s:=by
 obtain⟨a,rfl,hx⟩:=hx;exact wpAny_eqIsQuiet_tuple (vF hS hx) h
theorem i6 {α:Type}{c:Prop}[IQ c]{M:Ni}{t u:Jw α}{Q:α->Ag->Prop}(h1:c->Ap M A t Q E s)(h2:¬ c->Ap M A u Q E s):Ap M A (if c then t else u) Q E s:=by
 by_cases h:c
 .rw[Bp h];exact h1 h
 .rw[Bj h];exact h2 h
theorem RX {k:Aa Ak}{x:Ac}{ys:Aa Ac}(hS:Sup h0 s.heap)(hx:isT prog w h0 k x)(hy:∀ y∈ys,∃ k',isT prog w h0 k' y)(h:Q false s):Ap (Au prog w) A (Wt x ys) Q E s:=by
 unfold Wt;refine Ad ?_;refine Kn _ (λqJ r s'=>r.1=none/\s'=s/\∀ v∈qJ,∃ k',isT prog w h0 k' v) _ ?_ ?_ _ _ ⟨rfl,rfl,hy⟩
 .rintro v qJ r s' ⟨hr,rfl,hall⟩
  obtain⟨k',hv⟩:=hall v Dl;have hrest:∀ u∈qJ,∃ k',isT prog w h0 k' u:=λu hu'=>hall u (Cg _ hu');dsimp only;refine i6 (λ_=>Al ⟨rfl,rfl,hrest⟩) λ_=>?_
  .refine Ad (ZH hS hx ?_)
   simp only[Js,By,Ef];refine Ad (ZH hS hv ?_);simp only[Js,By,Ef];refine Ad (oG hS hx ?_);simp only[By,Ef];refine Ad (oG hS hv ?_);simp only[By,Ef];exact Al ⟨rfl,rfl,hrest⟩
 .rintro⟨r1,r2⟩ s' ⟨hr,rfl,_⟩
  simp only at hr;subst hr;exact Al h
theorem RW {k:Aa Ak}{v:Ac}(hx:isT prog w h0 k v)(h:Q true s):Ap (Au prog w) A (isSame v v) Q E s:=by
 obtain⟨a,rfl,hx⟩:=hx;unfold isSame;simp only[Gr,Dx];exact Al h
theorem VQ {k:Aa Ak}{x:Ac}{S:Af}{o:Ci}{es:Ay (Ak × Ac)}{ep:Ai}{t:Ex}{seen:Aa (Aa Ak)}(hu:A.units<Eg)(hS:Sup h0 s.heap)(ho:s.heap.get? S=Ab o)(hd:o.data=.set es ep t)
  (T:TabT t es) (Z:Set0 (isT prog w h0) (Bu (Bf prog w)) es seen) (hx:isT prog w h0 k x) (N:Ai) (hNw:Way t (st t.mask (Bu (Bf prog w) k)) N)
  (hNe:(it t.mask N (st t.mask (Bu (Bf prog w) k))).j ∉ t.place.toList) (hNf:N<10*turns t.mask) {Q:SetFound->Ag->Prop}
  (h1:k∈seen->Q (.there none) s) (h2:k ∉ seen->Q (.free (it t.mask N (st t.mask (Bu (Bf prog w) k))).j false) s) :
  ∀ (fuel n:Ai) (stand:Am Ms),stand.getD (t.probeStart (Bu (Bf prog w) k))=it t.mask n (st t.mask (Bu (Bf prog w) k))->n<=N->N-n<fuel ->
   (∀ (m i:Ai) (e:Ak × Ac),m<n->t.place[i]? = Ab (it t.mask m (st t.mask (Bu (Bf prog w) k))).j->es[i]? = Ab e->¬ isT prog w h0 k e.2) ->
   Ap (Au prog w) A (Pi S x (Bu (Bf prog w) k) true fuel stand) Q E s
 |0,n,stand,_,_,hf,_=>by lia
 |fuel+1,n,stand,hst,hn,hf,hq=>by
  unfold Pi;refine Ad (Fp ho hd T.fits ?_);dsimp only;rw[T.odd];simp only[By,Ef];rw[hst];generalize hg:t.probe _ (Bu (Bf prog w) k) (it t.mask n (st t.mask (Bu (Bf prog w) k)))=r;obtain⟨H,hH,hg⟩:∃ H:Ai->Ak,(∀ i,H i=(es[i]?.map (·.1)).getD 0)/\t.probe H (Bu (Bf prog w) k) (it t.mask n (st t.mask (Bu (Bf prog w) k)))=r:=⟨_,λi=>rfl,hg⟩
  have itn:∀ m,it t.mask m (it t.mask n (st t.mask (Bu (Bf prog w) k)))=it t.mask (n+m) (st t.mask (Bu (Bf prog w) k)):=λm=>(fP _ _ _ _).symm;have gm:Meets t H (Bu (Bf prog w) k) (it t.mask n (st t.mask (Bu (Bf prog w) k))) (10*turns t.mask) r:=by
   rw[<- hg];refine jX T.tb H _ _ _ (by rw[bQ];rfl) ⟨N-n,by lia,?_⟩
   rw[itn,show n+(N-n)=N by lia]
   exact hNe
  have miss:∀ j:Ai,(∀ m i:Ai,m<j->t.place[i]? = Ab (it t.mask m (it t.mask n (st t.mask (Bu (Bf prog w) k)))).j->H i≠Bu (Bf prog w) k) ->
    ∀ (m i:Ai) (e:Ak × Ac),m<n+j->t.place[i]? = Ab (it t.mask m (st t.mask (Bu (Bf prog w) k))).j->es[i]? = Ab e->¬ isT prog w h0 k e.2:=λj qj m i e hm ei ee hk=>by
   by_cases hmn:m<n
   .exact hq m i e hmn ei ee hk
   .refine qj (m-n) i (by lia) (by rw[itn,show n+(m-n)=m by lia];exact ei) ?_
    rw[hH,ee];obtain⟨k',e1,e2⟩:=Z.good e (Cu (by rw[Bk];exact ee))
    rw[isT.inj hk e2];simpa using e1
  cases gm with
  |emp j hj w' e' q =>
   rw[itn] at e';have hjN:n+j=N:=by
    rcases Wu (n+j) N with h|h|h
    .exact absurd (hNw _ h) e'
    .exact h
    .have:=w' (N-n) (by lia)
     rw[itn,show n+(N-n)=N by lia] at this
     exact absurd this hNe
   dsimp only;rw[itn,hjN];refine Al (h2 λhk=>?_);obtain⟨e,he,hke⟩:=(Z.mem k).mp hk;obtain⟨i,hi,ei⟩:=Cn.mp he;have ei':es[i]? = Ab e:=by rw[<- Bk,An hi,ei]
   obtain⟨m,w1,w2⟩:=T.way i e ei';obtain⟨k',g1,g2⟩:=Z.good e he;have:=isT.inj hke g2;subst this;rw[g1] at w1 w2;have hmN:m<N:=by
    apply Fk;intro hc;by_cases hmN:m=N
    .subst hmN
     exact hNe (Cu (by rw[Bk];exact w1))
    .exact hNe (w2 N (by lia))
   exact miss j q m i e (by lia) w1 ei' hke
  |cand j i hj w' e' hh q =>
   rw[itn] at e';have hi:i<es.size:=by
    rw[<- T.size];exact(Dv.mp e').1
   have ei:es[i]? = Ab es[i]:=Ec hi;have hjN:n+j<N:=by
    rcases Wu (n+j) N with h|h|h
    .exact h
    .rw[h] at e'
     exact absurd (Cu (by rw[Bk];exact e')) hNe
    .have:=w' (N-n) (by lia)
     rw[itn,show n+(N-n)=N by lia] at this
     exact absurd this hNe
   obtain⟨k',g1,g2⟩:=Z.good es[i] (by simp)
   dsimp only;have main:Ap (Au prog w) A (do
     let Ab (_,y):=es[i]?|unsupported "internal:set-entry"
     let equal <- holding [y] (eqBool y x)
     let (es',_,t') <- Uv S
     if true&&equal then return .there none
     let Ab same:=t'.sameMemory t.moves t.mask|unsupported "set.changed-during-lookup:is-the-new-block-at-the-old-address"
     let still <- match (if same then t'.slot (it t.mask j (it t.mask n (st t.mask (Bu (Bf prog w) k)))).j else .empty) with
      |.live i'=>match es'[i']? with
       |some (_,y')=>do pure (if <- isSame y' y then Ab i' else none)
       |none=>pure none
      |_=>pure none
     match still with
     |none=>rule "set.search.anew";Pi S x (Bu (Bf prog w) k) true fuel none
     |some i'=>if equal then return .there (Ab i') else Pi S x (Bu (Bf prog w) k) true fuel (Ab (it t.mask (j+1) (it t.mask n (st t.mask (Bu (Bf prog w) k)))))) Q E s:=by
    rw[ei];dsimp only;refine Ad (Em (eqT hu hS g2 hx ?_));refine Ad (Fp ho hd T.fits ?_);by_cases hkk:k'=k
    .subst hkk
     simp only[Jf,Bool.and_self,Dx];exact Al (h1 ((Z.mem k').mpr ⟨es[i],by simp,g2⟩))
    .simp only[hkk,Ji,O9,By,Ef]
     have hm:t.sameMemory t.moves t.mask=Ab true:=by simp[SetTable.sameMemory]
     rw[hm];dsimp only;rw[itn,lC T.tb e'];simp only[Dx,ei];refine Ad (RW g2 ?_);simp only[Dx];refine Ad (Al ?_);dsimp only;refine VQ hu hS ho hd T Z hx N hNw hNe hNf h1 h2 fuel (n+j+1) _ ?_ (by lia) (by lia) λm i' e hm ei' ee hk=>?_
     .rw[Qg,itn]
      rfl
     .by_cases hmj:m<n+j
      .exact miss j q m i' e hmj ei' ee hk
      .have:m=n+j:=by lia
       subst this;have:=ZO T.tb.rs ei' e';subst this;rw[ei] at ee;cases ee;exact hkk (isT.inj g2 hk)
   refine i6 (λ_=>?_) λ_=>?_
   .refine Ad (RX hS hx (λy hy=>?_) ?_)
    .obtain⟨e,he,rfl⟩:=Aw.mp hy
     have:e∈es.toList:=by
      have:=(Nw.mp he);exact Nw.mpr (Array.mem_filter.mp this).1
     obtain⟨k2,_,g⟩:=Z.good e this;exact⟨k2,g⟩
    .simp only[By,Ef]
     exact main
   .exact main
end
end _S
namespace _S
open PySem
open PySem.SetTable (Probe leap runEnd turns bits)
@[reducible] def setO (es:Ay (Ak × Ac))(ep:Ai)(t:Ex):Ci:={ cls:=.type "set",dict:=none,data:=.set es ep t }
theorem pO {h:Br}{S:Af}{es es':Ay (Ak × Ac)}{ep:Ai}{t t':Ex}(ho:h.get? S=Ab (setO es ep t)):(h.update S (Yu es' t')).get? S=Ab (setO es' (ep+1) t'):=Fo _ ho rfl
structure SetK {K:Type}(is:K->Ac->Prop)(hash:K->Ak)(S:Af)(led:Ar)(V:Aa Ac)(seen:Aa K)(h:Br):Prop where
 ex:∃ es ep t,h.get? S=Ab (setO es ep t)/\Set0 is hash es seen/\TabT t es/\t.led=led/\∀ e∈es.toList,e.2∈V
section
variable {prog:Be}{w:Bx}{h0:Br}{A:Bv}{E:Ac->Ag->Prop}{s:Ag}{S:Af}{led:Ar}{V:Aa Ac}
theorem YU (a:Af)(wanted:Ai):setRelay a wanted=(do
  let (es,_,t) <- Uv a
  if Ez wanted>sizeLine then unsupported "set:memory"
  let (es,t) <- (do
   let Ab (t,qP):=t.relaid (es.map (·.1)) wanted|unsupported "internal:set-table-without-room"
   let es':=qP.filterMap (es[·]?)
   if es'.size != es.size then unsupported "internal:set-table-lost-an-element"
   pure (es',t))
  storeSet a es t):=rfl
theorem H0 {seen:Aa (Aa Ak)}{k:Aa Ak}{x:Ac}{Q:Ar->Ag->Prop}(hu:A.units<Eg)(hS:Sup h0 s.heap)(Z:SetK (isT prog w h0) (Bu (Bf prog w)) S led V seen s.heap)(hx:isT prog w h0 k x)(hV:x∈V){U:Aa (Aa Ak)}(hU:U.length<=1000)(hU1:∀ k'∈seen,k'∈U)(hU2:k∈U)
  (h:∀ (b:Ar) (h':Br) (tk:Ai),s.toks<=tk->Ep S s.heap h'->SetK (isT prog w h0) (Bu (Bf prog w)) S led V (k::seen) h'->Q b { s with heap:=h',toks:=tk }) : Ap (Au prog w) A (Uw S x) Q E s:=by
 obtain⟨es,ep,t,ho,Z,T,hl,hm⟩:=Z;unfold Uw;refine Em (Ad (SJ hu hS hx ?_));unfold setAddHashed setAddHashedIn;refine Em (Ad (Fp (s:={ s with toks:=s.toks+(k.length+1) }) ho rfl T.fits ?_))
 dsimp only;have hsc:byScan x es=false:=by
  obtain⟨a,rfl,_⟩:=hx;rfl
 rw[hsc];simp only[By,Ef];obtain⟨e,he,hne⟩:=T.gap;have first:∃ N,Way t (st t.mask (Bu (Bf prog w) k)) N/\(it t.mask N (st t.mask (Bu (Bf prog w) k))).j ∉ t.place.toList/\N<10*turns t.mask:=by
  obtain⟨N,hN,eN⟩:=s9 T.msk (Bu (Bf prog w) k) he;have gm:=jX T.tb (λ_=>Bu (Bf prog w) k+1) (Bu (Bf prog w) k) (10*turns t.mask) (st t.mask (Bu (Bf prog w) k)) rfl ⟨N,hN,by rw[eN];exact hne⟩
  generalize Kb t _ _ _ _=r at gm;cases gm with
  |emp j hj w' e' q=>exact⟨j,w',e',hj⟩
  |cand j i hj w' e' hh q=>exact absurd hh (by lia)
 obtain⟨N,hNw,hNe,hNf⟩:=first
 have hNt:N<100000:=by
  have:turns t.mask<=2200:=by
   unfold turns;rcases T.msk with h|h|h|h|h <;> rw[h] <;> lia
  lia
 refine Ad (VQ (s:={ s with toks:=s.toks+(k.length+1) }) hu hS ho rfl T Z hx N hNw hNe hNf (λhk=>?_) (λhk=>?_) 100000 0 none rfl (by lia) (by lia) λm i e hm=>by lia)
 .exact Al (h _ s.heap _ (by lia) (Pd _ _) ⟨es,ep,t,ho,Z.again hk,T,hl,hm⟩)
 .have hle:es.size<1000:=Bc (Z.few hU1 hU2 hk) hU
  dsimp only;refine Ad (Fp (s:={ s with toks:=s.toks+(k.length+1) }) ho rfl T.fits ?_)
  obtain⟨p1,p2,p3,p4⟩:=T.put (h:=Bu (Bf prog w) k) (x:=x) hNw hNe (UI _ _ _);generalize hj:(it t.mask N (st t.mask (Bu (Bf prog w) k))).j=j at *;have m1:(t.put j).1.mask=t.mask:=rfl;have m2:(t.put j).1.plain=true:=T.plain;have m3:(t.put j).1.led=led:=hl;generalize hp:t.put j=tp at *;obtain⟨t1,p⟩:=tp;dsimp only at p1 p2 p3 p4 m1 m2 m3 ⊢;rw[m2];simp only[Dx];refine Ad (HA (s:={ s with toks:=s.toks+(k.length+1) }) hS hx ?_)
  simp only[Dx,Tc,Hn];have hsz:(Bz es p (Bu (Bf prog w) k,x)).size=es.size+1:=yZ _ _ _;have hline:es.size+1<=sizeLine:=by rw[Fi];lia
  refine Ad (Mu (s:={ s with toks:=s.toks+(k.length+1) }) ho rfl ?_ (by rw[hsz];exact hline))
  have Z1:Set0 (isT prog w h0) (Bu (Bf prog w)) (Bz es p (Bu (Bf prog w) k,x)) (k::seen):=by
   refine Z.push (λa b=>isT.inj a b) hx hk ?_;have:=Im es p (Bu (Bf prog w) k,x);rw[Ei] at this;exact this
  have hm1:∀ e∈(Bz es p (Bu (Bf prog w) k,x)).toList,e.2∈V:=λe he=>by
   have:=(Im es p (Bu (Bf prog w) k,x)).mem_iff.mp he;rw[Ei] at this;rcases Ce.mp this with h1|h1
   .exact hm e h1
   .simp at h1;subst h1;exact hV
  have ho1:=pO (es':=Bz es p (Bu (Bf prog w) k,x)) (t':=t1) ho;have sb1:=Hb s.heap S (Yu (Bz es p (Bu (Bf prog w) k,x)) t1);have hfit:t1.fits (Bz es p (Bu (Bf prog w) k,x)).size=true:=by
   have h3:t1.fill=es.size+1:=by unfold Ky;rw[p1.dm,p2,hsz];rfl
   have h2:=T.few;unfold Ug;rw[h3,p2,hsz,m1];rcases T.msk with h|h|h|h|h <;> rw[h] at h2 ⊢ <;> simp <;> lia
  refine i6 (λhf=>?_) λhf=>?_
  .have hM1:Msk t1.mask:=by rw[m1];exact T.msk
   have h3:((Bz es p (Bu (Bf prog w) k,x)).size-1)*5<t1.mask*3:=by rw[hsz,m1];exact T.few
   obtain⟨q1,t2,qP,q2,q3,q4,q5,_⟩:=b8 hM1 m2 p2 (by rw[hsz];lia) (by simpa using hf) p1.dm h3 (by rw[hsz];lia)
   rw[hsz] at q1 q2;rw[YU];refine Ad ?_;refine Ad (Fp (s:={ s with heap:=_,toks:=s.toks+(k.length+1) }) ho1 rfl hfit ?_)
   dsimp only;rw[Bj (by rw[Fi];lia)]
   refine Ad ?_;rw[q2];dsimp only;have hs2:(qP.filterMap λx_1=>(Bz es p (Bu (Bf prog w) k,x))[x_1]?).size=es.size+1:=by rw[<- Bg,q4.length_eq,Bg,hsz]
   rw[Bj (by rw[hs2,hsz];simp)]
   refine Al ?_;refine Mu (s:={ s with heap:=_,toks:=s.toks+(k.length+1) }) ho1 rfl ?_ (by rw[hs2];exact hline)
   refine Al (h _ _ _ (Hm _ _) (sb1.trans (Hb _ S _)) ⟨_,_,t2,pO ho1,Z1.perm q4,q5,by rw[q3];exact m3,λe he=>hm1 e (q4.mem_iff.mp he)⟩)
  .refine Al (h _ _ _ (Hm _ _) sb1 ⟨_,_,t1,ho1,Z1,⟨p1,by rw[m1];exact T.msk,p2,by rw[m1];exact p3,?_,by rw[m1];exact p4,m2⟩,m3,hm1⟩)
   have h3:t1.fill=es.size+1:=by unfold Ky;rw[p1.dm,p2,hsz];rfl
   unfold Ql at hf;rw[h3] at hf;rw[hsz];simpa using hf
end
end _S
namespace _S
open PySem
open PySem.SetTable (Probe leap runEnd turns bits)
variable {seen:Aa Ak}
def isI (prog:Be)(w:Bx)(k:Ak)(v:Ac):Prop:=(Bf prog w).is k v=true
section
variable {prog:Be}{w:Bx}{A:Bv}{E:Ac->Ag->Prop}{s:Ag}{S:Af}{led:Ar}{V:Aa Ac}
set_option tactic.hygienic true in
theorem wA {k:Ak}{v:Ac}(h:isI prog w k v):∃ t,v=.int k t:=by
 cases v <;> first|(exact absurd h (by rintro⟨⟩)) | skip
 rename_i i t;refine⟨t,?_⟩;have:i=k:=(Bf prog w).inj (.int i t) i k (Qm _ _ _ _) h;rw[this]
theorem dO {es:Ay (Ak × Ac)}(Z:Set0 (isI prog w) (Bf prog w).hash es seen):ElemsOf (Bf prog w) es.toList:=λe he=>by
 obtain⟨k,h1,h2⟩:=Z.good e he;refine⟨⟨k,h2,h1⟩,?_⟩;obtain⟨t,q⟩:=wA h2;rw[q];rfl
theorem EZ {k:Ak}{x:Ac}{Q:Ar->Ag->Prop}(Z:SetK (isI prog w) (Bf prog w).hash S led V seen s.heap)(hx:isI prog w k x)(hV:x∈V){U:Aa Ak}(hU:U.length<=1000)(hU1:∀ k'∈seen,k'∈U)(hU2:k∈U)
  (h:∀ (b:Ar) (h':Br) (tk:Ai),s.toks<=tk->Ep S s.heap h'->SetK (isI prog w) (Bf prog w).hash S led V (k::seen) h'->Q b { s with heap:=h',toks:=tk }) : Ap (Au prog w) A (Uw S x) Q E s:=by
 obtain⟨es,ep,t,ho,Z,T,hl,hm⟩:=Z;have hsc:x.scannable=true:=by
  obtain⟨tk,q⟩:=wA hx;rw[q];rfl
 have hf:=T.fits;have hb:es.size<Zt:=by
  have h1:=T.few;have:Zt=4096:=rfl;rcases T.msk with h|h|h|h|h <;> rw[h] at h1 <;> lia
 unfold Uw;refine Em (Ad ((Bf prog w).pyHash (k:=k) hx ?_));unfold setAddHashed setAddHashedIn;refine Em (Ad (Fp (s:={ s with toks:=s.toks+1 }) ho rfl hf ?_))
 dsimp only;rw[byScan_of hsc hb (dO Z)];simp only[Dx];unfold setAddByScan;refine Ad (Ad (Gp (Ad (wpAny_setScan_of (s:={ s with toks:=s.toks+1 }) hx ho rfl hf (dO Z) ?_))))
 cases hr:es.toList.findIdx? (λe=>(Bf prog w).is k e.2) with
 |some j =>
  dsimp only;obtain⟨hj,hpj,_⟩:=List.findIdx?_eq_some_iff_getElem.mp hr;have hk:k∈seen:=(Z.mem k).mpr ⟨es.toList[j],Qi hj,hpj⟩;exact Al (Al (h _ s.heap _ (Hm _ _) (Pd _ _) ⟨es,ep,t,ho,Z.again hk,T,hl,hm⟩))
 |none =>
  dsimp only;have hk:k ∉ seen:=λhk=>by
   obtain⟨e,he,q⟩:=(Z.mem k).mp hk;have:=List.findIdx?_eq_none_iff.mp hr e he;rw[show (Bf prog w).is k e.2=true from q] at this
   cases this
  have hle:es.size<1000:=Bc (Z.few hU1 hU2 hk) hU;obtain⟨e,he,hne⟩:=T.gap;have first:∃ N,Way t (st t.mask ((Bf prog w).hash k)) N/\(it t.mask N (st t.mask ((Bf prog w).hash k))).j ∉ t.place.toList/\t.freeSlot ((Bf prog w).hash k)=Ab ((it t.mask N (st t.mask ((Bf prog w).hash k))).j,false):=by
   obtain⟨N,hN,eN⟩:=s9 T.msk ((Bf prog w).hash k) he;have gm:=jX T.tb (λ_=>(Bf prog w).hash k+1) ((Bf prog w).hash k) (10*turns t.mask) (st t.mask ((Bf prog w).hash k)) rfl ⟨N,hN,by rw[eN];exact hne⟩
   unfold SetTable.freeSlot SetTable.probe;rw[E1];generalize Kb t _ _ _ _=r at gm;cases gm with
   |emp j hj w' e' q=>exact⟨j,w',e',rfl⟩
   |cand j i hj w' e' hh q=>exact absurd hh (by lia)
  obtain⟨N,hNw,hNe,hfs⟩:=first
  obtain⟨p1,p2,p3,p4⟩:=T.put (h:=(Bf prog w).hash k) (x:=x) hNw hNe (UI _ _ _);generalize hj:(it t.mask N (st t.mask ((Bf prog w).hash k))).j=j at *;have m1:(t.put j).1.mask=t.mask:=rfl;have m2:(t.put j).1.plain=true:=T.plain;have m3:(t.put j).1.led=led:=hl;generalize hp:t.put j=tp at *;obtain⟨t1,p⟩:=tp;dsimp only at p1 p2 p3 p4 m1 m2 m3 ⊢;have hsz:(Bz es p ((Bf prog w).hash k,x)).size=es.size+1:=yZ _ _ _;have hfit:t1.fits (Bz es p ((Bf prog w).hash k,x)).size=true:=by
   have h3:t1.fill=es.size+1:=by unfold Ky;rw[p1.dm,p2,hsz];rfl
   have h2:=T.few;unfold Ug;rw[h3,p2,hsz,m1];rcases T.msk with h|h|h|h|h <;> rw[h] at h2 ⊢ <;> simp <;> lia
  have lay:layNew t es ((Bf prog w).hash k) x=(Bz es p ((Bf prog w).hash k,x),t1,false,false):=by
   unfold layNew;rw[hfs];dsimp only;rw[hp];dsimp only;unfold SetTable.orStandIn;rw[hfit];rfl
  rw[lay];dsimp only;refine Ad (Al (a:=()) ?_);have hbv:OO 8 x=pure true:=by
   rw[hashByValue_scannable 8 hsc];obtain⟨tk,q⟩:=wA hx;subst q;rfl
  rw[hbv,ite_self];refine Ad (Al ?_);simp only[Dx];have hline:es.size+1<=sizeLine:=by rw[Fi];lia
  refine Ad (Mu (s:={ s with toks:=s.toks+1 }) ho rfl ?_ (by rw[hsz];exact hline))
  have pm:(Bz es p ((Bf prog w).hash k,x)).toList.Perm (es.toList++[((Bf prog w).hash k,x)]):=by
   have:=Im es p ((Bf prog w).hash k,x);rw[Ei] at this;exact this
  have Z1:Set0 (isI prog w) (Bf prog w).hash (Bz es p ((Bf prog w).hash k,x)) (k::seen):=Z.push (λa b=>(Bf prog w).inj _ _ _ a b) hx hk pm;have hm1:∀ e∈(Bz es p ((Bf prog w).hash k,x)).toList,e.2∈V:=λe he=>by
   rcases Ce.mp (pm.mem_iff.mp he) with h1|h1
   .exact hm e h1
   .simp at h1;subst h1;exact hV
  have ho1:=pO (es':=Bz es p ((Bf prog w).hash k,x)) (t':=t1) ho;have sb1:=Hb s.heap S (Yu (Bz es p ((Bf prog w).hash k,x)) t1);refine i6 (λhf=>?_) λhf=>?_
  .have hM1:Msk t1.mask:=by rw[m1];exact T.msk
   have h3:((Bz es p ((Bf prog w).hash k,x)).size-1)*5<t1.mask*3:=by rw[hsz,m1];exact T.few
   obtain⟨q1,t2,qP,q2,q3,q4,q5,q6⟩:=b8 hM1 m2 p2 (by rw[hsz];lia) (by simpa using hf) p1.dm h3 (by rw[hsz];lia)
   have hs2:(qP.filterMap λx_1=>(Bz es p ((Bf prog w).hash k,x))[x_1]?).size=es.size+1:=by rw[<- Bg,q4.length_eq,Bg,hsz]
   have rl:relayAll t1 (Bz es p ((Bf prog w).hash k,x)) (Gw (Bz es p ((Bf prog w).hash k,x)).size)=(qP.filterMap λx_1=>(Bz es p ((Bf prog w).hash k,x))[x_1]?,t2,false):=by
    unfold relayAll;rw[q2];dsimp only;have c1:coversAll qP (Bz es p ((Bf prog w).hash k,x)).size=true:=by
     unfold coversAll;exact List.isPerm_iff.mpr q6
    rw[c1,q5.fits];rfl
   rw[rl];dsimp only;refine Ad (Al (a:=()) ?_);refine Ad (Mu (s:={ s with heap:=_,toks:=s.toks+1 }) ho1 rfl ?_ (by rw[hs2];exact hline))
   exact Al (Al (h _ _ _ (Hm _ _) (sb1.trans (Hb _ S _)) ⟨_,_,t2,pO ho1,Z1.perm q4,q5,by rw[q3];exact m3,λe he=>hm1 e (q4.mem_iff.mp he)⟩))
  .refine Al (Al (h _ _ _ (Hm _ _) sb1 ⟨_,_,t1,ho1,Z1,⟨p1,by rw[m1];exact T.msk,p2,by rw[m1];exact p3,?_,by rw[m1];exact p4,m2⟩,m3,hm1⟩))
   have h3:t1.fill=es.size+1:=by unfold Ky;rw[p1.dm,p2,hsz];rfl
   unfold Ql at hf;rw[h3] at hf;rw[hsz];simpa using hf
end
end _S
namespace _S
open PySem
variable {Q:Ac->Ag->Prop}{i:Ai}
structure AddS (prog:Be)(w:Bx){K:Type}(is:K->Ac->Prop)(hash:K->Ak)(h0:Br):Prop where
 add:∀ {A:Bv} {E:Ac->Ag->Prop} {s:Ag} {S:Af} {led:Ar} {V:Aa Ac} {seen U:Aa K} {k:K} {x:Ac} {Q:Ar->Ag->Prop},A.units<Eg->Sup h0 s.heap->SetK is hash S led V seen s.heap->is k x->x∈V->U.length<=1000->(∀ k'∈seen,k'∈U)->k∈U ->
  (∀ (b:Ar) (h':Br) (tk:Ai),s.toks<=tk->Ep S s.heap h'->SetK is hash S led V (k::seen) h'->Q b { s with heap:=h',toks:=tk }) -> Ap (Au prog w) A (Uw S x) Q E s
theorem BV {prog:Be}{w:Bx}(h0:Br):AddS prog w (isT prog w h0) (Bu (Bf prog w)) h0:=⟨λhu hS Z hx hV h1 h2 h3 h=>H0 hu hS Z hx hV h1 h2 h3 h⟩
theorem o6 {prog:Be}{w:Bx}(h0:Br):AddS prog w (isI prog w) (Bf prog w).hash h0:=⟨λ_ _ Z hx hV h1 h2 h3 h=>EZ Z hx hV h1 h2 h3 h⟩
noncomputable def wQ {K:Type}(key:Ai->K):Ai->Aa K
 |0=>[]
 |i+1=>key i::wQ key i
theorem uQ {K:Type}{key:Ai->K}{k:K}:∀ {n:Ai},k∈wQ key n↔∃ i,i<n/\key i=k
 |0=>by simp[wQ]
 |n+1=>by
  rw[wQ,Ax,uQ];constructor
  .rintro (rfl|⟨i,h,e⟩)
   .exact⟨n,by omega,rfl⟩
   .exact⟨i,by omega,e⟩
  .rintro⟨i,h,e⟩
   by_cases hi:i=n
   .subst hi;exact .inl e.symm
   .exact .inr ⟨i,by omega,e⟩
section
variable {prog:Be}{w:Bx}{A:Bv}{R:Zd->Ag->Prop}{I:Af}{fp wr:Aa Af}{G:Ay Xy->Ay Xy->Prop}{n:Ai}{P:Ai->Ac->Prop}{St:Ai->Ag->Prop}
variable {K:Type}{is:K->Ac->Prop}{hash:K->Ak}{h0:Br}{led:Ar}{V:Aa Ac}{U:Aa K}
theorem SetK.sup {S:Af}{seen:Aa K}{h h':Br}(Z:SetK is hash S led V seen h)(e:∀ o,h.get? S=Ab o->h'.get? S=Ab o):SetK is hash S led V seen h':=by
 obtain⟨es,ep,t,ho,r⟩:=Z;exact⟨es,ep,t,e _ ho,r⟩
theorem cJ (a:AddS prog w is hash h0)(W:WalksS prog w A.in1 I fp wr G n P St)(S:Af)(hSf:S ∉ fp)(hu:A.in1.units<Eg)(key:Ai->K)(hkey:∀ i v,P i v->is (key i) v/\v∈V)(hU:U.length<=1000)(hUk:∀ i,i<n->key i∈U)
  (hS0:h0.get? S=none) (hw0:∀ b∈wr,h0.get? b=none):∀ (k i:Ai) (s:Ag),n-i=k->i<=n->St i s->Sup h0 s.heap->SetK is hash S led V (wQ key i) s.heap ->
   (∀ s',Moved (S::wr) G s s'->SetK is hash S led V (wQ key n) s'.heap->R (.ok (.ret .none)) s')->IS (Au prog w) A (.builtin "set.update.loop" ⟨[.ref S,.ref I],[]⟩) R s:=by
 have hSw:S ∉ wr:=λh=>hSf (W.sub _ h);have hsub:∀ b∈wr,b∈S::wr:=λb hb=>Cg _ hb;intro k
 induction k with
 |zero =>
  intro i s hk hi hst hS Z hR;have hin:i=n:=by omega
  subst hin;refine IP Lj ?_;rw[IX Ip _];show Ap _ A.in1 (Mi (.ref I) >>= _) _ _ s;refine Ad (W.done s _ _ hst λs' hm=>?_);exact Al (hR s' (hm.mono hsub) (Z.sup λo e=>hm.heap S _ hSw e))
 |succ k ih =>
  intro i s hk hi hst hS Z hR;have hlt:i<n:=by omega
  refine IP Lj ?_;rw[IX Ip _];show Ap _ A.in1 (Mi (.ref I) >>= _) _ _ s;refine Ad (W.item i s _ _ hlt hst λv s' hP hst' hm=>?_);obtain⟨q1,q2⟩:=hkey i v hP;have hS':Sup h0 s'.heap:=λb o e=>hm.heap b o (λhb=>by rw[hw0 b hb] at e;cases e) (hS b o e)
  show Ap _ A.in1 (holding [v] (Uw S v) >>= _) _ _ s';refine Ad (Em (a.add hu hS' (Z.sup λo e=>hm.heap S _ hSw e) q1 q2 hU (λk' hk'=>?_) (hUk i hlt) λb h' tk htk hsb Z'=>?_))
  .obtain⟨j,hj,e⟩:=uQ.mp hk'
   exact e▸hUk j (by omega)
  .refine Al ⟨Pj Ip _,ih (i+1) _ (by omega) hlt (W.frame _ s' _ _ hst' htk λb hb o e=>?_) (λb o e=>?_) Z' λs'' hm'' Z''=>?_⟩
   .rw[hsb.2 b (λh:b=S=>hSf (by rw[<- h];exact hb))];exact e
   .rw[hsb.2 b (λh:b=S=>by rw[h,hS0] at e;cases e)];exact hS' b o e
   .refine hR s'' (Moved.trans W.gtrans ((hm.mono hsub).then_heap htk λb o hb e=>?_) hm'') Z''
    rw[hsb.2 b (λh:b=S=>hb (by rw[h];exact Dl))];exact e
end
section
variable {prog:Be}{w:Bx}{A:Bv}{E:Ac->Ag->Prop}{s:Ag}
noncomputable def xC (w:Bx):Ar:=!w.params.followText "set-order"
@[reducible] def set0 (w:Bx):Ci:=setO #[] 0 (.fresh 0 0 (xC w))
theorem b7 (a:Ac){Q₁:Ac->Ag->Prop}(h:Q₁ (.ref s.heap.objs.size) { s with heap:=s.heap.push (set0 w) }) : IS (Au prog w) A (.call (.builtin "set.__new__") ⟨[.type "set",a],[]⟩) (wants Q₁ E) s:=by
 refine Od ?_;show Ap _ A.in1 (do checkBuiltinCall "set.__new__" ⟨[.type "set",a],[]⟩;again (.builtin "set.__new__" ⟨[.type "set",a],[]⟩)) _ _ s
 refine Ad (Xf (PySem.F.newCall_set_1 a) (Al ⟨Pj Sg _,IP PySem.F.entry_set_new ?_⟩));rw[IX Sg _];unfold Ig.«set.__new__» Zf;have hsub:=PySem.sub_set_self;obtain⟨hp,g,d,tk,os⟩:=s;dsimp only
 wp_walk
 refine Il (Al ?_);dsimp only;simp only[newObj];exact Ad (Xj (Al (Al h)))
theorem gX (w:Bx):TabT (.fresh 0 0 (xC w)) #[]:=⟨⟨by unfold Rs;exact Mp,rfl⟩,.inl rfl,rfl,λx hx=>(by cases hx),(show 0*5<7*3 by decide),λi e h=>(by simp at h),rfl⟩
variable {K:Type}{is:K->Ac->Prop}{hash:K->Ak}{U:Aa K}
theorem XB (a:AddS prog w is hash s.heap){l:Af}{items:Ay Ac}{Q:Ac->Ag->Prop}(hh:A.handled=none)(hu:A.units+8<Eg)(hl:s.heap.IsList l items)(key:Ai->K)(hkey:∀ i v,items[i]? = Ab v->is (key i) v)(hU:U.length<=1000)(hUk:∀ i,i<items.size->key i∈U)
  (h:∀ (h':Br) (tk:Ai),SetK is hash s.heap.objs.size (xC w) items.toList (wQ key items.size) h'->(∀ b o,s.heap.get? b=Ab o->h'.get? b=Ab o)->Q (.ref s.heap.objs.size) { s with heap:=h',toks:=tk }) :
  Ap (Au prog w) A (call (.type "set") [.ref l]) Q E s:=by
 obtain⟨c,tl,hmro⟩:=Dq.mro;have hmade:=Dq.made;have hsub:=Dq.sub;refine Uc (Od ?_);show Ap _ _ (callAny (.type "set") _) _ _ _;refine Al ⟨Vl _ (by decide +kernel),IP Qy ?_⟩
 rw[Vm (Sh "set" [.ref l] []) rfl];have h1:=Dq.notType;have h2:=Dq.canCreate;have hct:=Rr (.ref l)
 repeat (any_goals (first|assumption|wp_step))
 refine IJ (b7 (.ref l) (E:=E) (Q₁:=λobj s₁=>obj=.ref s.heap.objs.size/\s₁={ s with heap:=s.heap.push (set0 w) }) ⟨rfl,rfl⟩) λr s₁ hr=>?_
 cases r with
 |error e=>exact hr
 |ok fl =>
  cases fl with
  |ret obj =>
   obtain⟨rfl,rfl⟩:=hr;have hS:(s.heap.push (set0 w)).get? s.heap.objs.size=Ab (set0 w):=Ba _ rfl;have hT:Pk { s with heap:=s.heap.push (set0 w) } (.ref s.heap.objs.size) "set":=⟨_,hS,rfl⟩
   have hli:=Dq.init.lookup;have hbi:=Dq.init.bind (.ref s.heap.objs.size)
   repeat (any_goals (first|assumption|wp_step))
   refine IJ (Tk (R:=wants (λr s₂=>r=.none/\∃ h' tk,s₂={ s with heap:=h',toks:=tk } /\ SetK is hash s.heap.objs.size (xC w) items.toList (wQ key items.size) h'/\∀ b o,s.heap.get? b=Ab o->h'.get? b=Ab o) E) Dq.init.plain Rt (Xo hT ?_)) λr₂ s₂ hr₂=>?_
   .obtain⟨ol,hol,hcl,nl,hdl⟩:=hl
    obtain⟨ocls,odict,odata,oslots⟩:=ol;simp only at hcl hdl;subst hcl;subst hdl;have hol':(s.heap.push (set0 w)).get? l=Ab { cls:=.type "list",dict:=odict,data:=.seq items nl,slots:=oslots }:=Ah _ hol;have hsls:=PySem.F.sub_list_set;have hslf:=PySem.F.sub_list_frozenset;have hne:(Ic "list" == Ic "dict")=false:=by decide
    have hl1:(s.heap.push (set0 w)).IsList l items:=⟨_,hol',rfl,nl,rfl⟩;unfold Ig.«set.__init__» noKeywords Ot;generalize hPI:Nj=PI
    wp_walk
    subst hPI;refine Gd hl1 ?_;refine Ad (Td ?_);have hlS:l<s.heap.objs.size:=Az hol;have hneI:l≠(s.heap.push (set0 w)).objs.size:=by
     rw[Dw];exact Cq (Mv hlS)
    have nS:s.heap.get? s.heap.objs.size=none:=IW (As _);have nI:s.heap.get? (s.heap.push (set0 w)).objs.size=none:=IW (by rw[Dw];exact OM _)
    refine cJ (led:=xC w) (V:=items.toList) a ((x0 (A:=A.in1.in1.in1) (by simp[hh]) _ l hneI items).toS) s.heap.objs.size ?_ (by show A.units+3<Eg;omega) key (λi v hv=>⟨hkey i v hv,?_⟩) hU hUk nS (λb hb=>?_) (items.size-0) 0 _ (by omega) (Gj _)
     ⟨⟨_,Ba _ rfl,rfl,rfl⟩,hl1.push _⟩ (λb o e=>Ah _ (Ah _ e)) ?_ λs' hm hS'=>?_
    .rw[Dw];simp only[Ax,Cw,Eh,IM,Uu]
     exact⟨Cq (Ik _),Fw hlS⟩
    .exact Cu (by rw[Bk];exact hv)
    .rw[Cw.mp hb];exact nI
    .exact⟨#[],0,_,Ah _ hS,Set0.nil,gX w,rfl,λe he=>by simp at he⟩
    .obtain⟨h',g',d',tk',os'⟩:=s'
     have eg:g'=s.gens:=hm.gens;have ed:d'=s.drawn:=hm.drawn;have eo:os'=s.os:=hm.os;subst eg;subst ed;subst eo;refine Al (Al ⟨rfl,h',tk',rfl,hS',λb o e=>?_⟩);refine hm.heap b o (λhb=>?_) (Ah _ (Ah _ e));rcases Ax.mp hb with rfl|hb
     .rw[nS] at e;cases e
     .rw[Cw.mp hb,nI] at e;cases e
   .cases r₂ with
    |error e=>exact hr₂
    |ok fl₂ =>
     cases fl₂ with
     |ret r =>
      obtain⟨rfl,h',tk,rfl,hS',hk'⟩:=hr₂
      repeat (any_goals (first|assumption|wp_step))
      exact h _ _ hS' hk'
     |_=>exact hr₂.elim
  |_=>exact hr.elim
theorem oE (a:AddS prog w is hash s.heap){l:Af}{items:Ay Ac}{Q:Ac->Ag->Prop}(hh:A.handled=none)(hu:A.units+8<Eg)(hl:s.heap.IsTuple l items)(key:Ai->K)(hkey:∀ i v,items[i]? = Ab v->is (key i) v)(hU:U.length<=1000)(hUk:∀ i,i<items.size->key i∈U)
  (h:∀ (h':Br) (tk:Ai),SetK is hash s.heap.objs.size (xC w) items.toList (wQ key items.size) h'->(∀ b o,s.heap.get? b=Ab o->h'.get? b=Ab o)->Q (.ref s.heap.objs.size) { s with heap:=h',toks:=tk }) :
  Ap (Au prog w) A (call (.type "set") [.ref l]) Q E s:=by
 obtain⟨c,tl,hmro⟩:=Dq.mro;have hmade:=Dq.made;have hsub:=Dq.sub;refine Uc (Od ?_);show Ap _ _ (callAny (.type "set") _) _ _ _;refine Al ⟨Vl _ (by decide +kernel),IP Qy ?_⟩
 rw[Vm (Sh "set" [.ref l] []) rfl];have h1:=Dq.notType;have h2:=Dq.canCreate;have hct:=Rr (.ref l)
 repeat (any_goals (first|assumption|wp_step))
 refine IJ (b7 (.ref l) (E:=E) (Q₁:=λobj s₁=>obj=.ref s.heap.objs.size/\s₁={ s with heap:=s.heap.push (set0 w) }) ⟨rfl,rfl⟩) λr s₁ hr=>?_
 cases r with
 |error e=>exact hr
 |ok fl =>
  cases fl with
  |ret obj =>
   obtain⟨rfl,rfl⟩:=hr;have hS:(s.heap.push (set0 w)).get? s.heap.objs.size=Ab (set0 w):=Ba _ rfl;have hT:Pk { s with heap:=s.heap.push (set0 w) } (.ref s.heap.objs.size) "set":=⟨_,hS,rfl⟩
   have hli:=Dq.init.lookup;have hbi:=Dq.init.bind (.ref s.heap.objs.size)
   repeat (any_goals (first|assumption|wp_step))
   refine IJ (Tk (R:=wants (λr s₂=>r=.none/\∃ h' tk,s₂={ s with heap:=h',toks:=tk } /\ SetK is hash s.heap.objs.size (xC w) items.toList (wQ key items.size) h'/\∀ b o,s.heap.get? b=Ab o->h'.get? b=Ab o) E) Dq.init.plain Rt (Xo hT ?_)) λr₂ s₂ hr₂=>?_
   .obtain⟨ol,hol,hcl,nl,hdl⟩:=hl
    obtain⟨ocls,odict,odata,oslots⟩:=ol;simp only at hcl hdl;subst hcl;subst hdl;have hol':(s.heap.push (set0 w)).get? l=Ab { cls:=.type "tuple",dict:=odict,data:=.seq items nl,slots:=oslots }:=Ah _ hol;have hsls:=PySem.F.sub_tuple_set;have hslf:=PySem.F.sub_tuple_frozenset;have hne:(Ic "tuple" == Ic "dict")=false:=by decide
    have hl1:(s.heap.push (set0 w)).IsTuple l items:=⟨_,hol',rfl,nl,rfl⟩;unfold Ig.«set.__init__» noKeywords Ot;generalize hPI:Nj=PI
    wp_walk
    subst hPI;refine Gn hl1 ?_;refine Ad (Td ?_);have hlS:l<s.heap.objs.size:=Az hol;have hneI:l≠(s.heap.push (set0 w)).objs.size:=by
     rw[Dw];exact Cq (Mv hlS)
    have nS:s.heap.get? s.heap.objs.size=none:=IW (As _);have nI:s.heap.get? (s.heap.push (set0 w)).objs.size=none:=IW (by rw[Dw];exact OM _)
    refine cJ (led:=xC w) (V:=items.toList) a ((wE (A:=A.in1.in1.in1) (by simp[hh]) _ l hneI items).toS) s.heap.objs.size ?_ (by show A.units+3<Eg;omega) key (λi v hv=>⟨hkey i v hv,?_⟩) hU hUk nS (λb hb=>?_) (items.size-0) 0 _ (by omega) (Gj _)
     ⟨⟨_,Ba _ rfl,rfl,rfl⟩,hl1.push _⟩ (λb o e=>Ah _ (Ah _ e)) ?_ λs' hm hS'=>?_
    .rw[Dw];simp only[Ax,Cw,Eh,IM,Uu]
     exact⟨Cq (Ik _),Fw hlS⟩
    .exact Cu (by rw[Bk];exact hv)
    .rw[Cw.mp hb];exact nI
    .exact⟨#[],0,_,Ah _ hS,Set0.nil,gX w,rfl,λe he=>by simp at he⟩
    .obtain⟨h',g',d',tk',os'⟩:=s'
     have eg:g'=s.gens:=hm.gens;have ed:d'=s.drawn:=hm.drawn;have eo:os'=s.os:=hm.os;subst eg;subst ed;subst eo;refine Al (Al ⟨rfl,h',tk',rfl,hS',λb o e=>?_⟩);refine hm.heap b o (λhb=>?_) (Ah _ (Ah _ e));rcases Ax.mp hb with rfl|hb
     .rw[nS] at e;cases e
     .rw[Cw.mp hb,nI] at e;cases e
   .cases r₂ with
    |error e=>exact hr₂
    |ok fl₂ =>
     cases fl₂ with
     |ret r =>
      obtain⟨rfl,h',tk,rfl,hS',hk'⟩:=hr₂
      repeat (any_goals (first|assumption|wp_step))
      exact h _ _ hS' hk'
     |_=>exact hr₂.elim
  |_=>exact hr.elim
theorem aE (a:AddS prog w is hash s.heap){l:Af}{items:Ay Ac}{Q:Ac->Ag->Prop}(hh:A.handled=none)(hu:A.units+8<Eg)(hl:s.heap.IsList l items\/s.heap.IsTuple l items)(key:Ai->K)(hkey:∀ i v,items[i]? = Ab v->is (key i) v)(hU:U.length<=1000)(hUk:∀ i,i<items.size->key i∈U)
  (h:∀ (h':Br) (tk:Ai),SetK is hash s.heap.objs.size (xC w) items.toList (wQ key items.size) h'->(∀ b o,s.heap.get? b=Ab o->h'.get? b=Ab o)->Q (.ref s.heap.objs.size) { s with heap:=h',toks:=tk }) :
  Ap (Au prog w) A (call (.type "set") [.ref l]) Q E s:=by
 rcases hl with hl|hl
 .exact XB a hh hu hl key hkey hU hUk h
 .exact oE a hh hu hl key hkey hU hUk h
end
theorem fK {α:Type}:∀ {l:Aa α} {i:Ai} (h:i<l.length),(l[i]::l.eraseIdx i).Perm l
 |a::l,0,h=>by simp
 |a::l,i+1,h=>by
  rw[List.eraseIdx_cons_succ,List.getElem_cons_succ];exact(List.Perm.swap _ _ _).trans ((fK (l:=l) (i:=i) (by simpa using h)).cons a)
theorem l9 {α:Type}(next:Ai->Ai):∀ (fuel k:Ai) (left:Aa α) (out:Ay α),left.length=fuel->(Vx next fuel k left out).toList.Perm (out.toList++left)
 |0,k,left,out,h=>by
  have:left=[]:=Oe h;subst this;unfold Vx;simp
 |fuel+1,k,left,out,h=>by
  unfold Vx;have hlt:next k % left.length<left.length:=Oq _ (by omega)
  rw[An hlt];dsimp only;refine(l9 next fuel (k+1) _ _ (by rw[List.length_eraseIdx,Bp hlt];omega)).trans ?_
  rw[Ei,Cc];refine Ho _ ?_;exact fK hlt
theorem tU {α:Type}(next:Ai->Ai)(xs:Ay α) : (Of next xs).toList.Perm xs.toList:=by
 have:=l9 next xs.size 0 xs.toList #[] (by simp)
 simpa [Of] using this
theorem yG:Slot "set_iterator" "__next__" "set_iterator.__next__":=
 .of (owner:="set_iterator") (n:="__next__") (by rw[Yh,Si];kernel_rfl) (by decide +kernel) (by decide +kernel) (by decide +kernel) (.inl (by decide +kernel)) (by rw[Te];kernel_rfl)
theorem fJ:entryFor table "set_iterator.__next__" = Ab Ig.«set_iterator.__next__»:=entryFor_of_fast (by kernel_rfl)
theorem nH (a:Ac):Xk "set_iterator.__next__" ⟨[a],[]⟩:=by unfold Xk;kernel_rfl
theorem lD:Slot "set_iterator" "__iter__" "set_iterator.__iter__":=
 .of (owner:="set_iterator") (n:="__iter__") (by rw[Yh,Si];kernel_rfl) (by decide +kernel) (by decide +kernel) (by decide +kernel) (.inl (by decide +kernel)) (by rw[Te];kernel_rfl)
theorem aP:entryFor table "set_iterator.__iter__" = Ab Ig.«dict_keyiterator.__iter__»:=entryFor_alias (id':="dict_keyiterator.__iter__") (by kernel_rfl) rfl (by decide +kernel) (by kernel_rfl)
theorem o7 (a:Ac):Xk "set_iterator.__iter__" ⟨[a],[]⟩:=by unfold Xk;kernel_rfl
theorem aM:entryFor table "set.__iter__" = Ab Ig.«frozenset.__iter__»:=entryFor_alias (id':="frozenset.__iter__") (by kernel_rfl) rfl (by decide +kernel) (by kernel_rfl)
theorem KQ (a:Af)(slot given epochThen:Ai):setNext a slot given epochThen=(do
  let (es,epoch,t) <- Uv a
  if <- Uh then
   if epoch != epochThen then unsupported "set_iterator.__next__:elements-changed"
   return ((<- setWalk a)[given]?).map λe=>(e.2,slot)
  if !t.plain&&es.size>1 then unsupported "set_iterator.__next__:the-table-is-plain-no-more"
  (do if !t.led&&!es.isEmpty then unsupported "set:maker-not-led")
  return match es[Cd t.place slot]?,t.place[Cd t.place slot]? with
   |some (_,x),Ab j=>Ab (x,j+1)
   |_,_=>none):=rfl
theorem BE (a:Af):setWalk a=(do
  let (es,epoch,t) <- Uv a
  if <- Uh then return Of ((<- ask).params.setOrder a epoch) es
  if !t.plain&&es.size>1 then return (<- drawOrder es.size es.toList).toArray
  (do if !t.led&&es.size>1 then unsupported "set:maker-not-led")
  return es):=rfl
theorem XX (a:Af):setDrawn a=(do
  let (es,_,t) <- Uv a
  let byText <- Uh
  return !byText&&(!t.plain&&es.size>1)):=rfl
structure Still (w:Bx)(S:Af)(es:Ay (Ak × Ac))(ep:Ai)(t:Ex):Prop where
 tab:TabT t es
 led:t.led=xC w
def qP (w:Bx)(S:Af)(ep:Ai)(es:Ay (Ak × Ac)):Ay (Ak × Ac):=if w.params.followText "set-order" = true then Of (w.params.setOrder S ep) es else es
theorem fZ (w:Bx)(S:Af)(ep:Ai)(es:Ay (Ak × Ac)):(qP w S ep es).toList.Perm es.toList:=by
 unfold qP
 split
 .exact tU _ _
 .exact Mn _
theorem vS (w:Bx)(S:Af)(ep:Ai)(es:Ay (Ak × Ac)):(qP w S ep es).size=es.size:=by
 rw[<- Bg,(fZ w S ep es).length_eq,Bg]
noncomputable def itO (slot i:Ai)(S:Af)(n ep:Ai):Ci:={ cls:=.type "set_iterator",data:=.fields #[.int slot 0,.int i 0,.ref S,.int n 0,.int ep 0] }
def At (w:Bx)(I S:Af)(es:Ay (Ak × Ac))(ep:Ai)(t:Ex)(i:Ai)(h:Br):Prop:=
 ∃ slot,h.get? I=Ab (itO slot i S es.size ep)/\h.get? S=Ab (setO es ep t)/\(w.params.followText "set-order" = true\/Cd t.place slot=i)
section
variable {prog:Be}{w:Bx}{A:Bv}{E:Ac->Ag->Prop}{s:Ag}{S I:Af}{es:Ay (Ak × Ac)}{ep:Ai}{t:Ex}
theorem iN {slot:Ai}{Q:Am (Ac × Ai)->Ag->Prop}(Z:Still w S es ep t)(ho:s.heap.get? S=Ab (setO es ep t))(hs:w.params.followText "set-order" = true\/Cd t.place slot=i)
  (h1:∀ e slot',(qP w S ep es)[i]? = Ab e->(w.params.followText "set-order" = true\/Cd t.place slot'=i+1)->Q (Ab (e.2,slot')) s) (h2:(qP w S ep es)[i]? = none->Q none s):Ap (Au prog w) A (setNext S slot i ep) Q E s:=by
 rw[KQ];refine Ad (Fp ho rfl Z.tab.fits ?_);dsimp only;refine Ad (Ad (Il (Al ?_)));cases hf:w.params.followText "set-order" with
 |true =>
  show Ap _ _ (if (w.params.followText "set-order")=true then _ else _) _ _ _
  rw[Bp hf];have hb:(ep != ep)=false:=by simp
  rw[hb];simp only[By,Ef];refine Ad ?_;rw[BE];refine Ad (Fp ho rfl Z.tab.fits ?_);dsimp only;refine Ad (Ad (Il (Al ?_)));show Ap _ _ (if (w.params.followText "set-order")=true then _ else _) _ _ _
  rw[Bp hf];refine Ad (Il (Al (Al ?_)));show Q (((Of (w.params.setOrder S ep) es)[i]?).map λe=>(e.2,slot)) s;have ho':qP w S ep es=Of (w.params.setOrder S ep) es:=by unfold qP;rw[Bp hf]
  rw[ho'] at h1 h2;cases hx:(Of (w.params.setOrder S ep) es)[i]? with
  |none=>exact h2 hx
  |some e=>exact h1 e slot hx (.inl hf)
 |false =>
  show Ap _ _ (if (w.params.followText "set-order")=true then _ else _) _ _ _
  rw[Bj (by rw[hf];decide),Z.tab.plain,Z.led]
  unfold xC;rw[hf];simp only[Js,Gu,By,Ef,Tc];have hb:Cd t.place slot=i:=by
   rcases hs with h|h
   .rw[hf] at h;cases h
   .exact h
  rw[hb];have ho':qP w S ep es=es:=by unfold qP;rw[Bj (by rw[hf];decide)]
  rw[ho'] at h1 h2;refine Al ?_;cases hx:es[i]? with
  |none=>exact h2 hx
  |some e =>
   have hi:i<t.place.size:=by rw[Z.tab.size];exact(Dv.mp hx).1
   have hp:t.place[i]? = Ab t.place[i]:=Ec hi;rw[hp];exact h1 e _ hx (.inr (aA Z.tab.tb.rs hp))
theorem At.type (h:At w I S es ep t i s.heap):s.TypeIs (.ref I) "set_iterator":=by
 obtain⟨slot,h,_⟩:=h;exact⟨_,h,rfl⟩
theorem l6 (Z:Still w S es ep t)(hI:At w I S es ep t i s.heap)
  (h1:∀ e slot' slot,(qP w S ep es)[i]? = Ab e->s.heap.get? I=Ab (itO slot i S es.size ep)->s.heap.get? S=Ab (setO es ep t)->(w.params.followText "set-order" = true\/Cd t.place slot'=i+1) ->
   Q e.2 { s with heap:=(s.heap.update I (Ui (·.setIfInBounds 0 (Nk slot')))).update I (Ui (·.setIfInBounds 1 (Nk ((i:Ak)+1)))) })
  (h2:(qP w S ep es)[i]? = none->Ap (Au prog w) A (do setField (.ref I) 2 .none;raiseNew (<- newExc (.type "StopIteration") [])) (λ(fin:PySem.Fin) s'=>∃ r,fin=.done (.ret r)/\Q r s') E s) :
  Ap (Au prog w) A (Ig.«set_iterator.__next__» ⟨[.ref I],[]⟩) (λfin s'=>∃ r,fin=.done (.ret r)/\Q r s') E s:=by
 obtain⟨slot,hg,hS,hb⟩:=hI;show Ap _ _ (fieldsOf (.ref I) >>= _) _ _ s;refine Ad (wpAny_fieldsOf hg rfl ?_);show Ap _ _ (setEntries S >>= _) _ _ s;refine Ad (Uj hS rfl Z.tab.fits ?_);have hne:(((es.size:Ai):Ak) != ((es.size:Ai):Ak))=false:=by simp
 rw[hne];simp only[By,Ef];show Ap _ _ (setNext S (slot:Ak).toNat (i:Ak).toNat (ep:Ak).toNat >>= _) _ _ s;rw[Gx,Gx,Gx];refine Ad (iN Z hS hb (λe slot' he hb'=>?_) λhe=>?_)
 .dsimp only
  refine Ad (Mm hg rfl (by show 0<5;decide) ?_)
  have hg2:=Fo (Ui (·.setIfInBounds 0 (Nk slot'))) hg rfl
  refine Ad (Mm hg2 rfl (by show 1<5;decide) ?_)
  exact Al ⟨_,rfl,h1 e slot' slot he hg hS hb'⟩
 .exact h2 he
theorem BD (hh:A.handled=none)(hne:S≠I)(Z:Still w S es ep t):Walks prog w A I [I,S] [I] es.size (λi v=>∃ e,(qP w S ep es)[i]? = Ab e/\e.2=v) (λi h=>At w I S es ep t i h) where
 sub:=λb hb=>by simp at hb;simp[hb]
 frame:=λi h h' ⟨slot,h1,h2,h3⟩ hk=>⟨slot,hk I (by simp) _ h1,hk S (by simp) _ h2,h3⟩
 item:=λi s Q E hi st hQ=>by
  unfold Mi;refine Ad (Jr (Dy (name:=Hg "__next__") st.type yG (Ea yG st.type fJ (l6 Z st (λe slot' slot he hg hS hb=>?_) λhe=>?_) (nH _))))
  .refine Al (hQ e.2 _ s.toks ⟨e,he,rfl⟩ ⟨slot',?_,?_,hb⟩ λb o hb e=>?_)
   .exact Fo _ (Fo _ hg rfl) rfl
   .rw[Dk _ _ hne.symm,Dk _ _ hne.symm];exact hS
   .have hb:I≠b:=λz=>hb (by simp[z])
    rw[Dk _ _ hb,Dk _ _ hb];exact e
  .have:=Array.getElem?_eq_none_iff.mp he
   rw[vS] at this;omega
 done:=λs Q E st hQ=>by
  unfold Mi;refine Ad (Jr (Dy (name:=Hg "__next__") st.type yG (Ea yG st.type fJ (l6 Z st (λe slot' slot he hg hS hb=>?_) λhe=>?_) (nH _))))
  .have:=(Dv.mp he).1
   rw[vS] at this;omega
  .obtain⟨slot,hg,hS,hb⟩:=st
   refine Ad (Mm hg rfl (by show 2<5;decide) ?_)
   refine Ad ?_;simp only[newExc,newTuple];refine Ad (Dp ?_ (by size_fits))
   refine Ad (m:=O7 _ _) (Xf (a:=Dn) (by first|rfl|(simp only[O7];rfl)) ?_)
   refine Dp ?_ (by size_fits)
   simp only[raiseNew];refine Ad (wpAny_handled ?_);rw[show A.in1.handled=none from hh]
   refine Ad (Al (wpAny_throw ?_));refine Ad (Nt (T:="StopIteration") (b:=true) ⟨_,Ba _ rfl,rfl⟩ Sy ?_);refine Al (hQ _ s.toks λb o hb e=>?_);exact(((Hb ..).extBut.push _).push _) b o (λz=>hb (by simp[z])) e
 self:=λi s Q E st hQ=>by
  refine Wv st.type lD (Ea lD st.type aP ?_ (o7 _));show Ap _ _ (ret (.ref I)) _ _ s;exact Al ⟨_,rfl,"set_iterator",_,st.type,yG.lookup,hQ⟩
theorem WR (Z:Still w S es ep t)(ho:s.heap.get? S=Ab (setO es ep t))(h:Q (.ref s.heap.objs.size) { s with heap:=s.heap.push (itO 0 0 S es.size ep) }) : Ap (Au prog w) A (Nj (.ref S)) Q E s:=by
 have hT:s.TypeIs (.ref S) "set":=⟨_,ho,rfl⟩;refine Wv hT Sj (Ea Sj hT aM ?_ (PySem.F.args_set_iter_1 _));show Ap _ _ (Px S >>= _) _ _ s;unfold Px;refine Ad (Ad (Uj ho rfl Z.tab.fits (Al ?_)));refine Ad ?_;rw[XX];refine Ad (Fp ho rfl Z.tab.fits ?_);dsimp only;refine Ad (Ad (Il (Al (Al ?_))));rw[Z.tab.plain];simp only[Js,Gu,O9,By,Ef];refine Ad (Al ?_);unfold setEpoch;refine Ad (Ad (Fp ho rfl Z.tab.fits (Al ?_)));refine Ad (Dp (Al ⟨_,rfl,"set_iterator",_,⟨_,Ba _ rfl,rfl⟩,yG.lookup,h⟩))
theorem US (Z:Still w S es ep t)(ho:s.heap.get? S=Ab (setO es ep t)):At w s.heap.objs.size S es ep t 0 (s.heap.push (itO 0 0 S es.size ep)):=
 ⟨0,Ba _ rfl,Ah _ ho,.inr (aD Z.tab.tb.rs)⟩
end
end _S
namespace _S
open PySem PySem.W PyProof.Rows
variable {vs:Aa Ac}{n lo:Ai}{arr m:Ay Bs}
structure Ord {K:Type}(lt:K->K->Ar):Prop where
 irr:∀ a,lt a a=false
 tr:∀ {a b c},lt a b=true->lt b c=true->lt a c=true
 tri:∀ {a b},lt a b=false->a=b\/lt b a=true
noncomputable def ltI (a b:Ak):Ar:=decide (a<b)
theorem zY:Ord ltI:=⟨λa=>by simp[ltI],λ{a b c} h1 h2=>by simp only[ltI,Cb] at *;omega,λ{a b} h=>by simp only[ltI,Cb,Ib] at *;omega⟩
theorem eZ:∀ a:Aa Ak,_H.lexLt a a=false
 |[]=>rfl
 |x::xs=>by rw[_H.lexLt_cons,Bp rfl];exact eZ xs
theorem QL:∀ {a b c:Aa Ak},_H.lexLt a b=true->_H.lexLt b c=true->_H.lexLt a c=true
 |_,[],[],_,h=>by cases h
 |_,_::_,[],_,h=>by cases h
 |[],_,_::_,_,_=>rfl
 |_::_,[],_::_,h,_=>by cases h
 |x::xs,y::ys,z::zs,h1,h2=>by
  rw[_H.lexLt_cons] at h1 h2 ⊢;by_cases e1:x=y
  .subst e1
   rw[Bp rfl] at h1;by_cases e2:x=z
   .rw[Bp e2] at h2 ⊢;exact QL h1 h2
   .rw[Bj e2] at h2 ⊢;exact h2
  .rw[Bj e1] at h1
   have h1:=Cf h1;by_cases e2:y=z
   .subst e2;rw[Bj e1];exact Cp h1
   .rw[Bj e2] at h2
    have h2:=Cf h2;rw[Bj (by omega)]
    exact Cp (by omega)
theorem h9:∀ {a b:Aa Ak},_H.lexLt a b=false->a=b\/_H.lexLt b a=true
 |[],[],_=>.inl rfl
 |[],_::_,h=>by cases h
 |_::_,[],_=>.inr rfl
 |x::xs,y::ys,h=>by
  rw[_H.lexLt_cons] at h ⊢;by_cases e:x=y
  .subst e
   rw[Bp rfl] at h ⊢;rcases h9 h with h|h
   .exact .inl (by rw[h])
   .exact .inr h
  .rw[Bj e] at h
   have h:=of_decide_eq_false h;rw[Bj (Ft e)];exact .inr (Cp (by omega))
theorem sQ:Ord _H.lexLt:=⟨eZ,QL,h9⟩
theorem nQ {α:Type}{p q:α->Ar}:∀ {l:Aa α},(∀ x∈l,p x=true->q x=true)->(∃ x∈l,q x=true/\p x=false)->l.countP p<l.countP q
 |[],_,⟨x,h,_⟩=>by simp at h
 |a::l,h,⟨x,hx,h1,h2⟩=>by
  have le:l.countP p<=l.countP q:=Sk λy hy=>h y (by simp[hy])
  rw[Xp,Xp];rcases Ax.mp hx with rfl|hx
  .rw[Bj (by rw[h2];decide),Bp h1];omega
  .have ih:=nQ (l:=l) (λy hy=>h y (by simp[hy])) ⟨x,hx,h1,h2⟩
   have:=h a (by simp)
   cases hp:p a with
   |false=>rw[Bj (by decide)];split <;> omega
   |true=>rw[Bp rfl,Bp (this hp)];omega
section
variable {K:Type}{lt':K->K->Ar}
noncomputable def kM (lt':K->K->Ar)(ks:Aa K)(x:K):Ak:=(ks.countP (λk=>lt' k x):Ai)
theorem sY (O:Ord lt'){ks:Aa K}{x y:K}(hx:x∈ks):lt' x y=decide (kM lt' ks x<kM lt' ks y):=by
 unfold kM;cases h:lt' x y with
 |true =>
  refine(Cp ?_).symm;have:=nQ (l:=ks) (p:=λk=>lt' k x) (q:=λk=>lt' k y) (λz _ hz=>O.tr hz h) ⟨x,hx,h,O.irr x⟩;omega
 |false =>
  refine(Cy ?_).symm;have:ks.countP (λk=>lt' k y)<=ks.countP (λk=>lt' k x):=by
   rcases O.tri h with e|h'
   .rw[e];exact As _
   .exact Sk λz _ hz=>O.tr hz h'
  omega
noncomputable def d7 (lt':K->K->Ar)(ks:Aa K)(d:K)(i j:Ai):Ar:=lt' (ks.getD i d) (ks.getD j d)
def Nf (lt':K->K->Ar)(l:Aa K):Prop:=l.Pairwise λa b=>lt' b a=false
theorem hZ (O:Ord lt'):∀ {a b:Aa K},Nf lt' a->Nf lt' b->a.Perm b->a=b
 |[],b,_,_,p=>(List.nil_perm.mp p).symm
 |x::a,b,ha,hb,p=>by
  cases b with
  |nil=>exact absurd p.symm (by simp)
  |cons y b =>
   unfold Nf at ha hb;rw[Ch] at ha hb;have e:x=y:=by
    rcases Ax.mp (p.mem_iff.mp (.head _)) with e|e
    .exact e
    .rcases Ax.mp (p.mem_iff.mpr (.head _)) with e'|e'
     .exact e'.symm
     .have h1:=ha.1 y e'
      have h2:=hb.1 x e;rcases O.tri h1 with e|h
      .exact e.symm
      .rw[h2] at h;cases h
   subst e;rw[hZ O ha.2 hb.2 (List.Perm.cons_inv p)]
theorem QZ (O:Ord lt'){l:Aa K}(h:Nf lt' l)(nd:l.Nodup):l.Pairwise λa b=>lt' a b=true:=by
 refine List.Pairwise.imp₂ (λ{a b} h1 h2=>?_) h nd;exact(O.tri h1).elim (λe=>absurd e.symm h2) id
noncomputable def uG (lt':K->K->Ar)(l:Aa K):Aa K:=l.mergeSort λa b=>!lt' b a
theorem yH (l:Aa K):(uG lt' l).Perm l:=List.mergeSort_perm _ _
theorem cM (O:Ord lt')(l:Aa K):Nf lt' (uG lt' l):=by
 have:=List.pairwise_mergeSort (le:=λa b=>!lt' b a) (λa b c h1 h2=>?_) (λa b=>?_) l
 .exact this.imp λh=>by simpa using h
 .have h1:lt' b a=false:=by simpa using h1
  have h2:lt' c b=false:=by simpa using h2
  cases h3:lt' c a with
  |false=>rfl
  |true =>
   rcases O.tri h1 with e|h
   .rw[<- e] at h3;rw[h3] at h2;cases h2
   .have:=O.tr h3 h;rw[h2] at this;cases this
 .cases h:lt' b a with
  |false=>rfl
  |true =>
   cases h':lt' a b with
   |false=>rfl
   |true=>have:=O.tr h h';rw[O.irr] at this;cases this
noncomputable def uA (lt':K->K->Ar)(x:K):Aa K->Aa K
 |[]=>[x]
 |y::l=>if lt' x y then x::y::l else if lt' y x then y::uA lt' x l else y::l
noncomputable def srt (lt':K->K->Ar):Aa K->Aa K
 |[]=>[]
 |x::xs=>uA lt' x (srt lt' xs)
set_option tactic.hygienic true in
theorem bO (O:Ord lt')(x y:K):∀ l:Aa K,y∈uA lt' x l↔y=x\/y∈l
 |[]=>by simp[uA]
 |z::l=>by
  unfold uA
  split
  .simp
  .rename_i h1
   split
   .rw[Ax,bO O x y l,Ax]
    exact⟨λh=>by rcases h with h|h|h <;> simp[h],λh=>by rcases h with h|h|h <;> simp[h]⟩
   .rename_i h2
    have:x=z:=(O.tri (by simpa using h1)).elim id λh=>absurd h h2
    subst this;simp
set_option tactic.hygienic true in
theorem eM (O:Ord lt')(x:K):∀ l:Aa K,l.Pairwise (λa b=>lt' a b=true)->(uA lt' x l).Pairwise (λa b=>lt' a b=true)
 |[],_=>by simp[uA]
 |z::l,h=>by
  rw[Ch] at h;unfold uA
  split
  .rename_i h1
   refine Ch.mpr ⟨λy hy=>?_,Ch.mpr h⟩;rcases Ax.mp hy with rfl|hy
   .exact h1
   .exact O.tr h1 (h.1 y hy)
  .split
   .rename_i h2
    refine Ch.mpr ⟨λy hy=>?_,eM O x l h.2⟩;rcases (bO O x y l).mp hy with rfl|hy
    .exact h2
    .exact h.1 y hy
   .exact Ch.mpr h
theorem zE (O:Ord lt')(y:K):∀ l:Aa K,y∈srt lt' l↔y∈l
 |[]=>by simp[srt]
 |x::l=>by rw[srt,bO O,zE O y l,Ax]
theorem wZ (O:Ord lt'):∀ l:Aa K,(srt lt' l).Pairwise (λa b=>lt' a b=true)
 |[]=>by simp[srt]
 |x::l=>eM O x _ (wZ O l)
theorem jL (O:Ord lt'):∀ {a b:Aa K},a.Pairwise (λa b=>lt' a b=true)->b.Pairwise (λa b=>lt' a b=true)->(∀ x,x∈a↔x∈b)->a=b
 |[],[],_,_,_=>rfl
 |[],y::b,_,_,h=>by have:=(h y).mpr (by simp);simp at this
 |x::a,[],_,_,h=>by have:=(h x).mp (by simp);simp at this
 |x::a,y::b,ha,hb,h=>by
  rw[Ch] at ha hb;have asym:∀ {u v},lt' u v=true->lt' v u=true->Fd:=λp q=>by have:=O.tr p q;rw[O.irr] at this;cases this
  have e:x=y:=by
   rcases Ax.mp ((h x).mp (by simp)) with e|e
   .exact e
   .rcases Ax.mp ((h y).mpr (by simp)) with e'|e'
    .exact e'.symm
    .exact(asym (hb.1 x e) (ha.1 y e')).elim
  subst e;have ne:∀ {z:K} {l:Aa K},(∀ y∈l,lt' x y=true)->z∈l->z≠x:=λh hz e=>by subst e;have:=h _ hz;rw[O.irr] at this;cases this
  rw[jL O ha.2 hb.2 λz=>⟨λhz=>?_,λhz=>?_⟩]
  .exact(Ax.mp ((h z).mp (by simp[hz]))).elim (λe=>absurd e (ne ha.1 hz)) id
  .exact(Ax.mp ((h z).mpr (by simp[hz]))).elim (λe=>absurd e (ne hb.1 hz)) id
theorem MX (O:Ord lt'){l xs:Aa K}(h:Nf lt' l)(nd:l.Nodup)(m:∀ x,x∈l↔x∈xs):l=srt lt' xs:=
 jL O (QZ O h nd) (wZ O xs) λx=>by rw[m,zE O]
end
theorem KH:typeLookup (.type "set") "__len__" = pure (Ab (.builtin "set.__len__")):=PySem.F.slot_set_len.lookup
section
variable {prog:Be}{w:Bx}{A:Bv}{E:Ac->Ag->Prop}{s:Ag}{S:Af}{es:Ay (Ak × Ac)}{ep:Ai}{t:Ex}
theorem WI {r:Af}(hT:s.TypeIs (.ref r) "set"){Q:Ar->Ag->Prop}(h:Q false s):Ap (Au prog w) A (OA (.ref r)) Q E s:=by
 unfold OA;refine Ad (Yg hT KH ?_);generalize hid:("set.__len__" : Et)=id0
 wp_delta
 rw[show splitId id0=Ab ("set","__len__") from by subst hid;decide +kernel]
 subst hid;refine Ad (Nt (T:="set") (b:=true) hT (by rw[Te];kernel_rfl) ?_)
 refine Ru (λhab=>absurd hab (by decide)) (λ_=>?_)
 refine Ru (λ_=>?_) (λhab=>absurd (by decide +kernel) hab)
 exact Ad (Kk hT (Al h))
theorem rL {Q:Aa Ac->Ag->Prop}(hh:A.handled=none)(Z:Still w S es ep t)(ho:s.heap.get? S=Ab (setO es ep t))(hn:es.size<=1000)
  (h:∀ h' tk,(∀ b o,s.heap.get? b=Ab o->h'.get? b=Ab o)->s.heap.objs.size<h'.objs.size->Q ((qP w S ep es).toList.map (·.2)) { s with heap:=h',toks:=tk }) : Ap (Au prog w) A (collect (.ref S)) Q E s:=by
 have hS:S<s.heap.objs.size:=Az ho;unfold collect;refine Ad (Td (IP PySem.F.entry_proto_collect ?_));rw[IX PySem.F.plain_proto_collect _];show Ap _ A.in1 (newList [] >>= λl=>again (.builtin "list.__iadd__" ⟨[l,.ref S],[]⟩)) _ _ s;refine Ad (Dp (Al ⟨Pj Qz _,IP PySem.F.entry_list_iadd ?_⟩));rw[IX Qz _];have hD:(s.heap.push { cls:=.type "list",data:=.seq ([] : Aa Ac).toArray }).get? s.heap.objs.size=Ab { cls:=.type "list",data:=.seq #[] }:=Ba _ rfl;have ho1:(s.heap.push { cls:=.type "list",data:=.seq ([] : Aa Ac).toArray }).get? S=Ab (setO es ep t):=Ah _ ho;show Ap _ A.in1 (OB (.ref s.heap.objs.size) (.ref S) (.ref s.heap.objs.size)) _ _ _;unfold OB;have hT1:Pk { s with heap:=s.heap.push { cls:=.type "list",data:=.seq ([] : Aa Ac).toArray } } (.ref S) "set":=⟨_,ho1,rfl⟩
 refine Ad (Kk hT1 ?_);have h1:Py (.ref s.heap.objs.size) (.ref S)=false:=by simp[Py];exact Fw hS
 rw[Bj (by rw[h1];decide)]
 refine Ad (WR (s:={ s with heap:=s.heap.push { cls:=.type "list",data:=.seq ([] : Aa Ac).toArray } }) Z ho1 ?_)
 have hD2:=Ah (itO 0 0 S es.size ep) hD;have hT2:Pk { s with heap:=(s.heap.push { cls:=.type "list",data:=.seq ([] : Aa Ac).toArray }).push (itO 0 0 S es.size ep) } (.ref S) "set":=⟨_,Ah _ ho1,rfl⟩
 refine Ad (Em (WI hT2 ?_));refine Ru (λ_=>?_) (λhab=>absurd (by decide) hab)
 refine Ad (Gp (Ad ?_));show Ap _ _ (updateSeq s.heap.objs.size (·.push .none) >>= λ_=>updateSeq s.heap.objs.size (·.pop)) _ _ _
 refine Ad (Yi hD2 rfl ?_);have hD3:=Fo (Ew (·.push Dn)) hD2 rfl
 refine Yi (hz:=by seq_fits) hD3 rfl ?_
 have hD4:=Fo (Ew (·.pop)) hD3 rfl
 have sz:(s.heap.push { cls:=.type "list",data:=.seq ([] : Aa Ac).toArray }).objs.size=s.heap.objs.size+1:=Dw ..;have oth:∀ {b:Af} {o:Ci},b≠s.heap.objs.size->((s.heap.push { cls:=.type "list",data:=.seq ([] : Aa Ac).toArray }).push (itO 0 0 S es.size ep)).get? b=Ab o ->
   ((((s.heap.push { cls:=.type "list",data:=.seq ([] : Aa Ac).toArray }).push (itO 0 0 S es.size ep)).update s.heap.objs.size (Ew (·.push Dn))).update s.heap.objs.size (Ew (·.pop))).get? b=Ab o:=
  λhb e=>(Dk _ _ (Ft hb)).trans ((Dk _ _ (Ft hb)).trans e)
 have at0:=US (w:=w) (s:={ s with heap:=s.heap.push { cls:=.type "list",data:=.seq ([] : Aa Ac).toArray } }) Z ho1
 refine Al ⟨Pj PySem.F.plain_extend_loop _,?_⟩;refine codeAny_extend_loopS ((BD (prog:=prog) (A:=A.in1) (I:=(s.heap.push { cls:=.type "list",data:=.seq ([] : Aa Ac).toArray }).objs.size) hh (by rw[sz];exact Cq (Mv hS)) Z).toS) (by rw[Fi];lia) s.heap.objs.size ?_ _ es.size 0 _ #[] _ rfl (Gj _) ?_ hD4 (ItemsOf.nil _) λs' acc c hm hS' hacc=>?_
 .rw[sz]
  simp only[Ax,Eh,IM,Uu];exact⟨Cq (Ik _),Fw hS⟩
 .obtain⟨slot,a1,a2,a3⟩:=at0
  exact⟨slot,oth (by rw[sz];exact Fw (Ik _)) a1,oth (Cq hS) a2,a3⟩
 .show Ap _ A (load s.heap.objs.size >>= _) _ _ s'
  refine Ad (wpAny_load hS' ?_);obtain⟨h',g',d',tk',os'⟩:=s';have eg:g'=s.gens:=hm.gens;have ed:d'=s.drawn:=hm.drawn;have eo:os'=s.os:=hm.os;subst eg;subst ed;subst eo;have e:acc.toList=(qP w S ep es).toList.map (·.2):=by
   refine Pe λi=>?_;rw[Bk,Du,Bk];by_cases hi:i<es.size
   .have hi':i<acc.size:=by rw[hacc.1];exact hi
    obtain⟨e,he,q⟩:=hacc.2 i acc[i] (Ec hi');rw[Ec hi',he,Rq,q]
   .rw[Rv (by rw[hacc.1];lia),Rv (by rw[vS];lia)]
    rfl
  refine Al ?_;show Q acc.toList _;rw[e];refine h h' tk' (λb o q=>?_) (Az hS');have hb:b<s.heap.objs.size:=Az q;refine hm.heap b o (λhx=>?_) (oth (Cq hb) (Ah _ (Ah _ q)));simp only[Ax,Eh,IM] at hx;rcases hx with hx|hx
  .exact absurd hb (by rw[hx];exact Ek _)
  .exact absurd hb (by rw[hx,sz];exact Na.mpr (OM _))
end
noncomputable def t8:Ar->Bs->Ay Bs->Ai->Ai->Ai->Nu Fq Jw (Am Ai):=sortPriv% PySem.Builtin.gallop
noncomputable def Y0:Ay Bs->Ay Bs->Nu Fq Jw (Ay Bs):=sortPriv% PySem.Builtin.mergeLo
noncomputable def WZ:Ay Bs->Ay Bs->Nu Fq Jw (Ay Bs):=sortPriv% PySem.Builtin.mergeHi
noncomputable def nv:Bs:=(Dn,Dn)
section
variable {M:Ni}{A:Bv}{E:Ac->Ag->Prop}{s:Ag}{κ : Ll}{U:Bs->Prop}{r:Bs->Ak}
structure Cm (M:Ni)(A:Bv)(s:Ag)(κ : Ll)(U:Bs->Prop)(r:Bs->Ak):Prop where
 lt:∀ {x y:Bs},U x->U y->∀ {E:Ac->Ag->Prop} {Q:Am Ar->Fq->Prop} {st:Fq},kindOf st=κ->Q (Ab (decide (r x<r y))) st->wpS M A E s (lt' x y) Q st
theorem z0 {i:Ai}{Q:Bs->Fq->Prop}{st:Fq}(h:i<arr.size)(q:Q (arr.getD i nv) st):wpS M A E s (elem' arr i) Q st:=by
 rw[elem'_eq,getElem?_pos arr i h];have e:arr.getD i nv=arr[i]:=by simp[Ge,h]
 rw[e] at q;exact Bn q
theorem o3 (C:Cm M A s κ U r){left:Ar}{key:Bs}{arr:Ay Bs}{i:Ai}{Q:Am Ar->Fq->Prop}{st:Fq}(hk:kindOf st=κ)(hi:i<arr.size)(hU:U (arr.getD i nv))(hkU:U key)
  (q:Q (Ab (if left then decide (r (arr.getD i nv)<r key) else !decide (r key<r (arr.getD i nv)))) st) :
  wpS M A E s (do let x <- elem' arr i;if left then lt' x key else (do let a <- lt' key x;pure (a.map (λb=>!b)))) Q st:=by
 refine AT (z0 hi ?_);cases left with
 |true=>exact C.lt hU hkU hk q
 |false=>exact AT (C.lt hkU hU hk (Bn q))
theorem mE (C:Cm M A s κ U r){left:Ar}{key:Bs}{arr:Ay Bs}{base n hint cut:Ai}{Q:Am Ai->Fq->Prop}{st:Fq}(hk:kindOf st=κ)(hh:hint<n)(hb:base+n<=arr.size)(hU:∀ i,i<n->U (arr.getD (base+i) nv))(hkU:U key)(hc:cut<=n)
  (hB:∀ i,i<n->(if left then decide (r (arr.getD (base+i) nv)<r key) else !decide (r key<r (arr.getD (base+i) nv)))=decide (i<cut)) (h:Q (Ab cut) st):wpS M A E s (t8 left key arr base n hint) Q st:=by
 have B:∀ {i:Ai} {E:Ac->Ag->Prop} {Q:Am Ar->Fq->Prop},i<n->Q (Ab (decide (i<cut))) st->wpS M A E s (do let x <- elem' arr (base+i);if left then lt' x key else (do let a <- lt' key x;pure (a.map (λb=>!b)))) Q st:=by
  intro i E Q hi q;exact o3 C hk (by lia) (hU i hi) hkU (by rw[hB i hi];exact q)
 have bin:∀ {lo hi:Ai} {f:Ai->Am (Am Ai) × Ai × Ai->Nu Fq Jw (ForInStep (Am (Am Ai) × Ai × Ai))},lo<=cut->cut<=hi->hi<=n ->
   (∀ x a b,f x (none,a,b)=if a>=b then pure (.done (none,a,b)) else ((do let x <- elem' arr (base+(a+(b-a)/2));if left then lt' x key else (do let a <- lt' key x;pure (a.map (λb=>!b)))) >>= λo=>match o with
    |some more=>if more then pure (.yield (none,a+(b-a)/2+1,b)) else pure (.yield (none,a,a+(b-a)/2))
    |_=>pure (.done (Ab none,a,b))))->wpS M A E s (forIn [0:n] (none,lo,hi) f) (λc st'=>st'=st/\∃ a,c=(none,a,cut)) st:=by
  intro lo hi f h1 h2 h3 hf;refine Ff (I:=λx c st'=>st'=st/\∃ a b,c=(none,a,b)/\a<=cut/\cut<=b/\b<=n/\b-a<=n-x) ?_ ?_ ⟨rfl,lo,hi,rfl,h1,h2,h3,by lia⟩
  .rintro x c st' _ hx ⟨rfl,a,b,rfl,q1,q2,q3,q4⟩
   rw[hf];by_cases g:a>=b
   .rw[Bp g];exact Bn ⟨rfl,a,by rw[show b=cut by lia]⟩
   .rw[Bj g]
    refine AT (B (by lia) ?_)
    by_cases z:a+(b-a)/2<cut
    .simp only[z,Jf,Dx]
     exact Bn ⟨rfl,_,_,rfl,by lia,q2,q3,by lia⟩
    .simp only[z,Ji,By,Ef]
     exact Bn ⟨rfl,_,_,rfl,q1,by lia,by lia,by lia⟩
  .rintro c st' ⟨rfl,a,b,rfl,q1,q2,q3,q4⟩
   exact⟨rfl,a,by rw[show b=cut by lia]⟩
 refine AT (B hh ?_);dsimp only;by_cases hr:hint<cut
 .simp only[hr,Jf,Dx]
  refine AT (Hc (Ff (I:=λx c st'=>st'=st/\∃ a b,c=(none,a,b)/\hint+a<cut/\a<b/\x<b)
   (Q:=λc st'=>st'=st/\∃ a b,c=(none,a,b)/\hint+a<cut/\cut<=hint+min b (n-hint)) ?_ ?_ ⟨rfl,0,1,rfl,hr,by lia,by lia⟩) ?_)
  .rintro x c st' _ hx ⟨rfl,a,b,rfl,q1,q2,q3⟩
   dsimp only;by_cases g:b>=n-hint
   .rw[Bp g];exact Bn ⟨rfl,a,b,rfl,q1,by lia⟩
   .rw[Bj g]
    refine AT (B (by lia) ?_)
    by_cases z:hint+b<cut
    .simp only[z,Jf,Js,By,Ef]
     exact Bn ⟨rfl,_,_,rfl,z,by lia,by lia⟩
    .simp only[z,Ji,Tc,Dx]
     exact Bn ⟨rfl,a,b,rfl,q1,by lia⟩
  .rintro c st' ⟨rfl,a,b,rfl,q1,q2,q3⟩
   exact⟨rfl,a,b,rfl,q1,by lia⟩
  .rintro c st' ⟨rfl,a,b,rfl,q1,q2⟩
   dsimp only;refine AT (Hc (bin (lo:=hint+a+1) (hi:=hint+min b (n-hint)) (by lia) q2 (by lia) λ_ _ _=>rfl) ?_)
   rintro c st' ⟨rfl,a',rfl⟩;exact Bn h
 .simp only[hr,Ji,By,Ef]
  refine AT (Hc (Ff (I:=λx c st'=>st'=st/\∃ a b,c=(none,a,b)/\cut+a<=hint/\a<b/\x<b)
   (Q:=λc st'=>st'=st/\∃ a b,c=(none,a,b)/\cut+a<=hint/\hint+1<=cut+min b (hint+1)) ?_ ?_ ⟨rfl,0,1,rfl,by lia,by lia,by lia⟩) ?_)
  .rintro x c st' _ hx ⟨rfl,a,b,rfl,q1,q2,q3⟩
   dsimp only;by_cases g:b>=hint+1
   .rw[Bp g];exact Bn ⟨rfl,a,b,rfl,q1,by lia⟩
   .rw[Bj g]
    refine AT (B (by lia) ?_)
    by_cases z:hint-b<cut
    .simp only[z,Jf,Dx]
     exact Bn ⟨rfl,a,b,rfl,q1,by lia⟩
    .simp only[z,Ji,By,Ef]
     exact Bn ⟨rfl,_,_,rfl,by lia,by lia,by lia⟩
  .rintro c st' ⟨rfl,a,b,rfl,q1,q2,q3⟩
   exact⟨rfl,a,b,rfl,q1,by lia⟩
  .rintro c st' ⟨rfl,a,b,rfl,q1,q2⟩
   dsimp only;refine AT (Hc (bin (lo:=hint+1-min b (hint+1)) (hi:=hint-a) (by lia) (by lia) (by lia) λ_ _ _=>rfl) ?_)
   rintro c st' ⟨rfl,a',rfl⟩;exact Bn h
end
def Le (r:Bs->Ak)(x y:Bs):Prop:=r x<=r y
structure Mg (r:Bs->Ak)(o A B T:Aa Bs):Prop where
 p1:(o++A).Pairwise (Le r)
 p2:(o++B).Pairwise (Le r)
 pm:(o++A++B).Perm T
structure Mh (r:Bs->Ak)(A B o T:Aa Bs):Prop where
 p1:(A++o).Pairwise (Le r)
 p2:(B++o).Pairwise (Le r)
 pm:(A++B++o).Perm T
section
variable {r:Bs->Ak}{o A B A1 A2 B1 B2 T:Aa Bs}
theorem Mg.b (h:Mg r o A (B1++B2) T)(l:∀ x∈B1,∀ y∈A,Le r x y):Mg r (o++B1) A B2 T:=by
 obtain⟨p1,p2,pm⟩:=h;refine⟨?_,by rw[Cc];exact p2,?_⟩
 .rw[Cc]
  rw[Ds] at p1 p2 ⊢;refine⟨p1.1,?_,λx hx y hy=>?_⟩
  .rw[Ds]
   exact⟨(Ds.mp p2.2.1).1,p1.2.1,l⟩
  .rcases Ce.mp hy with hy|hy
   .exact p2.2.2 x hx y (Cj _ hy)
   .exact p1.2.2 x hx y hy
 .refine Og ?_ pm
  simp only[Cc];refine Ho _ ?_;simp only[<- Cc];exact Jt _ Kc
theorem Mg.a (h:Mg r o (A1++A2) B T)(l:∀ x∈A1,∀ y∈B,Le r x y):Mg r (o++A1) A2 B T:=by
 obtain⟨p1,p2,pm⟩:=h;refine⟨by rw[Cc];exact p1,?_,by simpa only [Cc] using pm⟩
 rw[Cc];rw[Ds] at p1 p2 ⊢;refine⟨p2.1,?_,λx hx y hy=>?_⟩
 .rw[Ds]
  exact⟨(Ds.mp p1.2.1).1,p2.2.1,l⟩
 .rcases Ce.mp hy with hy|hy
  .exact p1.2.2 x hx y (Cj _ hy)
  .exact p2.2.2 x hx y hy
theorem Mh.a (h:Mh r (A1++A2) B o T)(l:∀ x∈B,∀ y∈A2,Le r x y):Mh r A1 B (A2++o) T:=by
 obtain⟨p1,p2,pm⟩:=h;refine⟨by rw[<- Cc];exact p1,?_,?_⟩
 .rw[Cc] at p1
  rw[Ds] at p1 p2 ⊢;refine⟨p2.1,p1.2.1,λx hx y hy=>?_⟩;rcases Ce.mp hy with hy|hy
  .exact l x hx y hy
  .exact p2.2.2 x hx y hy
 .refine Og ?_ pm
  simp only[Cc];refine Ho _ ?_;simp only[<- Cc];exact Jt _ Kc
theorem Mh.b (h:Mh r A (B1++B2) o T)(l:∀ x∈A,∀ y∈B2,Le r x y):Mh r A B1 (B2++o) T:=by
 obtain⟨p1,p2,pm⟩:=h;refine⟨?_,by rw[<- Cc];exact p2,by simpa only [Cc] using pm⟩
 rw[Cc] at p2;rw[Ds] at p1 p2 ⊢;refine⟨p1.1,p2.2.1,λx hx y hy=>?_⟩;rcases Ce.mp hy with hy|hy
 .exact l x hx y hy
 .exact p1.2.2 x hx y hy
end
structure Mo (r:Bs->Ak)(T:Aa Bs)(m:Ay Bs):Prop where
 pm:m.toList.Perm T
 up:m.toList.Pairwise (Le r)
noncomputable abbrev yN (st:Fq)(g:Ai):Fq:=Dj (kindOf st) (arrOf st) (pendingOf st) g (failedOf st)
theorem mR {a:Ay Bs}{i:Ai}(h:i<a.size):a.toList.drop i=a.getD i nv::a.toList.drop (i+1):=by
 rw[Hk (by simpa using h)]
 congr 1
 simp[Ge,h]
theorem zN {a:Ay Bs}{i:Ai}(h:i<a.size):a.getD i nv∈a.toList:=by
 have e:a.getD i nv=a[i]:=by simp[Ge,h]
 rw[e];exact Array.getElem_mem_toList h
theorem wM {r:Bs->Ak}{a:Ay Bs}(s:a.toList.Pairwise (Le r)){i j:Ai}(h:i<=j)(hj:j<a.size):r (a.getD i nv)<=r (a.getD j nv):=by
 rcases f8 i j with l|l
 .have e:=IV.mp s i j (by simpa using Ia l hj) (by simpa using hj) l
  have hi:i<a.size:=Ia l hj;simpa [Ge,hi,hj,Le] using e
 .rw[Oh h l];exact Lm _
theorem kB {a:Ay Bs}{i:Ai}{x:Bs}(h:x∈a.toList.drop i):∃ j,i<=j/\j<a.size/\x=a.getD j nv:=by
 obtain⟨k,hk,e⟩:=Cn.mp h;rw[Ph] at e;have hk':k<a.size-i:=by simpa using hk
 refine⟨i+k,by lia,by lia,?_⟩
 have:i+k<a.size:=by lia
 simp[Ge,this,<- e]
theorem kF {a:Ay Bs}{x:Bs}(h:x∈a.toList.take n):∃ j,j<n/\j<a.size/\x=a.getD j nv:=by
 obtain⟨k,hk,e⟩:=Cn.mp h;rw[Pg] at e;have hk':k<n/\k<a.size:=by rw[Fc,Bg] at hk;lia
 refine⟨k,hk'.1,hk'.2,?_⟩;simp[Ge,hk'.2,<- e]
theorem bK {a:Ay Bs}{i k:Ai}:(a.extract i (i+k)).toList++a.toList.drop (i+k)=a.toList.drop i:=by
 rw[IY,Hq,Jj,<- List.drop_drop];exact Nv _ _
theorem pG {a:Ay Bs}{i:Ai}:(a.extract i a.size).toList=a.toList.drop i:=by
 rw[IY,Hq];exact Hd (by simp)
theorem tM {a:Ay Bs}{i k:Ai}{x:Bs}(h:x∈(a.extract i (i+k)).toList):∃ j,i<=j/\j<i+k/\j<a.size/\x=a.getD j nv:=by
 rw[IY,Hq,Jj] at h;obtain⟨m,hm,e⟩:=Cn.mp h;rw[Pg,Ph] at e;have hm':m<k/\i+m<a.size:=by rw[Fc,Ko,Bg] at hm;lia
 refine⟨i+m,by lia,by lia,hm'.2,?_⟩
 simp[Ge,hm'.2,<- e]
def GL (r:Bs->Ak)(a b o:Ay Bs)(i j:Ai):Prop:=Mg r o.toList (a.toList.drop i) (b.toList.drop j) (a.toList++b.toList)
section
variable {r:Bs->Ak}{a b o:Ay Bs}{i j k:Ai}
theorem GL.pb (sa:a.toList.Pairwise (Le r))(h:GL r a b o i j)(hj:j<b.size)(l:i<a.size->r (b.getD j nv)<=r (a.getD i nv)):GL r a b (o.push (b.getD j nv)) i (j+1):=by
 have h':Mg r o.toList (a.toList.drop i) ([b.getD j nv]++b.toList.drop (j+1)) (a.toList++b.toList):=by rw[Sl,<- mR hj];exact h
 have:=h'.b λx hx y hy=>by
  cases Cw.mp hx;obtain⟨m,h1,h2,rfl⟩:=kB hy;exact Fn (l (by lia)) (wM sa h1 h2)
 unfold GL;rw[Ei];exact this
theorem GL.pa (sb:b.toList.Pairwise (Le r))(h:GL r a b o i j)(hi:i<a.size)(l:j<b.size->r (a.getD i nv)<=r (b.getD j nv)):GL r a b (o.push (a.getD i nv)) (i+1) j:=by
 have h':Mg r o.toList ([a.getD i nv]++a.toList.drop (i+1)) (b.toList.drop j) (a.toList++b.toList):=by rw[Sl,<- mR hi];exact h
 have:=h'.a λx hx y hy=>by
  cases Cw.mp hx;obtain⟨m,h1,h2,rfl⟩:=kB hy;exact Fn (l (by lia)) (wM sb h1 h2)
 unfold GL;rw[Ei];exact this
theorem GL.ea (sb:b.toList.Pairwise (Le r))(h:GL r a b o i j)(hj:j<b.size)(l:∀ m,m<k->r (a.getD (i+m) nv)<=r (b.getD j nv)):GL r a b (o++a.extract i (i+k)) (i+k) j:=by
 have h':Mg r o.toList ((a.extract i (i+k)).toList++a.toList.drop (i+k)) (b.toList.drop j) (a.toList++b.toList):=by rw[bK];exact h
 have:=h'.a λx hx y hy=>by
  obtain⟨m,h1,h2,h3,rfl⟩:=tM hx;obtain⟨m',h4,h5,rfl⟩:=kB hy;have:=l (m-i) (by lia)
  rw[show i+(m-i)=m by lia] at this
  exact Fn this (wM sb h4 h5)
 unfold GL;rw[Ed];exact this
theorem GL.eb (sa:a.toList.Pairwise (Le r))(h:GL r a b o i j)(hi:i<a.size)(l:∀ m,m<k->r (b.getD (j+m) nv)<=r (a.getD i nv)):GL r a b (o++b.extract j (j+k)) i (j+k):=by
 have h':Mg r o.toList (a.toList.drop i) ((b.extract j (j+k)).toList++b.toList.drop (j+k)) (a.toList++b.toList):=by rw[bK];exact h
 have:=h'.b λx hx y hy=>by
  obtain⟨m,h1,h2,h3,rfl⟩:=tM hx;obtain⟨m',h4,h5,rfl⟩:=kB hy;have:=l (m-j) (by lia)
  rw[show j+(m-j)=m by lia] at this
  exact Fn this (wM sa h4 h5)
 unfold GL;rw[Ed];exact this
theorem GL.fin (h:GL r a b o i j)(e:i=a.size\/j=b.size):Mo r (a.toList++b.toList) (o++a.extract i a.size++b.extract j b.size):=by
 refine⟨?_,?_⟩ <;> rw[Ed,Ed,pG,pG]
 .exact h.pm
 .rcases e with rfl|rfl
  .rw[Nc (by simp),Gz];exact h.p2
  .rw[Nc (l:=b.toList) (by simp),Gz];exact h.p1
theorem GL.last (h:GL r a b o i j)(e:i+1=a.size)(l:∀ x∈b.toList,Le r x (a.getD (a.size-1) nv)):Mo r (a.toList++b.toList) (o++b.extract j b.size++a.extract i a.size):=by
 have hi:i<a.size:=by lia
 have hd:a.toList.drop i=[a.getD i nv]:=by rw[mR hi,Nc (by simp;lia)]
 refine⟨?_,?_⟩ <;> rw[Ed,Ed,pG,pG]
 .refine Og ?_ h.pm
  rw[Cc,Cc];exact Ho _ Kc
 .have p1:=h.p1
  rw[hd] at p1 ⊢;rw[Ds] at p1 ⊢;refine⟨h.p2,Ra _ _,λx hx y hy=>?_⟩;rcases Ce.mp hx with hx|hx
  .exact p1.2.2 x hx y hy
  .cases Cw.mp hy
   have:=l x (Tl hx);rw[show a.size-1=i by lia] at this
   exact this
end
theorem dM {p:Ai->Ar}:∀ (n:Ai),(∀ i j,i<=j->j<n->p j=true->p i=true)->∃ c,c<=n/\∀ i,i<n->p i=decide (i<c)
 |0,_=>⟨0,As _,λi h=>by lia⟩
 |n+1,h=>by
  obtain⟨c,hc,e⟩:=dM n λi j a b=>h i j a (by lia)
  by_cases q:p n=true
  .refine⟨n+1,As _,λi hi=>?_⟩
   rw[h i n (by lia) (by lia) q]
   simp[hi]
  .refine⟨c,by lia,λi hi=>?_⟩
   rcases f8 i n with l|l
   .exact e i l
   .have:i=n:=by lia
    subst this;have:¬ i<c:=by lia
    simp[this,q]
section
variable {M:Ni}{A:Bv}{E:Ac->Ag->Prop}{s:Ag}{κ : Ll}{U:Bs->Prop}{r:Bs->Ak}
theorem qM {σ α:Type}{c:Prop}[IQ c]{x y:Nu σ Jw α}{Q:α->σ->Prop}{st:σ}(h1:c->wpS M A E s x Q st)(h2:¬ c->wpS M A E s y Q st):wpS M A E s (if c then x else y) Q st:=by
 by_cases h:c
 .rw[Bp h];exact h1 h
 .rw[Bj h];exact h2 h
theorem WC (C:Cm M A s κ U r){key:Bs}{arr:Ay Bs}{base n hint:Ai}{Q:Am Ai->Fq->Prop}{st:Fq}(hk:kindOf st=κ)(hh:hint<n)(hb:base+n<=arr.size)(hU:∀ i,i<n->U (arr.getD (base+i) nv))(hkU:U key)
  (sa:∀ i j,i<=j->j<n->r (arr.getD (base+i) nv)<=r (arr.getD (base+j) nv)) (h:∀ c,c<=n->(∀ i,i<c->r (arr.getD (base+i) nv)<=r key)->(∀ i,c<=i->i<n->r key<r (arr.getD (base+i) nv))->Q (Ab c) st):wpS M A E s (t8 false key arr base n hint) Q st:=by
 obtain⟨c,hc,e⟩:=dM (p:=λi=>!decide (r key<r (arr.getD (base+i) nv))) n λi j a b q=>by
  have:=sa i j a b;simp only[Mr,Ib] at q ⊢
  lia
 refine mE C hk hh hb hU hkU hc (λi hi=>by simpa using e i hi) (h c hc (λi hi=>?_) λi hi hn=>?_)
 .have:=e i (by lia)
  simp only[hi,Jf,Mr,Ib] at this
  lia
 .have:=e i hn
  simp only[show ¬ i<c by lia,Ji,Bool.not_eq_false',Cb] at this
  exact this
theorem WD (C:Cm M A s κ U r){key:Bs}{arr:Ay Bs}{base n hint:Ai}{Q:Am Ai->Fq->Prop}{st:Fq}(hk:kindOf st=κ)(hh:hint<n)(hb:base+n<=arr.size)(hU:∀ i,i<n->U (arr.getD (base+i) nv))(hkU:U key)
  (sa:∀ i j,i<=j->j<n->r (arr.getD (base+i) nv)<=r (arr.getD (base+j) nv)) (h:∀ c,c<=n->(∀ i,i<c->r (arr.getD (base+i) nv)<r key)->(∀ i,c<=i->i<n->r key<=r (arr.getD (base+i) nv))->Q (Ab c) st):wpS M A E s (t8 true key arr base n hint) Q st:=by
 obtain⟨c,hc,e⟩:=dM (p:=λi=>decide (r (arr.getD (base+i) nv)<r key)) n λi j a b q=>by
  have:=sa i j a b;simp only[Cb] at q ⊢
  lia
 refine mE C hk hh hb hU hkU hc (λi hi=>by simpa using e i hi) (h c hc (λi hi=>?_) λi hi hn=>?_)
 .have:=e i (by lia)
  simp only[hi,Jf,Cb] at this;exact this
 .have:=e i hn
  simp only[show ¬ i<c by lia,Ji,Ib] at this
  lia
end
section
variable {M:Ni}{A:Bv}{E:Ac->Ag->Prop}{s:Ag}{σ α γ δ:Type}{Q:α->σ->Prop}{st:σ}{c c' c2:Prop}[IQ c][IQ c'][IQ c2]
theorem cO {K:γ->Nu σ Jw α}{x y:γ}(h:∀ z,wpS M A E s (K z) Q st):wpS M A E s (if c then K x else K y) Q st:=qM (λ_=>h x) λ_=>h y
theorem ZZ {K:γ->δ->Nu σ Jw α}{u:Nu σ Jw α}{x y:γ}{w v:δ}(P:γ->δ->Prop)(hK:∀ z w,P z w->wpS M A E s (K z w) Q st)(h1:c->c'->wpS M A E s u Q st)(h2:c->¬ c'->P x w)(h3:¬ c->P y v):wpS M A E s (if c then (if c' then u else K x w) else K y v) Q st:=qM (λe=>qM (h1 e) λe'=>hK _ _ (h2 e e')) λe=>hK _ _ (h3 e)
theorem X0 {K:γ->δ->Nu σ Jw α}{u u':Nu σ Jw α}{x y:γ}{w v:δ}(P:γ->δ->Prop)(hK:∀ z w,P z w->wpS M A E s (K z w) Q st)(h1:c->c'->wpS M A E s u Q st)(h1':c->¬ c'->c2->wpS M A E s u' Q st)(h2:c->¬ c'->¬ c2->P x w)(h3:¬ c->P y v):wpS M A E s (if c then (if c' then u else if c2 then u' else K x w) else K y v) Q st:=qM (λe=>qM (h1 e) λe'=>qM (h1' e e') λe2=>hK _ _ (h2 e e' e2)) λe=>hK _ _ (h3 e)
end
section
variable {prog:Be}{w:Bx}{A:Bv}{E:Ac->Ag->Prop}{s:Ag}{κ : Ll}{U:Bs->Prop}{r:Bs->Ak}
theorem rT (C:Cm (Au prog w) A s κ U r){a b:Ay Bs}{Q:Ay Bs->Fq->Prop}{st:Fq}(hk:kindOf st=κ)(ua:∀ x∈a.toList,U x)(ub:∀ x∈b.toList,U x)(sa:a.toList.Pairwise (Le r))(sb:b.toList.Pairwise (Le r))
  (h:∀ m g,Mo r (a.toList++b.toList) m->Q m (yN st g)) (ha:0<a.size) (hb:0<b.size) (h0:r (b.getD 0 nv)<=r (a.getD 0 nv)) (h1:∀ x∈b.toList,Le r x (a.getD (a.size-1) nv)):wpS (Au prog w) A E s (Y0 a b) Q st:=by
 have G0:GL r a b #[] 0 0:=⟨by simpa using sa,by simpa using sb,by simp⟩
 have G1:=G0.pb sa hb λ_=>h0;refine AT (OS (Gp ⟨rfl,?_⟩));refine AT (z0 hb ?_);dsimp only;refine qM (λe=>Bn (h _ (Rw st) (G1.fin (.inr (by simpa using e))))) λe1=>?_
 refine qM (λe=>Bn (h _ (Rw st) (G1.last (by simpa using e) h1))) λe2=>?_
 have e1:1<b.size:=by
  have:¬ 1=b.size:=by simpa using e1
  lia
 have e2:0+1<a.size:=by
  have:¬ 0+1=a.size:=by simpa using e2
  lia
 refine AT (Mf ?_);refine AT (Hc (Ff (I:=λx c st'=>(∃ g,st'=yN st g)/\∃ o i j g,c=(none,o,i,j,g)/\GL r a b o i j/\i+1<a.size/\j<b.size/\x<i+j)
  (Q:=λc st'=>(∃ g,st'=yN st g)/\∃ m,c.1=Ab m/\Mo r (a.toList++b.toList) m) ?_ ?_ ⟨⟨Rw st,rfl⟩,_,0,1,_,rfl,G1,e2,e1,by lia⟩) ?_)
 .rintro x c st' _ hx ⟨⟨g,rfl⟩,o,i,j,mg,rfl,G,hi,hj,hp⟩
  dsimp only;refine AT (Hc (Ff (I:=λy c st'=>(∃ g,st'=yN st g)/\∃ o i' j' p q,c=(none,o,i',j',p,q)/\GL r a b o i' j'/\i'+1<a.size/\j'<b.size/\i+j+y<=i'+j')
   (Q:=λc st'=>(∃ g,st'=yN st g)/\((∃ m,c.1=Ab m/\Mo r (a.toList++b.toList) m)\/∃ o i' j' p q,c=(none,o,i',j',p,q)/\GL r a b o i' j'/\i'+1<a.size/\j'<b.size/\x+1<i'+j')) ?_ ?_ ⟨⟨g,rfl⟩,o,i,j,0,0,rfl,G,hi,hj,by lia⟩) ?_)
  .rintro y c st' _ hy ⟨⟨g,rfl⟩,o,i',j',p,q,rfl,G,hi,hj,hq⟩
   dsimp only;refine AT (z0 hj (AT (z0 (i:=i') (by lia) (AT (C.lt (ub _ (zN hj)) (ua _ (zN (i:=i') (by lia))) hk ?_)))))
   dsimp only;refine qM (λl=>?_) λl=>?_
   .have l:r (b.getD j' nv)<r (a.getD i' nv):=by simpa using l
    have G2:=G.pb sa hj λ_=>Hi l;refine AT (z0 hj ?_);refine qM (λe=>?_) λe=>?_
    .exact Bn ⟨⟨g,rfl⟩,.inl ⟨_,rfl,G2.fin (.inr (by simpa using e))⟩⟩
    .have e:¬ j'+1=b.size:=by simpa using e
     refine qM (λ_=>?_) λ_=>?_
     .exact Bn ⟨⟨g,rfl⟩,.inr ⟨_,_,_,_,_,rfl,G2,hi,by lia,by lia⟩⟩
     .exact Bn ⟨⟨g,rfl⟩,_,_,_,_,_,rfl,G2,hi,by lia,by lia⟩
   .have l:¬ r (b.getD j' nv)<r (a.getD i' nv):=by simpa using l
    have G2:=G.pa sb (by lia) λ_=>Ou.mp l
    refine AT (z0 (i:=i') (by lia) ?_)
    refine qM (λe=>?_) λe=>?_
    .exact Bn ⟨⟨g,rfl⟩,.inl ⟨_,rfl,G2.last (by simpa using e) h1⟩⟩
    .have e:¬ i'+1+1=a.size:=by simpa using e
     refine qM (λ_=>?_) λ_=>?_
     .exact Bn ⟨⟨g,rfl⟩,.inr ⟨_,_,_,_,_,rfl,G2,by lia,hj,by lia⟩⟩
     .exact Bn ⟨⟨g,rfl⟩,_,_,_,_,_,rfl,G2,by lia,hj,by lia⟩
  .rintro c st' ⟨z,o,i',j',p,q,rfl,G,hi,hj,hq⟩
   exact⟨z,.inr ⟨_,_,_,_,_,rfl,G,hi,hj,by lia⟩⟩
  .rintro c st' ⟨⟨g,rfl⟩,⟨m,hc,hm⟩|⟨o,i',j',p,q,rfl,G,hi,hj,hq⟩⟩
   .obtain⟨c0,c1⟩:=c
    cases hc;exact Bn ⟨⟨g,rfl⟩,m,rfl,hm⟩
   dsimp only;refine AT (OS (Gp ⟨rfl,?_⟩));refine AT (Hc (Ff (I:=λy c st'=>(∃ g,st'=yN st g)/\∃ o i' j' p q t,c=(none,o,i',j',p,q,t)/\GL r a b o i' j'/\i'+1<a.size/\j'<b.size/\x+1<i'+j')
    (Q:=λc st'=>(∃ g,st'=yN st g)/\((∃ m,c.1=Ab m/\Mo r (a.toList++b.toList) m)\/∃ o i' j' p q t,c=(none,o,i',j',p,q,t)/\GL r a b o i' j'/\i'+1<a.size/\j'<b.size/\x+1<i'+j')) ?_ ?_ ⟨⟨g,rfl⟩,o,i',j',_,_,_,rfl,G,hi,hj,hq⟩) ?_)
   .rintro y c st' _ hy ⟨⟨g,rfl⟩,o,i,j,p,q,t,rfl,G,hi,hj,hq⟩
    dsimp only;generalize p-1=p1;apply cO (x:=p1) (y:=p);intro mg;have hi0:i<a.size:=Pl hi;refine AT (IK ?_);refine AT (z0 hj ?_);refine AT (WC C hk (Pm hi0) (Vy (Uk (Fe hi0))) (λi' hi'=>ua _ (zN (Ke hi'))) (ub _ (zN hj)) (λi' j' h1 h2=>wM sa (Ih h1 _) (Ke h2)) λk k1 k2 k3=>?_);dsimp only;have G2:=G.ea sb hj k2;have k4:i+k<=a.size:=Sm (Fe hi0) k1;have k5:i+k<a.size->r (b.getD j nv)<r (a.getD (i+k) nv):=λh=>k3 k (As _) (Tn (by rw[Qx];exact h))
    have k6:x+1<i+k+j:=Bc hq (To (Hm _ _) _);have k7:k=0->i=i+k:=λh=>by rw[h];rfl
    generalize i+k=i1 at G2 k4 k5 k6 k7 ⊢;generalize o++a.extract i i1=o1 at G2 ⊢;apply X0 (x:=o1) (w:=i1) (y:=o) (v:=i) (P:=λout ia=>GL r a b out ia j/\ia+1<a.size/\x+1<ia+j/\r (b.getD j nv)<r (a.getD ia nv))
    case h1=>exact λ_ e=>Bn ⟨⟨_,rfl⟩,.inl ⟨_,rfl,G2.last (by simpa using e) h1⟩⟩
    case h1'=>exact λ_ _ e=>Bn ⟨⟨_,rfl⟩,.inl ⟨_,rfl,G2.fin (.inl (by simpa using e))⟩⟩
    case h2 =>
     intro _ e3 e4;have e3:¬ i1+1=a.size:=by simpa using e3
     have e4:¬ i1=a.size:=by simpa using e4
     have e5:i1<a.size:=Ht k4 e4;exact⟨G2,Ht e5 e3,k6,k5 e5⟩
    case h3 =>
     intro e;have e:=k7 (Ju e);exact⟨G,hi,hq,by rw[e];exact k5 (by rw[<- e];exact hi0)⟩
    case hK =>
     rintro out ia ⟨G2,hl,hq,hc⟩;have ha0:ia<a.size:=Pl hl;refine AT (z0 hj ?_);have G3:=G2.pb sa hj λ_=>Hi hc;refine qM (λe=>Bn ⟨⟨_,rfl⟩,.inl ⟨_,rfl,G3.fin (.inr (by simpa using e))⟩⟩) λe5=>?_
     have e5:¬ j+1=b.size:=by simpa using e5
     have hj1:j+1<b.size:=Ht hj e5;refine AT (z0 ha0 ?_);refine AT (WD C hk (Pm hj1) (Vy (Uk hj)) (λi hi=>ub _ (zN (Ke hi))) (ua _ (zN ha0)) (λi j h1 h2=>wM sb (Ih h1 _) (Ke h2)) λm m1 m2 m3=>?_);dsimp only;have G4:=G3.eb sa ha0 λi hi=>Hi (m2 i hi);have m4:j+1+m<=b.size:=Sm hj m1;have m5:j+1+m<b.size->r (a.getD ia nv)<=r (b.getD (j+1+m) nv):=λh=>m3 m (As _) (Tn (by rw[Qx];exact h))
     have m6:j+1<=j+1+m:=Hm _ _;have m7:m=0->j+1=j+1+m:=λh=>by rw[h]
     generalize j+1+m=j1 at G4 m4 m5 m6 m7 ⊢;generalize out.push (b.getD j nv)++b.extract (j+1) j1=o2 at G4 ⊢;apply ZZ (x:=o2) (w:=j1) (y:=out.push (b.getD j nv)) (v:=j+1) (P:=λout ib=>GL r a b out ia ib/\ib<b.size/\j+1<=ib/\r (a.getD ia nv)<=r (b.getD ib nv))
     case h1=>exact λ_ e=>Bn ⟨⟨_,rfl⟩,.inl ⟨_,rfl,G4.fin (.inr (by simpa using e))⟩⟩
     case h2 =>
      intro _ e6;have e6:¬ j1=b.size:=by simpa using e6
      have e7:=Ht m4 e6;exact⟨G4,e7,m6,m5 e7⟩
     case h3 =>
      intro e;have e:=m7 (Ju e);exact⟨G3,hj1,As _,by rw[e];exact m5 (by rw[<- e];exact hj1)⟩
     case hK =>
      rintro out ib ⟨G4,hb1,hb2,hc4⟩;refine AT (z0 ha0 ?_);have G5:=G4.pa sb ha0 λ_=>hc4;refine qM (λe=>Bn ⟨⟨_,rfl⟩,.inl ⟨_,rfl,G5.last (by simpa using e) h1⟩⟩) λe7=>?_
      have e7:¬ ia+1+1=a.size:=by simpa using e7
      have e8:ia+1+1<a.size:=Ht hl e7;have e9:x+1<ia+1+ib:=Bc hq (Yz (OM _) (Nat.le_of_succ_le hb2));exact qM (λ_=>Bn ⟨⟨_,rfl⟩,.inr ⟨_,_,_,_,_,_,rfl,G5,e8,hb1,e9⟩⟩) λ_=>Bn ⟨⟨_,rfl⟩,_,_,_,_,_,_,rfl,G5,e8,hb1,e9⟩
   .rintro c st' ⟨z,o,i',j',p,q,t,rfl,G,hi,hj,hq⟩
    exact⟨z,.inr ⟨_,_,_,_,_,_,rfl,G,hi,hj,by lia⟩⟩
   .rintro c st' ⟨⟨g,rfl⟩,⟨m,hc,hm⟩|⟨o,i',j',p,q,t,rfl,G,hi,hj,hq⟩⟩
    .obtain⟨c0,c1⟩:=c
     cases hc;exact Bn ⟨⟨g,rfl⟩,m,rfl,hm⟩
    dsimp only;refine AT (IK ?_);exact Bn ⟨⟨_,rfl⟩,_,_,_,_,rfl,G,hi,hj,by lia⟩
 .rintro c st' ⟨z,o,i',j',p,rfl,G,hi,hj,hq⟩
  exfalso
  lia
 .rintro c st' ⟨⟨g,rfl⟩,m,hc,hm⟩
  obtain⟨c0,c1⟩:=c;cases hc;exact Bn (h m g hm)
end
theorem nB {a:Ay Bs}(h:0<n)(hn:n<=a.size):a.toList.take n=a.toList.take (n-1)++[a.getD (n-1) nv]:=by
 obtain⟨m,rfl⟩:∃ m,n=m+1:=⟨n-1,by lia⟩
 rw[Nat.add_sub_cancel,List.take_add_one];have hm:m<a.size:=by lia
 simp[Ge,hm]
theorem dS {a:Ay Bs}{i:Ai}(h:i<=n):a.toList.take i++(a.extract i n).toList=a.toList.take n:=by
 rw[IY,Hq]
 conv=>rhs;rw[show n=i+(n-i) by lia,List.take_add]
theorem jW {a:Ay Bs}:(a.extract 0 n).toList=a.toList.take n:=by
 rw[IY,Hq];simp
theorem kE {a:Ay Bs}{i:Ai}{x:Bs}(hn:i<=n)(h:x∈(a.extract i n).toList):∃ j,i<=j/\j<n/\j<a.size/\x=a.getD j nv:=by
 obtain⟨k,rfl⟩:∃ k,n=i+k:=⟨n-i,by lia⟩
 exact tM h
def GH (r:Bs->Ak)(a b o:Ay Bs)(i j:Ai):Prop:=Mh r (a.toList.take i) (b.toList.take j) o.toList.reverse (a.toList++b.toList)
section
variable {r:Bs->Ak}{a b o:Ay Bs}{i j k:Ai}
theorem GH.pa (sb:b.toList.Pairwise (Le r))(h:GH r a b o i j)(h1:0<i)(h2:i<=a.size)(hj:j<=b.size)(l:0<j->r (b.getD (j-1) nv)<=r (a.getD (i-1) nv)):GH r a b (o.push (a.getD (i-1) nv)) (i-1) j:=by
 have h':Mh r (a.toList.take (i-1)++[a.getD (i-1) nv]) (b.toList.take j) o.toList.reverse (a.toList++b.toList):=by rw[<- nB h1 h2];exact h
 have:=h'.a λx hx y hy=>by
  cases Cw.mp hy;obtain⟨m,q1,q2,rfl⟩:=kF hx;exact Fn (wM sb (by lia) (by lia)) (l (by lia))
 unfold GH;rw[Ei,Kz];exact this
theorem GH.pb (sa:a.toList.Pairwise (Le r))(h:GH r a b o i j)(h1:0<j)(h2:j<=b.size)(hi:i<=a.size)(l:0<i->r (a.getD (i-1) nv)<=r (b.getD (j-1) nv)):GH r a b (o.push (b.getD (j-1) nv)) i (j-1):=by
 have h':Mh r (a.toList.take i) (b.toList.take (j-1)++[b.getD (j-1) nv]) o.toList.reverse (a.toList++b.toList):=by rw[<- nB h1 h2];exact h
 have:=h'.b λx hx y hy=>by
  cases Cw.mp hy;obtain⟨m,q1,q2,rfl⟩:=kF hx;exact Fn (wM sa (by lia) (by lia)) (l (by lia))
 unfold GH;rw[Ei,Kz];exact this
theorem GH.ea (sb:b.toList.Pairwise (Le r))(h:GH r a b o i j)(hk:k<=i)(hj:j<=b.size)(l:0<j->∀ m,k<=m->m<i->m<a.size->r (b.getD (j-1) nv)<=r (a.getD m nv)):GH r a b (o++(a.extract k i).reverse) k j:=by
 have h':Mh r (a.toList.take k++(a.extract k i).toList) (b.toList.take j) o.toList.reverse (a.toList++b.toList):=by rw[dS hk];exact h
 have:=h'.a λx hx y hy=>by
  obtain⟨m,q1,q2,rfl⟩:=kF hx;obtain⟨m',q3,q4,q5,rfl⟩:=kE hk hy;exact Fn (wM sb (by lia) (by lia)) (l (by lia) m' q3 q4 q5)
 unfold GH;rw[Ed,Km,Kz,Tp];exact this
theorem GH.eb (sa:a.toList.Pairwise (Le r))(h:GH r a b o i j)(hk:k<=j)(hi:i<=a.size)(l:0<i->∀ m,k<=m->m<j->m<b.size->r (a.getD (i-1) nv)<=r (b.getD m nv)):GH r a b (o++(b.extract k j).reverse) i k:=by
 have h':Mh r (a.toList.take i) (b.toList.take k++(b.extract k j).toList) o.toList.reverse (a.toList++b.toList):=by rw[dS hk];exact h
 have:=h'.b λx hx y hy=>by
  obtain⟨m,q1,q2,rfl⟩:=kF hx;obtain⟨m',q3,q4,q5,rfl⟩:=kE hk hy;exact Fn (wM sa (by lia) (by lia)) (l (by lia) m' q3 q4 q5)
 unfold GH;rw[Ed,Km,Kz,Tp];exact this
theorem GH.fin (h:GH r a b o i j)(e:i=0\/j=0):Mo r (a.toList++b.toList) (a.extract 0 i++b.extract 0 j++o.reverse):=by
 refine⟨?_,?_⟩ <;> rw[Ed,Ed,jW,jW,Km]
 .exact h.pm
 .rcases e with rfl|rfl
  .rw[Za,Jv];exact h.p2
  .rw[Za,Gz];exact h.p1
theorem GH.first (h:GH r a b o i j)(e:j=1)(hb:0<b.size)(l:∀ x∈a.toList,Le r (b.getD 0 nv) x):Mo r (a.toList++b.toList) (b.extract 0 j++a.extract 0 i++o.reverse):=by
 subst e;have hd:b.toList.take 1=[b.getD 0 nv]:=by rw[nB (by lia) (by lia)];rfl
 refine⟨?_,?_⟩ <;> rw[Ed,Ed,jW,jW,Km]
 .refine Og ?_ h.pm
  exact Jt _ Kc
 .have p2:=h.p2
  rw[hd] at p2 ⊢;rw[Cc];rw[Ds] at p2 ⊢;refine⟨p2.1,h.p1,λx hx y hy=>?_⟩;rcases Ce.mp hy with hy|hy
  .cases Cw.mp hx
   exact l y (Nz hy)
  .exact p2.2.2 x hx y hy
end
section
variable {prog:Be}{w:Bx}{A:Bv}{E:Ac->Ag->Prop}{s:Ag}{κ : Ll}{U:Bs->Prop}{r:Bs->Ak}
theorem rS (C:Cm (Au prog w) A s κ U r){a b:Ay Bs}{Q:Ay Bs->Fq->Prop}{st:Fq}(hk:kindOf st=κ)(ua:∀ x∈a.toList,U x)(ub:∀ x∈b.toList,U x)(sa:a.toList.Pairwise (Le r))(sb:b.toList.Pairwise (Le r))
  (h:∀ m g,Mo r (a.toList++b.toList) m->Q m (yN st g)) (ha:0<a.size) (hb:0<b.size) (h0:∀ x∈a.toList,Le r (b.getD 0 nv) x) (h1:r (b.getD (b.size-1) nv)<=r (a.getD (a.size-1) nv)):wpS (Au prog w) A E s (WZ a b) Q st:=by
 have G0:GH r a b #[] a.size b.size:=by
  unfold GH;rw[Hd (by simp),Hd (by simp)]
  exact⟨by simpa using sa,by simpa using sb,by simp⟩
 have G1:=G0.pa sb ha (As _) (As _) λ_=>h1;refine AT (OS (Gp ⟨rfl,?_⟩));refine AT (z0 (i:=a.size-1) (by lia) ?_)
 dsimp only;refine qM (λe=>Bn (h _ (Rw st) (G1.fin (.inl (by simpa using e))))) λe1=>?_
 refine qM (λe=>Bn (h _ (Rw st) (G1.first (by simpa using e) hb h0))) λe2=>?_
 have e1:¬ a.size-1=0:=by simpa using e1
 have e2:¬ b.size=1:=by simpa using e2
 refine AT (Mf ?_);refine AT (Hc (Ff (I:=λx c st'=>(∃ g,st'=yN st g)/\∃ o i j g,c=(none,i,j,o,g)/\GH r a b o i j/\0<i/\i<=a.size/\1<j/\j<=b.size/\x+i+j<a.size+b.size)
  (Q:=λc st'=>(∃ g,st'=yN st g)/\∃ m,c.1=Ab m/\Mo r (a.toList++b.toList) m) ?_ ?_ ⟨⟨Rw st,rfl⟩,_,a.size-1,b.size,_,rfl,G1,by lia,by lia,by lia,by lia,by lia⟩) ?_)
 .rintro x c st' _ hx ⟨⟨g,rfl⟩,o,i,j,mg,rfl,G,hi,hi2,hj,hj2,hp⟩
  dsimp only;refine AT (Hc (Ff (I:=λy c st'=>(∃ g,st'=yN st g)/\∃ o i' j' p q,c=(none,i',j',o,p,q)/\GH r a b o i' j'/\0<i'/\i'<=a.size/\1<j'/\j'<=b.size/\i'+j'+y<=i+j)
   (Q:=λc st'=>(∃ g,st'=yN st g)/\((∃ m,c.1=Ab m/\Mo r (a.toList++b.toList) m)\/∃ o i' j' p q,c=(none,i',j',o,p,q)/\GH r a b o i' j'/\0<i'/\i'<=a.size/\1<j'/\j'<=b.size/\x+1+i'+j'<a.size+b.size)) ?_ ?_ ⟨⟨g,rfl⟩,o,i,j,0,0,rfl,G,hi,hi2,hj,hj2,by lia⟩) ?_)
  .rintro y c st' _ hy ⟨⟨g,rfl⟩,o,i',j',p,q,rfl,G,hi,hi2,hj,hj2,hq⟩
   dsimp only;refine AT (z0 (i:=j'-1) (by lia) (AT (z0 (i:=i'-1) (by lia) (AT (C.lt (ub _ (zN (i:=j'-1) (by lia))) (ua _ (zN (i:=i'-1) (by lia))) hk ?_)))))
   dsimp only;refine qM (λl=>?_) λl=>?_
   .have l:r (b.getD (j'-1) nv)<r (a.getD (i'-1) nv):=by simpa using l
    have G2:=G.pa sb hi hi2 hj2 λ_=>Hi l;refine AT (z0 (i:=i'-1) (by lia) ?_)
    refine qM (λe=>Bn ⟨⟨g,rfl⟩,.inl ⟨_,rfl,G2.fin (.inl (by simpa using e))⟩⟩) λe=>?_
    have e:¬ i'-1=0:=by simpa using e
    exact qM (λ_=>Bn ⟨⟨g,rfl⟩,.inr ⟨_,_,_,_,_,rfl,G2,by lia,by lia,hj,hj2,by lia⟩⟩) λ_=>Bn ⟨⟨g,rfl⟩,_,_,_,_,_,rfl,G2,by lia,by lia,hj,hj2,by lia⟩
   .have l:¬ r (b.getD (j'-1) nv)<r (a.getD (i'-1) nv):=by simpa using l
    have G2:=G.pb sa (by lia) hj2 hi2 λ_=>Ou.mp l
    refine AT (z0 (i:=j'-1) (by lia) ?_)
    refine qM (λe=>Bn ⟨⟨g,rfl⟩,.inl ⟨_,rfl,G2.first (by simpa using e) hb h0⟩⟩) λe=>?_
    have e:¬ j'-1=1:=by simpa using e
    exact qM (λ_=>Bn ⟨⟨g,rfl⟩,.inr ⟨_,_,_,_,_,rfl,G2,hi,hi2,by lia,by lia,by lia⟩⟩) λ_=>Bn ⟨⟨g,rfl⟩,_,_,_,_,_,rfl,G2,hi,hi2,by lia,by lia,by lia⟩
  .rintro c st' ⟨z,o,i',j',p,q,rfl,G,hi,hi2,hj,hj2,hq⟩
   exact⟨z,.inr ⟨_,_,_,_,_,rfl,G,hi,hi2,hj,hj2,by lia⟩⟩
  .rintro c st' ⟨⟨g,rfl⟩,⟨m,hc,hm⟩|⟨o,i',j',p,q,rfl,G,hi,hi2,hj,hj2,hq⟩⟩
   .obtain⟨c0,c1⟩:=c
    cases hc;exact Bn ⟨⟨g,rfl⟩,m,rfl,hm⟩
   dsimp only;refine AT (OS (Gp ⟨rfl,?_⟩));refine AT (Hc (Ff (I:=λy c st'=>(∃ g,st'=yN st g)/\∃ o i' j' p q t,c=(none,i',j',o,p,q,t)/\GH r a b o i' j'/\0<i'/\i'<=a.size/\1<j'/\j'<=b.size/\x+1+i'+j'<a.size+b.size)
    (Q:=λc st'=>(∃ g,st'=yN st g)/\((∃ m,c.1=Ab m/\Mo r (a.toList++b.toList) m)\/∃ o i' j' p q t,c=(none,i',j',o,p,q,t)/\GH r a b o i' j'/\0<i'/\i'<=a.size/\1<j'/\j'<=b.size/\x+1+i'+j'<a.size+b.size)) ?_ ?_ ⟨⟨g,rfl⟩,o,i',j',_,_,_,rfl,G,hi,hi2,hj,hj2,hq⟩) ?_)
   .rintro y c st' _ hy ⟨⟨g,rfl⟩,o,i,j,p,q,t,rfl,G,hi,hi2,hj,hj2,hq⟩
    dsimp only;generalize p-1=p1;apply cO (x:=p1) (y:=p);intro mg;refine AT (IK ?_);have j0:0<j:=Pl hj;have jb:j-1<b.size:=Bc (La j0 Kg) hj2;refine AT (z0 jb ?_);refine AT (WC C hk (La hi Kg) (by rw[Gs];exact hi2) (λi' hi'=>ua _ (zN (by rw[Gs];exact Bc hi' hi2))) (ub _ (zN jb)) (λi' j' h1 h2=>wM sa (Ih h1 0) (by rw[Gs];exact Bc h2 hi2)) λk k1 k2 k3=>?_)
    simp only[Gs] at k2 k3;dsimp only;have G2:=G.ea sb k1 hj2 λ_ m q1 q2 _=>Hi (k3 m q1 q2);have kc:i-k=0->k=i:=λh=>Oh k1 (Sn h);generalize i-k=ac at kc ⊢;generalize o++(a.extract k i).reverse=o1 at G2 ⊢;apply ZZ (x:=k) (w:=o1) (y:=i) (v:=o) (P:=λna out=>GH r a b out na j/\0<na/\na<=a.size/\x+1+na+j<a.size+b.size/\r (a.getD (na-1) nv)<=r (b.getD (j-1) nv))
    case h1=>exact λ_ e=>Bn ⟨⟨_,rfl⟩,.inl ⟨_,rfl,G2.fin (.inl (by simpa using e))⟩⟩
    case hK =>
     rintro na out ⟨G2,hl,hl2,hq,hc⟩;have na1:na-1<a.size:=Bc (La hl Kg) hl2;refine AT (z0 jb ?_);have G3:=G2.pb sa j0 hj2 hl2 λ_=>hc;refine qM (λe=>Bn ⟨⟨_,rfl⟩,.inl ⟨_,rfl,G3.first (by simpa using e) hb h0⟩⟩) λe5=>?_
     have e5:¬ j-1=1:=by simpa using e5
     have j1:0<j-1:=Pm hj;refine AT (z0 na1 ?_);refine AT (WD C hk (La j1 Kg) (by rw[Gs];exact Fe jb) (λi hi=>ub _ (zN (by rw[Gs];exact Ia hi jb))) (ua _ (zN na1)) (λi j h1 h2=>wM sb (Ih h1 0) (by rw[Gs];exact Ia h2 jb)) λm m1 m2 m3=>?_)
     simp only[Gs] at m2 m3;dsimp only;have G4:=G3.eb sa m1 hl2 λ_ m q1 q2 _=>m3 m q1 q2;have mc:j-1-m=0->m=j-1:=λh=>Oh m1 (Sn h);generalize j-1-m=bc at mc ⊢;generalize out.push (b.getD (j-1) nv)++(b.extract m (j-1)).reverse=o2 at G4 ⊢;apply X0 (x:=m) (w:=o2) (y:=j-1) (v:=out.push (b.getD (j-1) nv)) (P:=λnb out=>GH r a b out na nb/\1<nb/\nb<=j-1/\r (b.getD (nb-1) nv)<=r (a.getD (na-1) nv))
     case h1=>exact λ_ e=>Bn ⟨⟨_,rfl⟩,.inl ⟨_,rfl,G4.first (by simpa using e) hb h0⟩⟩
     case h1'=>exact λ_ _ e=>Bn ⟨⟨_,rfl⟩,.inl ⟨_,rfl,G4.fin (.inr (by simpa using e))⟩⟩
     case hK =>
      rintro nb out ⟨G4,h4,h5,hc4⟩;have h6:nb<=b.size:=Dh h5 (Fe jb);have hq2:x+1+(na-1)+nb<a.size+b.size:=Lx (Yz (Ih (Nat.sub_le _ _) _) (Dh h5 (Nat.sub_le _ _))) hq;refine AT (z0 na1 ?_);have G5:=G4.pa sb hl hl2 h6 λ_=>hc4;refine qM (λe=>Bn ⟨⟨_,rfl⟩,.inl ⟨_,rfl,G5.fin (.inl (by simpa using e))⟩⟩) λe7=>?_
      have e7:0<na-1:=Ma (by simpa using e7)
      exact qM (λ_=>Bn ⟨⟨_,rfl⟩,.inr ⟨_,_,_,_,_,_,rfl,G5,e7,Fe na1,h4,h6,hq2⟩⟩) λ_=>Bn ⟨⟨_,rfl⟩,_,_,_,_,_,_,rfl,G5,e7,Fe na1,h4,h6,hq2⟩
     case h2 =>
      intro _ e6 e7;have e6:¬ m=1:=by simpa using e6
      have e7:¬ m=0:=by simpa using e7
      exact⟨G4,Ht (Ma e7) (Ft e6),m1,Hi (m2 (m-1) (La (Ma e7) Kg))⟩
     case h3 =>
      intro e;cases mc (Ju e);exact⟨G3,Ht j1 (Ft e5),As _,Hi (m2 (j-1-1) (La j1 Kg))⟩
    case h2 =>
     intro _ e;have e3:0<k:=Ma (by simpa using e)
     exact⟨G2,e3,Dh k1 hi2,Lx (To (Ih k1 _) _) hq,k2 (k-1) (La e3 Kg)⟩
    case h3 =>
     intro e;have e:=kc (Ju e);exact⟨G,hi,hi2,hq,k2 (i-1) (by rw[e];exact La hi Kg)⟩
   .rintro c st' ⟨z,o,i',j',p,q,t,rfl,G,hi,hi2,hj,hj2,hq⟩
    exact⟨z,.inr ⟨_,_,_,_,_,_,rfl,G,hi,hi2,hj,hj2,by lia⟩⟩
   .rintro c st' ⟨⟨g,rfl⟩,⟨m,hc,hm⟩|⟨o,i',j',p,q,t,rfl,G,hi,hi2,hj,hj2,hq⟩⟩
    .obtain⟨c0,c1⟩:=c
     cases hc;exact Bn ⟨⟨g,rfl⟩,m,rfl,hm⟩
    dsimp only;refine AT (IK ?_);exact Bn ⟨⟨_,rfl⟩,_,_,_,_,rfl,G,hi,hi2,hj,hj2,by lia⟩
 .rintro c st' ⟨z,o,i',j',p,rfl,G,hi,hi2,hj,hj2,hq⟩
  exfalso
  lia
 .rintro c st' ⟨⟨g,rfl⟩,m,hc,hm⟩
  obtain⟨c0,c1⟩:=c;cases hc;exact Bn (h m g hm)
end
theorem iZ:∀ (l:Aa Bs) (arr:Ay Bs) (o d:Ai),o+d+l.length<=arr.size->∀ k,((l.zipIdx d).foldl (λa p=>a.setIfInBounds (o+p.2) p.1) arr)[k]? = if o+d<=k/\k<o+d+l.length then l[k-(o+d)]? else arr[k]?
 |[],arr,o,d,h,k=>by
  rw[Bj (by simp only[Fj];lia)];rfl
 |x::l,arr,o,d,h,k=>by
  rw[Bd] at h;rw[Qk,Li,iZ l _ o (d+1) (by rw[Array.size_setIfInBounds];lia) k,Bd]
  by_cases h1:k=o+d
  .subst h1
   rw[Bj (by lia),Bp (by lia),Vz,Array.getElem?_setIfInBounds_self_of_lt (by lia)]
   rfl
  .by_cases h2:o+(d+1)<=k/\k<o+(d+1)+l.length
   .rw[Bp h2,Bp (by lia),show k-(o+d)=(k-(o+(d+1)))+1 by lia,Qw]
   .rw[Bj h2,Bj (by lia),Array.getElem?_setIfInBounds_ne (by lia)]
noncomputable def wb (arr:Ay Bs)(o:Ai)(m:Ay Bs):Ay Bs:=m.toList.zipIdx.foldl (λa p=>a.setIfInBounds (o+p.2) p.1) arr
theorem BG {o:Ai}(h:o+m.size<=arr.size)(k:Ai):(wb arr o m).getD k nv=if o<=k/\k<o+m.size then m.getD (k-o) nv else arr.getD k nv:=by
 have e:=iZ m.toList arr o 0 (by simpa using h) k
 simp only[Wa,Bg,Bk] at e;rw[Fb,Fb,Fb];unfold wb;rw[e]
 split <;> rfl
theorem BH {o:Ai}(h:o+m.size<=arr.size):(wb arr o m).toList=arr.toList.take o++(m.toList++arr.toList.drop (o+m.size)):=by
 apply Pe;intro k;have e:=iZ m.toList arr o 0 (by simpa using h) k
 simp only[Wa,Bg,Bk] at e;unfold wb;rw[Bk,e];have lt:(arr.toList.take o).length=o:=by rw[Fc,Bg];lia
 by_cases h1:k<o
 .rw[Bj (by lia),Bo (by lia),Lq h1,Bk]
 .rw[Dc (by lia),lt]
  by_cases h2:k<o+m.size
  .rw[Bp (by lia),Bo (by rw[Bg];lia),Bk]
  .rw[Bj (by lia),Dc (by rw[Bg];lia),Vi,Bg,Bk]
   congr 1
   lia
theorem BI {o:Ai}(h:o+n<=arr.size)(p:m.toList.Perm (arr.extract o (o+n)).toList):(wb arr o m).toList.Perm arr.toList:=by
 have hm:m.size=n:=by
  have:=p.length_eq;rw[Bg,Bg,Iw] at this
  lia
 rw[BH (by lia),hm]
 have e:arr.toList=arr.toList.take o++((arr.extract o (o+n)).toList++arr.toList.drop (o+n)):=by rw[bK,Nv]
 conv=>rhs;rw[e]
 exact Ho _ (Jt _ p)
def Seg (r:Bs->Ak)(a:Ay Bs)(lo n:Ai):Prop:=∀ i j,lo<=i->i<=j->j<lo+n->r (a.getD i nv)<=r (a.getD j nv)
theorem cH {r:Bs->Ak}{a:Ay Bs}(h:Seg r a lo n){i k:Ai}(h1:lo<=i)(h2:i+k<=lo+n)(h3:i+k<=a.size):(a.extract i (i+k)).toList.Pairwise (Le r):=by
 rw[IV];intro x y hx hy l;have hx':x<k:=by rw[Bg,Iw] at hx;lia
 have hy':y<k:=by rw[Bg,Iw] at hy;lia
 have e:=h (i+x) (i+y) (by lia) (by lia) (by lia)
 have q1:i+x<a.size:=by lia
 have q2:i+y<a.size:=by lia
 simpa [Ge,q1,q2,Le] using e
theorem dR {a:Ay Bs}{i k m:Ai}(h:m<k)(h3:i+k<=a.size):(a.extract i (i+k)).getD m nv=a.getD (i+m) nv:=by
 have q1:i+m<a.size:=by lia
 have q2:m<(a.extract i (i+k)).size:=by rw[Iw];lia
 have q3:m<min (i+k) a.size-i:=by lia
 simp[Ge,q1,q3]
theorem W8 {a:Ay Bs}{i j k:Ai}(h1:i<=j)(h2:j<=k):(a.extract i j).toList++(a.extract j k).toList=(a.extract i k).toList:=by
 rw[<- Ed,Array.extract_append_extract]
 congr 2 <;> lia
section
variable {prog:Be}{w:Bx}{A:Bv}{E:Ac->Ag->Prop}{s:Ag}{κ : Ll}{U:Bs->Prop}{r:Bs->Ak}
theorem BJ {M:Ni}{σ:Type}{Q:PUnit->σ->Prop}{st st':σ}(h:Q ⟨⟩ st'):wpS M A E s (set st':Nu σ Jw PUnit) Q st:=by
 unfold wpS;rw[StateT.run_set];exact Al ⟨rfl,h⟩
theorem rR (C:Cm (Au prog w) A s κ U r){i sa na pw nb pz:Ai}{Q:Ar->Fq->Prop}{arr:Ay Bs}{pd:Ay (Ai × Ai × Ai)}{g:Ai}(ua:∀ x∈arr.toList,U x)(e1:pd[i]? = Ab (sa,na,pw))(e2:pd[i+1]? = Ab (sa+na,nb,pz))(p1:0<na)(p2:0<nb)(hz:sa+na+nb<=arr.size)
  (s1:Seg r arr sa na) (s2:Seg r arr (sa+na) nb)
  (h:∀ arr' g,arr'.toList.Perm arr.toList->(∀ k,k<sa\/sa+na+nb<=k->arr'.getD k nv=arr.getD k nv)->Seg r arr' sa (na+nb)->Q true (Dj κ arr' ((pd.setIfInBounds i (sa,na+nb,pw)).eraseIdxIfInBounds (i+1)) g none)) :
  wpS (Au prog w) A E s (mergeAt' i) Q (Dj κ arr pd g none):=by
 refine AT (Mf ?_);dsimp only;rw[e1,e2];dsimp only;refine AT (BJ ?_);refine AT (z0 (i:=sa+na) (by omega) ?_)
 refine AT (WC C rfl (by omega) (by omega) (λi hi=>ua _ (zN (by omega))) (ua _ (zN (by omega))) (λi j a b=>s1 _ _ (by omega) (by omega) (by omega)) λk k1 k2 k3=>?_)
 dsimp only;refine qM (λe=>Bn (h arr g (Mn _) (λ_ _=>rfl) λi j a b c=>?_)) λe=>?_
 .have e:na-k=0:=by simpa using e
  by_cases q1:j<sa+na
  .exact s1 i j a b q1
  .by_cases q2:sa+na<=i
   .exact s2 i j q2 b (by omega)
   .have:=k2 (i-sa) (by omega)
    rw[show sa+(i-sa)=i by omega] at this
    exact Fn this (s2 _ _ (As _) (by omega) (by omega))
 have e:¬ na-k=0:=by simpa using e
 refine AT (z0 (i:=sa+k+(na-k)-1) (by omega) ?_)
 refine AT (WD C rfl (by omega) (by omega) (λi hi=>ua _ (zN (by omega))) (ua _ (zN (by omega))) (λi j a b=>s2 _ _ (by omega) (by omega) (by omega)) λm m1 m2 m3=>?_)
 dsimp only;rw[show sa+k+(na-k)-1=sa+na-1 by omega] at m2 m3
 have hk3:=k3 k (As _) (by omega)
 refine qM (λe=>?_) λe'=>?_
 .exfalso
  have e:m=0:=by simpa using e
  subst e;have q1:=m3 0 (As _) p2;have q2:=s1 (sa+k) (sa+na-1) (by omega) (by omega) (by omega)
  rw[Wa] at q1;omega
 have e':¬ m=0:=by simpa using e'
 have ex:arr.extract (sa+k) (sa+na)=arr.extract (sa+k) (sa+k+(na-k)):=by rw[show sa+k+(na-k)=sa+na by omega]
 have zx:(arr.extract (sa+k) (sa+na)).size=na-k:=by rw[Iw];omega
 have zy:(arr.extract (sa+na) (sa+na+m)).size=m:=by rw[Iw];omega
 have gx:∀ i,i<na-k->(arr.extract (sa+k) (sa+na)).getD i nv=arr.getD (sa+k+i) nv:=λi hi=>by rw[ex];exact dR hi (by omega)
 have gy:∀ i,i<m->(arr.extract (sa+na) (sa+na+m)).getD i nv=arr.getD (sa+na+i) nv:=λi hi=>dR hi (by omega)
 have px:(arr.extract (sa+k) (sa+na)).toList.Pairwise (Le r):=by rw[ex];exact cH s1 (by omega) (by omega) (by omega)
 have py:(arr.extract (sa+na) (sa+na+m)).toList.Pairwise (Le r):=cH s2 (by omega) (by omega) (by omega)
 have mx:∀ x∈(arr.extract (sa+k) (sa+na)).toList,∃ j,sa+k<=j/\j<sa+na/\x=arr.getD j nv:=λx hx=>by
  obtain⟨j,q1,q2,q3,q4⟩:=kE (by omega) hx
  exact⟨j,q1,q2,q4⟩
 have my:∀ x∈(arr.extract (sa+na) (sa+na+m)).toList,∃ j,sa+na<=j/\j<sa+na+m/\x=arr.getD j nv:=λx hx=>by
  obtain⟨j,q1,q2,q3,q4⟩:=kE (by omega) hx
  exact⟨j,q1,q2,q4⟩
 have lox:∀ x∈(arr.extract (sa+k) (sa+na)).toList,r (arr.getD (sa+na) nv)<=r x/\r x<=r (arr.getD (sa+na-1) nv):=λx hx=>by
  obtain⟨j,q1,q2,rfl⟩:=mx x hx;have:=s1 (sa+k) j (by omega) q1 q2
  exact⟨by omega,s1 j _ (by omega) (by omega) (by omega)⟩
 have loy:∀ x∈(arr.extract (sa+na) (sa+na+m)).toList,r (arr.getD (sa+na) nv)<=r x/\r x<=r (arr.getD (sa+na-1) nv):=λx hx=>by
  obtain⟨j,q1,q2,rfl⟩:=my x hx;have:=m2 (j-(sa+na)) (by omega)
  rw[show sa+na+(j-(sa+na))=j by omega] at this
  exact⟨s2 _ _ (As _) q1 (by omega),by omega⟩
 have fin:∀ mg g',Mo r ((arr.extract (sa+k) (sa+na)).toList++(arr.extract (sa+na) (sa+na+m)).toList) mg->Q true (Dj κ (wb arr (sa+k) mg) ((pd.setIfInBounds i (sa,na+nb,pw)).eraseIdxIfInBounds (i+1)) g' none):=by
  intro mg g' M;have ej:(arr.extract (sa+k) (sa+na)).toList++(arr.extract (sa+na) (sa+na+m)).toList=(arr.extract (sa+k) (sa+k+(na-k+m))).toList:=by
   rw[W8 (by omega) (by omega),show sa+k+(na-k+m)=sa+na+m by omega]
  have hm:mg.size=na-k+m:=by
   have:=M.pm.length_eq;rw[Ct,Bg,Bg,Bg,zx,zy] at this;exact this
  have gd:=λj=>BG (arr:=arr) (m:=mg) (o:=sa+k) (by omega) j
  refine h _ g' (BI (n:=na-k+m) (by omega) (ej▸M.pm)) (λj hj=>?_) λi j a b c=>?_
  .rw[gd,Bj (by omega)]
  .have bd:∀ j,sa+k<=j->j<sa+na+m->r (arr.getD (sa+na) nv)<=r (mg.getD (j-(sa+k)) nv)/\r (mg.getD (j-(sa+k)) nv)<=r (arr.getD (sa+na-1) nv):=λj h1 h2=>by
    have:=M.pm.mem_iff.mp (zN (a:=mg) (i:=j-(sa+k)) (by omega))
    rcases Ce.mp this with q|q
    .exact lox _ q
    .exact loy _ q
   rw[gd,gd,hm];by_cases i1:i<sa+k
   .rw[Bj (by omega)]
    have u:=k2 (i-sa) (by omega)
    rw[show sa+(i-sa)=i by omega] at u
    by_cases j1:j<sa+k
    .rw[Bj (by omega)];exact s1 i j a b (by omega)
    .by_cases j2:j<sa+na+m
     .rw[Bp (by omega)];exact Fn u (bd j (by omega) j2).1
     .rw[Bj (by omega)];exact Fn u (s2 _ _ (As _) (by omega) (by omega))
   .by_cases i2:i<sa+na+m
    .rw[Bp (by omega)]
     by_cases j2:j<sa+na+m
     .rw[Bp (by omega)];exact wM M.up (by omega) (by omega)
     .rw[Bj (by omega)]
      have v:=m3 (j-(sa+na)) (by omega) (by omega)
      rw[show sa+na+(j-(sa+na))=j by omega] at v
      exact Fn (bd i (by omega) i2).2 v
    .rw[Bj (by omega),Bj (by omega)]
     exact s2 i j (by omega) b (by omega)
 have ux:∀ x∈(arr.extract (sa+k) (sa+na)).toList,U x:=λx hx=>by obtain⟨j,q1,q2,rfl⟩:=mx x hx;exact ua _ (zN (by omega))
 have uy:∀ x∈(arr.extract (sa+na) (sa+na+m)).toList,U x:=λx hx=>by obtain⟨j,q1,q2,rfl⟩:=my x hx;exact ua _ (zN (by omega))
 have y0:(arr.extract (sa+na) (sa+na+m)).getD 0 nv=arr.getD (sa+na) nv:=gy 0 (by omega)
 have xl:(arr.extract (sa+k) (sa+na)).getD ((arr.extract (sa+k) (sa+na)).size-1) nv=arr.getD (sa+na-1) nv:=by rw[zx,gx _ (by omega)];congr 1;omega
 refine qM (λ_=>?_) λ_=>?_
 .refine AT (rT C rfl ux uy px py (λmg g' M=>?_) (by rw[zx];omega) (by rw[zy];omega) ?_ λx hx=>?_)
  .refine AT (IK (AT (Mf (Bn ?_))))
   exact fin mg g' M
  .rw[y0];exact(lox _ (zN (by rw[zx];omega))).1
  .rw[xl];exact(loy x hx).2
 .refine AT (rS C rfl ux uy px py (λmg g' M=>?_) (by rw[zx];omega) (by rw[zy];omega) (λx hx=>?_) ?_)
  .refine AT (IK (AT (Mf (Bn ?_))))
   exact fin mg g' M
  .rw[y0];exact(lox x hx).1
  .rw[xl];exact(loy _ (zN (by rw[zy];omega))).2
end
noncomputable def mir (a:Ay Bs)(i j:Ai):Ay Bs:=mirror a i j ((j-i)/2)
theorem wK {a:Ay Bs}{i j:Ai}(hj:j<=a.size)(k:Ai):(mir a i j).getD k nv=if i<=k/\k<j then a.getD (i+j-1-k) nv else a.getD k nv:=by
 rw[Fb,Fb,Fb];unfold mir;rw[getElem?_mirror_all hj]
 split <;> rfl
structure Cr (a b:Ay Bs)(lo n:Ai):Prop where
 pm:b.toList.Perm a.toList
 out:∀ k,k<lo\/lo+n<=k->b.getD k nv=a.getD k nv
theorem Cr.z {a b:Ay Bs}(h:Cr a b lo n):b.size=a.size:=by
 have:=h.pm.length_eq;simpa using this
theorem Cr.rfl' {a:Ay Bs}:Cr a a lo n:=⟨Mn _,λ_ _=>rfl⟩
theorem Cr.mir {a b:Ay Bs}{i j:Ai}(h:Cr a b lo n)(h1:lo<=i)(h2:j<=lo+n)(h3:j<=a.size):Cr a (mir b i j) lo n:=
 ⟨(OP.mp (mirror_perm _ _ _ _)).trans h.pm,λk hk=>by rw[wK (by rw[h.z];exact h3),Bj (by lia)];exact h.out k hk⟩
def Dsg (r:Bs->Ak)(a:Ay Bs)(lo n:Ai):Prop:=∀ i j,lo<=i->i<=j->j<lo+n->r (a.getD j nv)<=r (a.getD i nv)
theorem YV {r:Bs->Ak}{a:Ay Bs}(h:Seg r a lo n)(h1:1<=n)(l:r (a.getD (lo+n-1) nv)<=r (a.getD (lo+n) nv)):Seg r a lo (n+1):=λi j h2 h3 h4=>by
 by_cases q:j<lo+n
 .exact h i j h2 h3 q
 .have:j=lo+n:=by lia
  subst this;by_cases q2:i=lo+n
  .subst q2;exact Lm _
  .exact Fn (h i (lo+n-1) h2 (by lia) (by lia)) l
theorem u6 {r:Bs->Ak}{a:Ay Bs}(h:Dsg r a lo n)(h1:1<=n)(l:r (a.getD (lo+n) nv)<=r (a.getD (lo+n-1) nv)):Dsg r a lo (n+1):=λi j h2 h3 h4=>by
 by_cases q:j<lo+n
 .exact h i j h2 h3 q
 .have:j=lo+n:=by lia
  subst this;by_cases q2:i=lo+n
  .subst q2;exact Lm _
  .exact Fn l (h i (lo+n-1) h2 (by lia) (by lia))
theorem cI {r:Bs->Ak}{a:Ay Bs}:Seg r a lo 1:=λi j h2 h3 h4=>by
 have:i=j:=by lia
 subst this;exact Lm _
theorem JI {r:Bs->Ak}{a:Ay Bs}:Dsg r a lo 1:=λi j h2 h3 h4=>by
 have:i=j:=by lia
 subst this;exact Lm _
def X5 (r:Bs->Ak)(a:Ay Bs)(lo n q:Ai):Prop:=q+1<=n/\∀ k,lo+n-(q+1)<=k->k<lo+n->r (a.getD k nv)=r (a.getD (lo+n-1) nv)
set_option tactic.hygienic true in
theorem jV {r:Bs->Ak}{a:Ay Bs}{q:Ai}(hn:lo+n<=a.size)(h:X5 r a lo n q)(k:Ai):r ((mir a (lo+n-(q+1)) (lo+n)).getD k nv)=r (a.getD k nv):=by
 rw[wK hn];have:=h.1
 split
 .rename_i c
  rw[h.2 k (by lia) c.2,h.2 _ (by lia) (by lia)]
 .rfl
theorem JH {r:Bs->Ak}{a:Ay Bs}(hn:lo+n<=a.size)(h:Dsg r a lo n):Seg r (mir a lo (lo+n)) lo n:=λi j h2 h3 h4=>by
 rw[wK hn,wK hn,Bp (by lia),Bp (by lia)]
 exact h _ _ (by lia) (by lia) (by lia)
section
variable {prog:Be}{w:Bx}{A:Bv}{E:Ac->Ag->Prop}{s:Ag}{κ : Ll}{U:Bs->Prop}{r:Bs->Ak}
theorem jM (C:Cm (Au prog w) A s κ U r){i j:Ai}{arr:Ay Bs}{pd:Ay (Ai × Ai × Ai)}{g:Ai}{Q:Am Ar->Fq->Prop}(ua:∀ x∈arr.toList,U x)(hi:i<arr.size)(hj:j<arr.size)
  (q:Q (Ab (decide (r (arr.getD i nv)<r (arr.getD j nv)))) (Dj κ arr pd g none)):wpS (Au prog w) A E s (ltAt' i j) Q (Dj κ arr pd g none):=by
 refine AT (Mf ?_);exact AT (z0 hi (AT (z0 hj (C.lt (ua _ (zN hi)) (ua _ (zN hj)) rfl q))))
theorem pT {i j:Ai}{pd:Ay (Ai × Ai × Ai)}{g:Ai}{Q:PUnit->Fq->Prop}(q:Q ⟨⟩ (Dj κ (mir arr i j) pd g none)):wpS (Au prog w) A E s (reverseSlice' i j) Q (Dj κ arr pd g none):=IK q
theorem lL (C:Cm (Au prog w) A s κ U r){lo N:Ai}{arr:Ay Bs}{pd:Ay (Ai × Ai × Ai)}{g:Ai}{Q:Am Ai->Fq->Prop}(ua:∀ x∈arr.toList,U x)(h1:1<=N)(hz:lo+N<=arr.size)
  (h:∀ n b,1<=n->n<=N->Cr arr b lo N->Seg r b lo n->Q (Ab n) (Dj κ b pd g none)):wpS (Au prog w) A E s (countRun' lo N) Q (Dj κ arr pd g none):=by
 have uc:∀ {b:Ay Bs},Cr arr b lo N->∀ x∈b.toList,U x:=λh x hx=>ua x (h.pm.mem_iff.mp hx);have asc:∀ {b:Ay Bs} {n:Ai} {f:Ai->Am (Am Ai) × Ai->Nu Fq Jw (ForInStep (Am (Am Ai) × Ai))},Cr arr b lo N->1<=n->n<=N->Seg r b lo n ->
   (∀ x m,f x (none,m)=(ltAt' (lo+m) (lo+m-1) >>= λo=>match o with
    |some z=>if z then pure (.done (none,m)) else pure (.yield (none,m+1))
    |_=>pure (.done (Ab none,m))))->wpS (Au prog w) A E s (forIn [n:N] (none,n) f) (λc st'=>st'=Dj κ b pd g none/\∃ m,c=(none,m)/\n<=m/\m<=N/\Seg r b lo m/\(m=N\/r (b.getD (lo+m) nv)<r (b.getD (lo+m-1) nv))) (Dj κ b pd g none):=by
  intro b n f cr hn hN sg hf;have zb:=cr.z;refine Ff (I:=λx c st'=>st'=Dj κ b pd g none/\c=(none,x)/\n<=x/\Seg r b lo x) ?_ ?_ ⟨rfl,rfl,As _,sg⟩
  .rintro x c st' hx1 hx ⟨rfl,rfl,hx3,sg⟩
   rw[hf];refine AT (jM C (uc cr) (by lia) (by lia) ?_)
   by_cases l:r (b.getD (lo+x) nv)<r (b.getD (lo+x-1) nv)
   .simp only[l,Jf,Dx]
    exact Bn ⟨rfl,x,rfl,hx1,by lia,sg,.inr l⟩
   .simp only[l,Ji,By,Ef]
    exact Bn ⟨rfl,rfl,by lia,YV sg (by lia) (by lia)⟩
  .rintro c st' ⟨rfl,rfl,hx3,sg⟩
   rw[show max n N=N by lia] at sg ⊢
   exact⟨rfl,N,rfl,hN,As _,sg,.inl rfl⟩
 refine AT (Hc (asc Cr.rfl' (As 1) h1 cI λ_ _=>rfl) ?_);rintro c st' ⟨rfl,n,rfl,n1,n2,sg,nd⟩;dsimp only;refine qM (λe=>Bn (h n arr n1 n2 Cr.rfl' sg)) λe=>?_;have e:¬ n=N:=by simpa using e
 have nd:r (arr.getD (lo+n) nv)<r (arr.getD (lo+n-1) nv):=by lia
 apply qM
 case' h1 =>
  intro np;refine AT (jM C ua (by lia) (by lia) ?_)
  dsimp only;refine qM (λe=>Bn (h n arr n1 n2 Cr.rfl' sg)) λl=>?_;have l:¬ r (arr.getD lo nv)<r (arr.getD (lo+n-1) nv):=by simpa using l
  refine AT (pT ?_);have cr:Cr arr (mir arr lo (lo+n)) lo N:=Cr.rfl'.mir (As _) (by lia) (by lia)
  have ds:Dsg r (mir arr lo (lo+n)) lo (n+1):=by
   refine u6 (λi j a b c=>?_) n1 ?_
   .rw[wK (by lia),wK (by lia),Bp (by lia),Bp (by lia)]
    exact sg _ _ (by lia) (by lia) (by lia)
   .rw[wK (by lia),wK (by lia),Bj (by lia),Bp (by lia),show lo+(lo+n)-1-(lo+n-1)=lo by lia]
    lia
 case' h2 =>
  intro np;have cr:Cr arr arr lo N:=Cr.rfl';have ds:Dsg r arr lo (n+1):=by
   have:n=1:=by lia
   subst this;exact u6 JI (As _) (Hi nd)
 all_goals
  refine AT (OS (Gp ⟨rfl,?_⟩));refine AT (Hc (Ff (I:=λx c st'=>∃ b q,st'=Dj κ b pd g none/\c=(none,x,q)/\Cr arr b lo N/\Dsg r b lo x/\X5 r b lo x q)
   (Q:=λc st'=>∃ b m q,st'=Dj κ b pd g none/\c=(none,m,q)/\1<=m/\m<=N/\Cr arr b lo N/\Dsg r b lo m/\X5 r b lo m q) ?_ ?_ ⟨_,0,rfl,rfl,cr,ds,by lia,λk a b=>by rw[show k=lo+(n+1)-1 by lia]⟩) ?_)
  .rintro x c st' hx1 hx ⟨b,q,rfl,rfl,cr,ds,eq⟩
   dsimp only;have zb:=cr.z;refine AT (jM C (uc cr) (by lia) (by lia) ?_)
   dsimp only;refine qM (λl=>?_) λl=>?_
   .have l:r (b.getD (lo+x) nv)<r (b.getD (lo+x-1) nv):=by simpa using l
    refine qM (λqp=>AT (pT (Bn ⟨_,0,rfl,rfl,cr.mir (by have:=eq.1;lia) (by lia) (by lia),λi j a c d=>?_,by lia,λk a b=>by rw[show k=lo+(x+1)-1 by lia]⟩))) λqp=>Bn ⟨_,0,rfl,rfl,cr,u6 ds (by lia) (Hi l),by lia,λk a b=>by rw[show k=lo+(x+1)-1 by lia]⟩
    rw[jV (by lia) eq,jV (by lia) eq]
    exact u6 ds (by lia) (Hi l) i j a c d
   .have l:¬ r (b.getD (lo+x) nv)<r (b.getD (lo+x-1) nv):=by simpa using l
    refine AT (jM C (uc cr) (by lia) (by lia) ?_)
    dsimp only;refine qM (λl2=>Bn ⟨b,x,q,rfl,rfl,by lia,by lia,cr,ds,eq⟩) λl2=>?_
    have l2:¬ r (b.getD (lo+x-1) nv)<r (b.getD (lo+x) nv):=by simpa using l2
    have ee:r (b.getD (lo+x) nv)=r (b.getD (lo+x-1) nv):=by lia
    refine Bn ⟨b,q+1,rfl,rfl,cr,u6 ds (by lia) (by lia),by have:=eq.1;lia,λk a c=>?_⟩
    rw[show lo+(x+1)-1=lo+x by lia]
    by_cases kx:k=lo+x
    .rw[kx]
    .rw[ee];exact eq.2 k (by lia) (by lia)
  .rintro c st' ⟨b,q,rfl,rfl,cr,ds,eq⟩
   rw[show max (n+1) N=N by lia] at ds eq ⊢
   exact⟨b,N,q,rfl,rfl,h1,As _,cr,ds,eq⟩
  .rintro c st' ⟨b,m,q,rfl,rfl,m1,m2,cr,ds,eq⟩
   dsimp only;have zb:=cr.z;apply qM
   case' h1 =>
    intro qp;refine AT (pT ?_);have cr2:=cr.mir (i:=lo+m-(q+1)) (j:=lo+m) (by have:=eq.1;lia) (by lia) (by lia)
    have ds2:Dsg r (mir b (lo+m-(q+1)) (lo+m)) lo m:=λi j a c d=>by
     rw[jV (by lia) eq,jV (by lia) eq]
     exact ds i j a c d
   case' h2 =>
    intro qp;have cr2:=cr;have ds2:=ds
   all_goals
    have z2:=cr2.z;refine AT (pT ?_);refine AT (Hc (asc (cr2.mir (As _) (by lia) (by lia)) m1 m2 (JH (by lia) ds2) λ_ _=>rfl) ?_)
    rintro c st' ⟨rfl,n',rfl,q1,q2,q3,_⟩;exact Bn (h n' _ (by lia) q2 (cr2.mir (As _) (by lia) (by lia)) q3)
end
theorem dA {a:Ay Bs}{src d:Ai}(hs:src<a.size)(hd:d<=src)(k:Ai):(bubble a src d).getD k nv=if k=src-d then a.getD src nv else if src-d<k/\k<=src then a.getD (k-1) nv else a.getD k nv:=by
 simp only[Fb];rw[getElem?_bubble hs d hd]
 repeat' split
 all_goals rfl
section
variable {prog:Be}{w:Bx}{A:Bv}{E:Ac->Ag->Prop}{s:Ag}{κ : Ll}{U:Bs->Prop}{r:Bs->Ak}
theorem rK (C:Cm (Au prog w) A s κ U r){lo n ok:Ai}{arr:Ay Bs}{pd:Ay (Ai × Ai × Ai)}{g:Ai}{Q:Ar->Fq->Prop}(ua:∀ x∈arr.toList,U x)(h1:ok<=n)(hz:lo+n<=arr.size)(sg:Seg r arr lo ok)
  (h:∀ b,Cr arr b lo n->Seg r b lo n->Q true (Dj κ b pd g none)):wpS (Au prog w) A E s (binarySort' lo n ok) Q (Dj κ arr pd g none):=by
 have uc:∀ {b:Ay Bs},Cr arr b lo n->∀ x∈b.toList,U x:=λh x hx=>ua x (h.pm.mem_iff.mp hx);have sg1:Seg r arr lo (max ok 1):=by
  by_cases q:ok=0
  .rw[q];exact cI
  .rw[show max ok 1=ok by lia];exact sg
 refine AT (Hc (Ff (I:=λk c st'=>c=(none,())/\∃ b,st'=Dj κ b pd g none/\Cr arr b lo n/\Seg r b lo (min k (max ok (max n 1))))
  (Q:=λc st'=>c=(none,())/\∃ b,st'=Dj κ b pd g none/\Cr arr b lo n/\Seg r b lo n) ?_ ?_ ⟨rfl,arr,rfl,Cr.rfl',?_⟩) ?_)
 .rintro k c st' hk hkn ⟨rfl,b,rfl,cr,sg⟩
  have zb:=cr.z;rw[show min k (max ok (max n 1))=k by lia] at sg
  dsimp only;refine AT (Hc (Ff (I:=λx c st'=>st'=Dj κ b pd g none/\∃ l u,c=(none,l,u)/\l<=u/\u<=k/\u-l<=k-x/\(∀ i,i<l->r (b.getD (lo+i) nv)<=r (b.getD (lo+k) nv))/\∀ i,u<=i->i<k->r (b.getD (lo+k) nv)<r (b.getD (lo+i) nv))
   (Q:=λc st'=>st'=Dj κ b pd g none/\∃ l u,c=(none,l,u)/\l<=k/\(∀ i,i<l->r (b.getD (lo+i) nv)<=r (b.getD (lo+k) nv))/\∀ i,l<=i->i<k->r (b.getD (lo+k) nv)<r (b.getD (lo+i) nv)) ?_ ?_
   ⟨rfl,0,k,rfl,by lia,by lia,by lia,λi hi=>by lia,λi a b=>by lia⟩) ?_)
  .rintro x c st' _ hx ⟨rfl,l,u,rfl,q1,q2,q3,q4,q5⟩
   dsimp only;refine qM (λe=>Bn ⟨rfl,l,u,rfl,by lia,q4,λi a b=>q5 i (by lia) b⟩) λe=>?_
   refine AT (jM C (uc cr) (by lia) (by lia) ?_)
   dsimp only;refine qM (λz=>?_) λz=>?_
   .have z:r (b.getD (lo+k) nv)<r (b.getD (lo+(l+u)/2) nv):=by simpa using z
    exact Bn ⟨rfl,_,_,rfl,by lia,by lia,by lia,q4,λi a c=>Int.lt_of_lt_of_le z (sg _ _ (by lia) (by lia) (by lia))⟩
   .have z:¬ r (b.getD (lo+k) nv)<r (b.getD (lo+(l+u)/2) nv):=by simpa using z
    exact Bn ⟨rfl,_,_,rfl,by lia,by lia,by lia,λi a=>Fn (sg _ _ (by lia) (by lia) (by lia)) (Ou.mp z),q5⟩
  .rintro c st' ⟨rfl,l,u,rfl,q1,q2,q3,q4,q5⟩
   exact⟨rfl,l,u,rfl,by lia,q4,λi a b=>q5 i (by lia) b⟩
  .rintro c st' ⟨rfl,l,u,rfl,q1,q4,q5⟩
   dsimp only;refine AT (IK (Bn ⟨rfl,_,rfl,⟨(OP.mp (bubble_perm _ _ _)).trans cr.pm,λj hj=>?_⟩,?_⟩))
   .show (bubble b (lo+k) (lo+k-(lo+l))).getD j nv=_
    rw[dA (by lia) (by lia),Bj (by lia),Bj (by lia)]
    exact cr.out j hj
   .rw[show min (k+1) (max ok (max n 1))=k+1 by lia]
    have e:∀ j,(bubble b (lo+k) (lo+k-(lo+l))).getD j nv=if j=lo+l then b.getD (lo+k) nv else if lo+l<j/\j<=lo+k then b.getD (j-1) nv else b.getD j nv:=λj=>by
     rw[dA (by lia) (by lia),show lo+k-(lo+k-(lo+l))=lo+l by lia]
    intro i j a c d;show r ((bubble b (lo+k) (lo+k-(lo+l))).getD i nv)<=r ((bubble b (lo+k) (lo+k-(lo+l))).getD j nv);rw[e,e];by_cases i1:i<lo+l
    .rw[Bj (by lia),Bj (by lia)]
     have u1:=q4 (i-lo) (by lia)
     rw[show lo+(i-lo)=i by lia] at u1
     by_cases j1:j<lo+l
     .rw[Bj (by lia),Bj (by lia)];exact sg i j a c (by lia)
     .by_cases j2:j=lo+l
      .rw[Bp j2];exact u1
      .rw[Bj j2,Bp (by lia)];exact sg _ _ a (by lia) (by lia)
    .by_cases i2:i=lo+l
     .rw[Bp i2]
      by_cases j2:j=lo+l
      .rw[Bp j2];exact Lm _
      .rw[Bj j2,Bp (by lia)]
       have:=q5 (j-1-lo) (by lia) (by lia)
       rw[show lo+(j-1-lo)=j-1 by lia] at this
       exact Hi this
     .rw[Bj i2,Bp (by lia),Bj (by lia),Bp (by lia)]
      exact sg _ _ (by lia) (by lia) (by lia)
 .rintro c st' ⟨rfl,b,rfl,cr,sg⟩
  refine⟨rfl,b,rfl,cr,?_⟩;intro i j a c d;exact sg i j a c (by lia)
 .rw[show min (max ok 1) (max ok (max n 1))=max ok 1 by lia];exact sg1
 .rintro c st' ⟨rfl,b,rfl,cr,sg⟩
  exact Bn (h b cr sg)
end
def Rn (r:Bs->Ak)(a:Ay Bs):Aa (Ai × Ai × Ai)->Ai->Ai->Prop
 |[],x,y=>x=y
 |(s,n,_)::t,x,y=>s=x/\0<n/\Seg r a s n/\Rn r a t (x+n) y
section
variable {r:Bs->Ak}{a b:Ay Bs}
theorem Rn.app:∀ {L1 L2:Aa (Ai × Ai × Ai)} {x y:Ai},Rn r a (L1++L2) x y↔∃ m,Rn r a L1 x m/\Rn r a L2 m y
 |[],L2,x,y=>⟨λh=>⟨x,rfl,h⟩,λ⟨m,h1,h2⟩=>by cases h1;exact h2⟩
 |(s,n,p)::t,L2,x,y=>by
  show s=x/\0<n/\Seg r a s n/\Rn r a (t++L2) (x+n) y↔∃ m,(s=x/\0<n/\Seg r a s n/\Rn r a t (x+n) m)/\Rn r a L2 m y;rw[Rn.app];exact⟨λ⟨h1,h2,h3,m,h4,h5⟩=>⟨m,⟨h1,h2,h3,h4⟩,h5⟩,λ⟨m,⟨h1,h2,h3,h4⟩,h5⟩=>⟨h1,h2,h3,m,h4,h5⟩⟩
theorem Rn.le:∀ {L:Aa (Ai × Ai × Ai)} {x y:Ai},Rn r a L x y->x+L.length<=y
 |[],x,y,h=>by cases h;simp
 |(s,n,p)::t,x,y,h=>by have:=Rn.le h.2.2.2;have:=h.2.1;simp only[Bd];lia
theorem Rn.congr:∀ {L:Aa (Ai × Ai × Ai)} {x y:Ai},Rn r a L x y->(∀ k,x<=k->k<y->b.getD k nv=a.getD k nv)->Rn r b L x y
 |[],x,y,h,_=>h
 |(s,n,p)::t,x,y,h,e=>by
  obtain⟨rfl,h2,h3,h4⟩:=h;have l:=Rn.le h4;refine⟨rfl,h2,λi j a c d=>?_,Rn.congr h4 λk h1 h2=>e k (by lia) h2⟩
  rw[e i (by lia) (by lia),e j (by lia) (by lia)]
  exact h3 i j a c d
theorem Rn.mod {f:Ai × Ai × Ai->Ai × Ai × Ai}(hf:∀ u v p,∃ p',f (u,v,p)=(u,v,p')):∀ {L:Aa (Ai × Ai × Ai)} {i x y:Ai},Rn r a L x y->Rn r a (L.modify i f) x y
 |[],i,x,y,h=>by simpa using h
 |(s,n,p)::t,0,x,y,h=>by
  obtain⟨p',e⟩:=hf s n p;rw[List.modify_zero_cons,e];exact h
 |(s,n,p)::t,i+1,x,y,h=>by
  rw[List.modify_succ_cons];exact⟨h.1,h.2.1,h.2.2.1,Rn.mod hf h.2.2.2⟩
end
theorem LZ {α:Type}{l:Aa α}{i:Ai}(h:i+1<l.length):∃ L1 x y L2,l=L1++x::y::L2/\L1.length=i:=by
 refine⟨l.take i,l[i],l[i+1],l.drop (i+2),?_,by rw[Fc];lia⟩
 rw[<- Hk h,<- Hk (by lia),Nv]
section
variable {prog:Be}{w:Bx}{A:Bv}{E:Ac->Ag->Prop}{s:Ag}{κ : Ll}{U:Bs->Prop}{r:Bs->Ak}
theorem fT (C:Cm (Au prog w) A s κ U r){i e:Ai}{Q:Ar->Fq->Prop}{arr:Ay Bs}{pd:Ay (Ai × Ai × Ai)}{g:Ai}(ua:∀ x∈arr.toList,U x)(hi:i+1<pd.size)(R:Rn r arr pd.toList 0 e)(he:e<=arr.size)
  (h:∀ b pd' g,b.toList.Perm arr.toList->(∀ k,e<=k->b.getD k nv=arr.getD k nv)->Rn r b pd'.toList 0 e->pd'.size+1=pd.size->Q true (Dj κ b pd' g none)):wpS (Au prog w) A E s (mergeAt' i) Q (Dj κ arr pd g none):=by
 obtain⟨L1,⟨sa,na,pa⟩,⟨sb,nb,pb⟩,L2,el,hl⟩:=LZ (l:=pd.toList) (i:=i) (by simpa using hi)
 rw[el] at R;obtain⟨m,R1,rfl,p1,s1,rfl,p2,s2,R2⟩:=Rn.app.mp R;have l2:=Rn.le R2;have e1:pd[i]? = Ab (sa,na,pa):=by
  rw[<- Bk,el,<- hl,Dc (As _),Vz];rfl
 have e2:pd[i+1]? = Ab (sa+na,nb,pb):=by
  rw[<- Bk,el,<- hl,Dc (by lia),Jj];rfl
 refine rR C ua e1 e2 p1 p2 (by lia) s1 s2 λb g pm out sg=>?_
 have ep:((pd.setIfInBounds i (sa,na+nb,pa)).eraseIdxIfInBounds (i+1)).toList=L1++(sa,na+nb,pa)::L2:=by
  rw[Array.toList_eraseIdxIfInBounds,Array.toList_setIfInBounds,el,<- hl,List.set_append_right _ _ (As _),Vz,List.set_cons_zero,List.eraseIdx_append_of_length_le (by lia),Jj]
  rfl
 refine h b _ g pm (λk hk=>out k (by lia)) ?_ ?_
 .rw[ep]
  refine Rn.app.mpr ⟨sa,R1.congr λk _ hk=>out k (by lia),rfl,by lia,sg,?_⟩
  rw[<- Zs];exact R2.congr λk hk _=>out k (by lia)
 .have:=congrArg OI ep
  have q:=congrArg OI el;simp only[Bg,Ct,Bd] at this q
  lia
theorem lM (C:Cm (Au prog w) A s κ U r){Q:Su->Fq->Prop}{arr:Ay Bs}{g:Ai}(ua:∀ x∈arr.toList,U x)(h2:0<arr.size)
  (h:∀ b pd g,b.toList.Perm arr.toList->b.toList.Pairwise (Le r)->Q () (Dj κ b pd g none)):wpS (Au prog w) A E s sortRuns' Q (Dj κ arr #[] g none):=by
 have uc:∀ {b:Ay Bs},b.toList.Perm arr.toList->∀ x∈b.toList,U x:=λh x hx=>ua x (h.mem_iff.mp hx);have zc:∀ {b:Ay Bs},b.toList.Perm arr.toList->b.size=arr.size:=λh=>by simpa using h.length_eq
 refine AT (Mf ?_);dsimp only;refine AT (Hc (Ff (I:=λx c st'=>∃ b pd g lo,st'=Dj κ b pd g none/\c=(none,lo)/\b.toList.Perm arr.toList/\lo<=arr.size/\min x arr.size<=lo/\Rn r b pd.toList 0 lo)
  (Q:=λc st'=>∃ b pd g,st'=Dj κ b pd g none/\c=(none,arr.size)/\b.toList.Perm arr.toList/\Rn r b pd.toList 0 arr.size) ?_ ?_ ⟨arr,#[],g,0,rfl,rfl,Mn _,by lia,by lia,rfl⟩) ?_)
 .rintro x c st' _ hx ⟨b,pd,g,lo,rfl,rfl,pm,lo1,lo2,R⟩
  have zb:=zc pm;dsimp only;refine qM (λe=>Bn ⟨b,pd,g,rfl,by rw[show lo=arr.size by lia],pm,by rw[show arr.size=lo by lia];exact R⟩) λe=>?_
  refine AT (lL C (uc pm) (by lia) (by lia) λn b2 n1 n2 cr sg=>?_)
  have R2:Rn r b2 pd.toList 0 lo:=R.congr λk _ hk=>cr.out k (.inl hk);have pm2:=cr.pm.trans pm;have z2:=zc pm2;dsimp only;apply qM
  case' h1 =>
   intro lt;refine AT (OS (Gp ⟨rfl,?_⟩));refine AT (rK C (uc pm2) (by lia) (by lia) sg λb3 cr3 sg3=>?_)
   have R3:Rn r b3 pd.toList 0 lo:=R2.congr λk _ hk=>cr3.out k (.inl hk);have pm3:=cr3.pm.trans pm2;refine qM (λe=>by simp at e) λ_=>?_
   have n3:lo+min (arr.size-lo) ((sortPriv% PySem.Builtin.minRun) arr.size arr.size 0)<=arr.size:=by lia
   have n4:0<min (arr.size-lo) ((sortPriv% PySem.Builtin.minRun) arr.size arr.size 0):=by lia
  case' h2 =>
   intro lt;have R3:=R2;have pm3:=pm2;have sg3:=sg;have n3:lo+n<=arr.size:=by lia
   have n4:0<n:=n1
  all_goals
   refine AT (Mf ?_);dsimp only;rcases hb:pd.back? with _|⟨s1,l1,p1⟩
   .dsimp only
    refine AT (IK (Bn ⟨_,_,_,_,rfl,rfl,pm3,n3,by lia,?_⟩))
    show Rn r _ (pd.push _).toList 0 _;rw[Ei];exact Rn.app.mpr ⟨lo,R3,rfl,n4,sg3,rfl⟩
   .dsimp only
    refine AT (Hc (Ff (I:=λ_ c st'=>c=(none,())/\∃ b pd g,st'=Dj κ b pd g none/\b.toList.Perm arr.toList/\Rn r b pd.toList 0 lo/\Seg r b lo _)
     (Q:=λc st'=>c=(none,())/\∃ b pd g,st'=Dj κ b pd g none/\b.toList.Perm arr.toList/\Rn r b pd.toList 0 lo/\Seg r b lo _) ?_ (λ_ _ z=>z) ⟨rfl,_,pd,g,rfl,pm3,R3,sg3⟩) ?_)
    .rintro y c st' _ hy ⟨rfl,b,pd,g,rfl,pm,R,sg⟩
     have zb:=zc pm;refine AT (Mf ?_);dsimp only;by_cases hp:pd.size>1
     .rw[Bp hp]
      rcases hq:pd[pd.size-2]? with _|⟨u,v,old⟩
      .exact Bn ⟨rfl,b,pd,g,rfl,pm,R,sg⟩
      .dsimp only
       refine qM (λ_=>Bn ⟨rfl,b,pd,g,rfl,pm,R,sg⟩) λ_=>?_;refine AT (fT C (uc pm) (by lia) R (by lia) λb' pd' g' p' out R' _=>?_)
       refine qM (λe=>by simp at e) λ_=>Bn ⟨rfl,b',pd',g',rfl,p'.trans pm,R',λi j a c d=>?_⟩
       rw[out i a,out j (by lia)]
       exact sg i j a c d
     .rw[Bj hp]
      exact Bn ⟨rfl,b,pd,g,rfl,pm,R,sg⟩
    .rintro c st' ⟨rfl,b,pd,g,rfl,pm,R,sg⟩
     dsimp only;refine AT (IK (AT (IK (Bn ⟨_,_,_,_,rfl,rfl,pm,n3,by lia,?_⟩))))
     show Rn r b ((pd.modify (pd.size-1) _).push _).toList 0 _;rw[Ei,Array.toList_modify];exact Rn.app.mpr ⟨lo,Rn.mod (λ_ _ _=>⟨_,rfl⟩) R,rfl,n4,sg,rfl⟩
 .rintro c st' ⟨b,pd,g,lo,rfl,rfl,pm,lo1,lo2,R⟩
  have:lo=arr.size:=by lia
  subst this;exact⟨b,pd,g,rfl,rfl,pm,R⟩
 .rintro c st' ⟨b,pd,g,rfl,rfl,pm,R⟩
  dsimp only;have hl:=R.le;rw[Bg] at hl;refine AT (Hc (Ff (I:=λx c st'=>c=(none,())/\∃ b pd g,st'=Dj κ b pd g none/\b.toList.Perm arr.toList/\Rn r b pd.toList 0 arr.size/\(pd.size<=1\/pd.size+x<=arr.size))
   (Q:=λc st'=>c=(none,())/\∃ b pd g,st'=Dj κ b pd g none/\b.toList.Perm arr.toList/\Rn r b pd.toList 0 arr.size/\pd.size<=1) ?_ ?_ ⟨rfl,b,pd,g,rfl,pm,R,by lia⟩) ?_)
  .rintro x c st' _ hx ⟨rfl,b,pd,g,rfl,pm,R,hs⟩
   have zb:=zc pm;refine AT (Mf ?_);dsimp only;refine qM (λe=>Bn ⟨rfl,b,pd,g,rfl,pm,R,e⟩) λe=>?_;refine AT (fT C (uc pm) ?_ R (by lia) λb' pd' g' p' out R' z'=>?_)
   .have e:¬ pd.size<=1:=e
    have q:∀ (c:Prop) [IQ c],(if c then pd.size-2-1 else pd.size-2)+1<pd.size:=λc _=>by split <;> lia
    exact q _
   exact qM (λe=>by simp at e) λ_=>Bn ⟨rfl,b',pd',g',rfl,p'.trans pm,R',by lia⟩
  .rintro c st' ⟨rfl,b,pd,g,rfl,pm,R,hs⟩
   exact⟨rfl,b,pd,g,rfl,pm,R,by lia⟩
  .rintro c st' ⟨rfl,b,pd,g,rfl,pm,R,hs⟩
   have zb:=zc pm;refine Bn (h b pd g pm ?_);have hs:pd.toList.length<=1:=by simpa using hs
   revert R hs
   cases pd.toList with
   |nil=>intro R;have:0=arr.size:=R;lia
   |cons q t =>
    obtain⟨s0,n0,p0⟩:=q;intro R hs;have:t=[]:=by cases t with|nil=>rfl|cons _ _=>simp at hs
    subst this;obtain⟨rfl,_,sg,e⟩:=R;have e:n0=arr.size:=by have:0+n0=arr.size:=e;lia
    subst e;rw[IV];intro i j hi hj l;have hi':i<b.size:=by simpa using hi
    have hj':j<b.size:=by simpa using hj
    have:=sg i j (by lia) (by lia) (by lia)
    simpa [Ge,hi',hj',Le] using this
end
structure Cmps (prog:Be)(w:Bx)(h0:Br)(vs:Aa Ac)(f:Ai->Ai->Ar):Prop where
 ex:∃ κ,∀ (A:Bv),A.units+8<Eg->∀ (s:Ag),Sup h0 s.heap->(∀ (Q:Ll->Ag->Prop) (E:Ac->Ag->Prop),Q κ s->Ap (Au prog w) A (keyKind' vs.toArray) Q E s)/\∀ i j (C:Ar->Ag->Prop),i<vs.length->j<vs.length->C (f i j) s->kas_ask prog w A κ vs i j C s
open Classical in
def kV {K:Type}(is:K->Ac->Prop)(d:K)(v:Ac):K:=if h:∃ k,is k v then choose h else d
open Classical in
theorem fR {K:Type}{is:K->Ac->Prop}{d:K}{v:Ac}(h:∃ k,is k v):is (kV is d v) v:=by
 unfold kV;rw[dif_pos h];exact choose_spec h
section
variable {prog:Be}{w:Bx}{A:Bv}{E:Ac->Ag->Prop}{s:Ag}
theorem U0 {K:Type}{is:K->Ac->Prop}{lt':K->K->Ar}{d:K}(O:Ord lt')(inj:∀ {k k':K} {v:Ac},is k v->is k' v->k=k'){a:Af}{vs:Aa Ac}{ks:Aa K}{n:Ai}{h0:Br}{P:PySem.Fin->Ag->Prop}(hlen:vs.length=ks.length)(hks:∀ i v,vs[i]? = Ab v->is (ks.getD i d) v)(ho:s.heap.get? a=Ab (Ej "list" vs.toArray n))(hu:A.units+8<Eg)(hz:vs.length<=100000)(c:2<=vs.length->Cmps prog w h0 vs (d7 lt' ks d))(hS:Sup h0 s.heap)(ha:h0.get? a=none)
  (h:∀ ps:Aa (K × Ac),ps.Perm (ks.zip vs)->Nf lt' (ps.map (·.1))->P (.done (.ret .none)) { s with heap:=sortedHeap s.heap a vs (ps.map (·.2)).toArray }) : Ap (Au prog w) A (Ig.«list.sort» ⟨[.ref a],[]⟩) P E s:=by
 rw[list_sort_plain];have hb:a<s.heap.objs.size:=Az ho;have hsz:vs.toArray.size=vs.length:=by simp
 refine Ad (listItems_at ho rfl (Ad (listUpdate_at ho rfl ?_ (by rw[hsz,Fi];lia) (Gj _))))
 obtain⟨e1,ho1⟩:∃ e1,(s.heap.update a (Ew λ_=>#[])).get? a=Ab (Ej "list" #[] e1):=⟨_,Ln ho (λ_=>#[])⟩;refine Ad (seqEpoch_at ho1 rfl (Ad (Sw (Ad (Ul (Em ?_) (Gj _))) (by show vs.length<=_;rw[Fi];lia))))
 have ho6:(((s.heap.update a (Ew λ_=>#[])).push (Ej "tuple" vs.toArray 0)).push (Ej "list" #[] 0)).get? a=Ab (Ej "list" #[] e1):=
  Ah _ (Ah _ ho1)
 have S6:Sup h0 (((s.heap.update a (Ew λ_=>#[])).push (Ej "tuple" vs.toArray 0)).push (Ej "list" #[] 0)):=λb o e =>
  Ah _ (Ah _ ((Dk _ _ (λz:a=b=>by rw[<- z,ha] at e;cases e)).trans (hS b o e)))
 show Ap (Au prog w) A _ P E { s with heap:=((s.heap.update a (Ew λ_=>#[])).push (Ej "tuple" vs.toArray 0)).push (Ej "list" #[] 0) }
 dsimp only;have fin:∀ (st':Fq) (ps:Aa (K × Ac)),(arrOf st').map (·.2)=(ps.map (·.2)).toArray->failedOf st'=none->ps.Perm (ks.zip vs)->Nf lt' (ps.map (·.1))->Ap (Au prog w) A (do
   let touched:=(<- seqEpoch a) != e1
   sB (.ref a) λ_=>(arrOf st').map (·.2)
   if let Ab e:=failedOf st' then rule "list.sort.comparison-raised";throw e
   if touched then rule "list.sort.modified";raiseError "ValueError" "list modified during sort"
   ret .none) P E { s with heap:=((s.heap.update a (Ew λ_=>#[])).push (Ej "tuple" vs.toArray 0)).push (Ej "list" #[] 0) }:=by
  intro st' ps h1 h2 h3 h4;have hl:(ps.map (·.2)).length=vs.length:=by rw[Ao,h3.length_eq,Lo,hlen,Qs]
  refine Ad (seqEpoch_at ho6 rfl ?_);rw[h1];refine Ad (listUpdate_at ho6 rfl ?_ (Gj _) (by show (ps.map (·.2)).toArray.size<=_;rw[Bh,hl,Fi];lia))
  rw[h2];simp only[Mw,By,Ef];exact Al (h ps h3 h4)
 by_cases h2:vs.toArray.size<2
 .rw[Bp h2,Bp h2]
  refine Ad (Al ?_);rw[StateT.run_pure];refine Ad (Al ?_);refine fin (Dj general' (vs.toArray.zip vs.toArray) #[] 7 none) (ks.zip vs) ?_ rfl (Mn _) ?_
  .show (vs.toArray.zip vs.toArray).map (·.2)=_
   apply Xq.mp;simp[List.map_snd_zip,hlen]
  .rw[Qn (by lia)]
   match ks,hlen with
   |[],_=>exact Mp
   |[_],_=>exact Ra _ _
   |_::_::_,e=>simp at e h2;lia
 .rw[Bj h2,Bj h2]
  have h2':2<=vs.length:=by lia
  obtain⟨κ,C⟩:=c h2';obtain⟨k1,k2⟩:=C A hu { s with heap:=((s.heap.update a (Ew λ_=>#[])).push (Ej "tuple" vs.toArray 0)).push (Ej "list" #[] 0) } S6
  have kv:∀ i,i<vs.length->kV is d (vs.getD i Dn)=ks.getD i d:=λi hi=>by
   have q:=hks i (vs.getD i Dn) (by rw[OQ,An hi];rfl)
   exact inj (fR ⟨_,q⟩) q
  have km:∀ i,i<vs.length->ks.getD i d∈ks:=λi hi=>by
   have:i<ks.length:=by lia
   simp[HT,this]
  have cm:Cm (Au prog w) A { s with heap:=((s.heap.update a (Ew λ_=>#[])).push (Ej "tuple" vs.toArray 0)).push (Ej "list" #[] 0) } κ (λx=>∃ i,i<vs.length/\x=(vs.getD i Dn,vs.getD i Dn)) (λx=>kM lt' ks (kV is d x.1)):=by
   refine⟨?_⟩;rintro x y ⟨i,hi,rfl⟩ ⟨j,hj,rfl⟩ E Q st hk q;rw[lt'_eq];refine AT (Mf ?_);rw[hk];rw[kv i hi,kv j hj,<- sY O (km i hi)] at q;refine AT (OS (Jr (II (k2 i j (λb s'=>s'=_/\b=d7 lt' ks d i j) hi hj ⟨rfl,rfl⟩) ?_ λ_ _ e=>e.elim)));rintro b s' ⟨rfl,rfl⟩;exact⟨rfl,Bn q⟩
  have pl:(vs.toArray.zip vs.toArray).toList=(Dd vs.length).map λi=>(vs.getD i Dn,vs.getD i Dn):=by
   apply Ks
   .simp
   .intro i h1 h2
    have:i<vs.length:=by simpa using h2
    simp[this]
  refine Ad (k1 _ _ ?_);refine Ad (II (lM (E:=E) (Q:=λ_ st'=>∃ b pd g,st'=Dj κ b pd g none/\b.toList.Perm (vs.toArray.zip vs.toArray).toList/\b.toList.Pairwise (Le λx=>kM lt' ks (kV is d x.1))) cm (arr:=vs.toArray.zip vs.toArray) (g:=7) ?_ ?_ λb pd g p q=>⟨b,pd,g,rfl,p,q⟩) ?_ λ_ _ e=>e)
  .intro x hx
   rw[pl] at hx;obtain⟨i,hi,rfl⟩:=Aw.mp hx;exact⟨i,Dt.mp hi,rfl⟩
  .simp;lia
  .rintro⟨⟨⟩,st'⟩ s' ⟨rfl,b,pd,g,rfl,pm,up⟩
   refine fin _ (b.toList.map λx=>(kV is d x.1,x.2)) ?_ rfl ?_ ?_
   .show b.map (·.2)=_
    apply Xq.mp;simp
   .refine(pm.map _).trans ?_
    rw[pl,Do];have:ks.zip vs=(Dd vs.length).map λi=>(ks.getD i d,vs.getD i Dn):=by
     apply Ks
     .simp[hlen]
     .intro i h1 h2
      have h3:i<vs.length:=by simpa using h2
      have h4:i<ks.length:=by lia
      simp[h3,h4]
    rw[this];refine List.Perm.of_eq (Ov λi hi=>?_);show (kV is d (vs.getD i Dn),_)=_;rw[kv i (Dt.mp hi)]
   .unfold Nf
    rw[Do,Di];refine up.imp_of_mem λ{x y} hx hy h=>?_;have hx:=pm.mem_iff.mp hx;have hy:=pm.mem_iff.mp hy;rw[pl] at hx hy;obtain⟨i,hi,rfl⟩:=Aw.mp hx;obtain⟨j,hj,rfl⟩:=Aw.mp hy;have h:kM lt' ks (kV is d (vs.getD i Dn))<=kM lt' ks (kV is d (vs.getD j Dn)):=h;show lt' (kV is d (vs.getD j Dn)) (kV is d (vs.getD i Dn))=false;have hj:=Dt.mp hj;rw[sY O (ks:=ks) (by rw[kv j hj];exact km j hj)]
    exact Cy (by lia)
end
section
variable {prog:Be}{w:Bx}{h0:Br}
theorem KJ {A:Bv}{s:Ag}{b:Ar}{Q:Ar->Ag->Prop}:∀ {xs ys:Aa Ak} {us vs:Aa Ac} {i:Ai} {N M:Ai},ItemsAre (Bf prog w) xs us->ItemsAre (Bf prog w) ys vs->N+ys.length=M+xs.length->Q (_H.lexLt xs ys) s->KatLex prog w A b (decide (N<M)) Q (us.zip vs) i s:=by
 intro xs ys us vs i N M hx
 induction hx generalizing ys vs i with
 |nil =>
  intro hy hl h;cases hy with
  |nil =>
   have:decide (N<M)=false:=Cy (by simp at hl;lia)
   rw[this];exact h
  |@cons k v ys vs q r =>
   have:decide (N<M)=true:=Cp (by simp at hl;lia)
   rw[this];exact h
 |@cons x u xs us qx rx ih =>
  intro hy hl h;cases hy with
  |nil =>
   have:decide (N<M)=false:=Cy (by simp at hl;lia)
   rw[this];exact h
  |@cons y v ys vs qy ry =>
   obtain⟨t,rfl⟩:=wA (prog:=prog) (w:=w) qx;obtain⟨t',rfl⟩:=wA (prog:=prog) (w:=w) qy;rw[Jl];refine kat_cons (Wz ?_);rw[_H.lexLt_cons] at h;refine kat_go (λe=>kat_yes ?_) λe=>kat_no ?_
   .rw[Bp (by simpa using e)] at h
    exact ih ry (by simp at hl;lia) h
   .rw[Bj (by simpa using e)] at h
    cases b&&i == 0 with
    |true=>exact oneLt_int h
    |false=>exact kat_one _ _ (Om h)
theorem cN {h:Br}:∀ {vs:Aa Ac} {ks:Aa (Aa Ak)},vs.length=ks.length->(∀ i v,vs[i]? = Ab v->isT prog w h (ks.getD i []) v)->(∀ k∈ks,k≠[])->∃ fs,KatTups h vs fs/\fs.length=vs.length/\∀ f∈fs,∃ n t,f=OT n t
 |[],[],_,_,_=>⟨[],trivial,rfl,λf hf=>by simp at hf⟩
 |v::vs,k::ks,hl,hv,hne=>by
  obtain⟨fs,a1,a2,a3⟩:=cN (vs:=vs) (ks:=ks) (by simpa using hl) (λi u hu=>by simpa using hv (i+1) u (by simpa using hu)) λk hk=>hne k (by simp[hk])
  obtain⟨a,rfl,o,items,n,ho,hc,hd,hi⟩:=hv 0 v rfl;have hk:k≠[]:=hne k (by simp)
  have hi':ItemsAre (Bf prog w) k items.toList:=hi;cases hz:items.toList with
  |nil=>rw[hz] at hi';cases hi';exact absurd rfl hk
  |cons f qJ =>
   rw[hz] at hi';cases hi' with
   |cons q _ =>
    obtain⟨t,rfl⟩:=wA (prog:=prog) (w:=w) q;refine⟨_::fs,KatTups.cons ho hc hd (by rw[<- Bk,hz];rfl) a1,by simp[a2],λf hf=>?_⟩
    rcases Ax.mp hf with rfl|hf
    .exact⟨_,_,rfl⟩
    .exact a3 f hf
theorem FA {ks:Aa (Aa Ak)}(hl:vs.length=ks.length)(hv:∀ i v,vs[i]? = Ab v->isT prog w h0 (ks.getD i []) v)(hne:∀ k∈ks,k≠[])(h2:2<=vs.length):Cmps prog w h0 vs (d7 _H.lexLt ks []):=by
 refine⟨tuples' (Ic "int" != Ic "tuple"),λA hu s hS=>⟨λQ E h=>?_,λi j C hi hj h=>?_⟩⟩
 .obtain⟨fs,a1,a2,a3⟩:=cN (h:=s.heap) hl (λi v hv'=>by obtain⟨a,e,q⟩:=hv i v hv';exact⟨a,e,vF hS q⟩) hne
  refine kat_kind a1 (by lia) (λv hv'=>?_) (by decide) h
  obtain⟨n,t,rfl⟩:=a3 v hv';exact Looks.of_pure rfl
 .have g:∀ k (hk:k<vs.length),∃ a,vs.getD k Dn=.ref a/\Os (Bf prog w) s.heap (ks.getD k []) a:=λk hk=>by
   obtain⟨a,e,q⟩:=hv k vs[k] (An hk);exact⟨a,by rw[<- e];simp[HT,hk],vF hS q⟩
  obtain⟨a,ea,oa,ia,na,ha,_,da,qa⟩:=g i hi;obtain⟨b,eb,ob,ib,nb,hb,_,db,qb⟩:=g j hj;unfold kas_ask;rw[ea,eb];refine kat_lt ha da hb db (KJ qa qb ?_ h);have la:=qa.length;have lb:=qb.length;simp only[Bg] at la lb
  lia
theorem F9 {ks:Aa Ak}(hl:vs.length=ks.length)(hv:∀ i v,vs[i]? = Ab v->isI prog w (ks.getD i 0) v)(h2:2<=vs.length):Cmps prog w h0 vs (d7 ltI ks 0):=by
 have hi:∀ v∈vs,∃ n t,v=OT n t:=λv hm=>by
  obtain⟨i,hi,e⟩:=Cn.mp hm;obtain⟨t,q⟩:=wA (hv i v (by rw[An hi,e]))
  exact⟨_,t,q⟩
 refine⟨oneType',λA hu s hS=>⟨λQ E h=>?_,λi j C hi hj h=>?_⟩⟩
 .obtain⟨v₁,v₂,qJ,rfl⟩:∃ v₁ v₂ qJ,vs=v₁::v₂::qJ:=by
   match vs,h2 with
   |v₁::v₂::qJ,_=>exact⟨v₁,v₂,qJ,rfl⟩
  rw[keyKind_ints (intsAre_map _ hi)];exact Al h
 .have g:∀ k (hk:k<vs.length),∃ t,vs.getD k Dn=.int (ks.getD k 0) t:=λk hk=>by
   obtain⟨t,q⟩:=wA (hv k vs[k] (An hk));exact⟨t,by rw[<- q];simp[HT,hk]⟩
  obtain⟨t,et⟩:=g i hi;obtain⟨u,eu⟩:=g j hj;unfold kas_ask;rw[et,eu];exact kat_lt_int h
end
section
variable {K:Type}{lt':K->K->Ar}
theorem X1 {α:Type}{ks:Aa K}{vs:Aa α}{d:K}(hl:vs.length=ks.length){p:K × α}(h:p∈ks.zip vs):∃ i,vs[i]? = Ab p.2/\ks.getD i d=p.1:=by
 obtain⟨i,hi,e⟩:=Cn.mp h;have h1:i<ks.length:=by rw[Lo] at hi;lia
 have h2:i<vs.length:=by lia
 rw[List.getElem_zip] at e;subst e;exact⟨i,An h2,by simp[h1]⟩
end
structure Kind (prog:Be)(w:Bx){K:Type}(is:K->Ac->Prop)(hash:K->Ak)(lt':K->K->Ar)(d:K)(Fit:K->Prop)(h0:Br):Prop where
 ord:Ord lt'
 inj:∀ {k k':K} {v:Ac},is k v->is k' v->k=k'
 cmps:∀ {vs:Aa Ac} {ks:Aa K},vs.length=ks.length->(∀ i v,vs[i]? = Ab v->is (ks.getD i d) v)->(∀ k∈ks,Fit k)->2<=vs.length->Cmps prog w h0 vs (d7 lt' ks d)
theorem VY (prog:Be)(w:Bx)(h0:Br):Kind prog w (isT prog w h0) (Bu (Bf prog w)) _H.lexLt [] (·≠[]) h0:=⟨sQ,isT.inj,λh1 h2 h3 h4=>FA h1 h2 h3 h4⟩
theorem i7 (prog:Be)(w:Bx)(h0:Br):Kind prog w (isI prog w) (Bf prog w).hash ltI 0 (λ_=>Ng) h0:=⟨zY,λa b=>(Bf prog w).inj _ _ _ a b,λh1 h2 _ h4=>F9 h1 h2 h4⟩
section
variable {prog:Be}{w:Bx}{A:Bv}{E:Ac->Ag->Prop}{s:Ag}{K:Type}{is:K->Ac->Prop}{hash:K->Ak}{lt':K->K->Ar}{d:K}{Fit:K->Prop}{h0:Br}{S:Af}{V:Aa Ac}{seen:Aa K}
open Classical in
def kOf (is:K->Ac->Prop)(d:K)(e:Ak × Ac):K:=if h:∃ k,is k e.2 then choose h else d
open Classical in
theorem Q6 {e:Ak × Ac}(h:∃ k,is k e.2):is (kOf is d e) e.2:=by
 unfold kOf;rw[dif_pos h];exact choose_spec h
theorem iR {Q:Ac->Ag->Prop}(kd:Kind prog w is hash lt' d Fit h0)(hh:A.handled=none)(hu:A.units+16<Eg)(hS:Sup h0 s.heap)(Z:SetK is hash S (xC w) V seen s.heap)(hf:∀ k∈seen,Fit k){U:Aa K}(hU:U.length<=1000)(hU1:∀ k∈seen,k∈U)
  (h:∀ h' tk D c (ps:Aa (K × Ac)),(∀ b o,s.heap.get? b=Ab o->h'.get? b=Ab o)->s.heap.objs.size<=D->h'.get? D=Ab (Ej "list" (ps.map (·.2)).toArray c)->ps.map (·.1)=srt lt' seen->(∀ p∈ps,is p.1 p.2/\p.2∈V)->ps.length<=1000->Q (.ref D) { s with heap:=h',toks:=tk }) :
  Ap (Au prog w) A (call (.builtin "sorted") [.ref S]) Q E s:=by
 obtain⟨es,ep,t,ho,Z0,T,hl,hV⟩:=Z;have st:Still w S es ep t:=⟨T,hl⟩;have hn:es.size<=1000:=by
  have:=bR es.toList U Z0.nd λe he=>by
   obtain⟨k',_,q⟩:=Z0.good e he;exact⟨k',hU1 k' ((Z0.mem k').mpr ⟨e,he,q⟩),q⟩
  rw[Bg] at this
  lia
 have op:=fZ w S ep es;have osz:=vS w S ep es;have good:∀ e∈(qP w S ep es).toList,is (kOf is d e) e.2/\e.2∈V:=λe he=>by
  have he':=op.mem_iff.mp he;obtain⟨k,_,q⟩:=Z0.good e he';exact⟨Q6 ⟨k,q⟩,hV e he'⟩
 have nd0:(qP w S ep es).toList.Pairwise λa b=>∀ k,is k a.2->¬ is k b.2:=(op.pairwise_iff λ{x y} h k hy hx=>h k hx hy).mpr Z0.nd;generalize hoe:(qP w S ep es).toList=oe at *;have hoel:oe.length<=1000:=by rw[op.length_eq,Bg];exact hn
 have hks:∀ i v,(oe.map (·.2))[i]? = Ab v->is ((oe.map (kOf is d)).getD i d) v/\v∈V:=λi v hv=>by
  rw[Du] at hv;cases hi:oe[i]? with
  |none=>rw[hi] at hv;cases hv
  |some e =>
   rw[hi] at hv;cases hv;have g:=good e (Cu hi);have:(oe.map (kOf is d)).getD i d=kOf is d e:=by rw[OQ,Du,hi];rfl
   rw[this];exact g
 have nd:(oe.map (kOf is d)).Nodup:=by
  unfold Uf;rw[Di];refine Pw (λ{a b} ha hb h e=>?_) nd0;exact h _ (good a ha).1 (e▸(good b hb).1)
 have mem:∀ x,x∈oe.map (kOf is d)↔x∈seen:=λx=>by
  rw[Z0.mem,Aw];constructor
  .rintro⟨e,he,rfl⟩
   exact⟨e,op.mem_iff.mp he,(good e he).1⟩
  .rintro⟨e,he,q⟩
   exact⟨e,op.mem_iff.mpr he,kd.inj (good e (op.mem_iff.mpr he)).1 q⟩
 have hlen:(oe.map (·.2)).length=(oe.map (kOf is d)).length:=by simp
 refine Po kind_sorted plain_sorted entry_sorted (args_sorted1 _) ?_;unfold Ig.«sorted»;refine Ad (m:=checkCount "sorted" 1 1 _) (Al ?_);refine Ad (rL hh st ho (by lia) λh1 tk1 kp1 hlt=>?_)
 rw[hoe];refine Ad (Ul ?_ (by rw[Fi,Ao];lia))
 have hD:(h1.push (Ej "list" (oe.map (·.2)).toArray 0)).get? h1.objs.size=Ab (Ej "list" (oe.map (·.2)).toArray 0):=Ba _ rfl
 have n0:h0.get? h1.objs.size=none:=by
  cases q:h0.get? h1.objs.size with
  |none=>rfl
  |some o=>exact absurd (Az (hS _ _ q)) (Na.mpr (Fe hlt))
 show Ap _ _ _ _ _ { s with heap:=h1.push (Ej "list" (oe.map (·.2)).toArray 0),toks:=tk1 }
 refine Ad (Em (Ea slot_list_sort ⟨_,hD,rfl⟩ Yj (U0 (h0:=h0) (is:=is) kd.ord kd.inj (d:=d) (vs:=oe.map (·.2)) hlen (λi v hv=>(hks i v hv).1) hD (by show A.units+2+8<Eg;lia) (by rw[Ao];lia) (λh2=>kd.cmps hlen (λi v hv=>(hks i v hv).1) (λk hk=>hf k ((mem k).mp hk)) h2) (λb o e=>Ah _ (kp1 b o (hS b o e))) n0 λps pm nf=>⟨_,rfl,?_⟩) (args_list_sort _)))
 refine Al ⟨_,rfl,?_⟩;have hz:(h1.push (Ej "list" (oe.map (·.2)).toArray 0)).objs.size=h1.objs.size+1:=size_push' ..
 have old:∀ b o,b≠h1.objs.size->(h1.push (Ej "list" (oe.map (·.2)).toArray 0)).get? b=Ab o->((((h1.push (Ej "list" (oe.map (·.2)).toArray 0)).update h1.objs.size (Ew λ_=>#[])).push (Ej "tuple" (oe.map (·.2)).toArray 0)).push (Ej "list" #[] 0)).get? b=Ab o:=λb o hb e =>
  Ah _ (Ah _ ((Dk _ _ (Ft hb)).trans e))
 obtain⟨e1,he1⟩:∃ e1,((h1.push (Ej "list" (oe.map (·.2)).toArray 0)).update h1.objs.size (Ew λ_=>#[])).get? h1.objs.size=Ab (Ej "list" #[] e1):=⟨_,Ln hD (λ_=>#[])⟩
 have he6:=Ln (Ah (Ej "list" #[] 0) (Ah (Ej "tuple" (oe.map (·.2)).toArray 0) he1)) (λ_=>(ps.map (·.2)).toArray)
 have pk:(ps.map (·.1)).Perm (oe.map (kOf is d)):=by
  have:=pm.map (·.1)
  rwa [Qn (by lia)] at this
 refine h _ tk1 h1.objs.size _ ps (λb o e=>?_) (Fe hlt) he6 (MX kd.ord nf (pk.nodup_iff.mpr nd) λx=>by rw[pk.mem_iff,mem]) (λp hp=>?_) (by have:=pk.length_eq;rw[Ao,Ao] at this;lia)
 .have hb:b≠h1.objs.size:=λz=>by
   subst z;exact absurd (Az e) (Na.mpr (Fe hlt))
  exact(Dk _ _ (Ft hb)).trans (old b o hb (Ah _ (kp1 b o e)))
 .obtain⟨i,e1,e2⟩:=X1 (d:=d) hlen (pm.mem_iff.mp hp)
  exact e2▸hks i _ e1
end
end _S
namespace _D
open PySem PySem.Spec PyProof.Rows _L
noncomputable def w5:Aa D->Am (Aa (Aa Ak))
 |[]=>Ab []
 |.tup ys::r=>(zP ys).bind λk=>(w5 r).map (k::·)
 |_::_=>none
noncomputable def tpD (k:Aa Ak):D:=.tup (k.map D.int)
theorem bW:∀ {ds:Aa D} {ks:Aa (Aa Ak)},w5 ds=Ab ks->ds=ks.map tpD
 |[],ks,h=>by cases h;rfl
 |d::r,ks,h=>by
  cases d with
  |tup ys =>
   obtain⟨k,h1,h2⟩:=Er.mp (show (zP ys).bind (λk=>(w5 r).map (k::·))=Ab ks from h)
   obtain⟨m,h3,rfl⟩:=Ha.mp h2;rw[bW h3,yA h1];rfl
  |_=>cases h
theorem gZ (ks:Aa (Aa Ak)):w5 (ks.map tpD)=Ab ks:=by
 induction ks with
 |nil=>rfl
 |cons k ks ih =>
  show (zP (k.map D.int)).bind (λk=>(w5 (ks.map tpD)).map (k::·))=_
  rw[xP,ih];rfl
noncomputable def uF (xs:Aa D):Am (Aa D):=match zP xs with
 |some ns=>if (_S.srt _S.ltI ns).length<=1000 then Ab ((_S.srt _S.ltI ns).map D.int) else none
 |none=>match w5 xs with
  |some ks=>if ((_S.srt _H.lexLt ks).length<=1000&&ks.all λk=>!k.isEmpty) then Ab ((_S.srt _H.lexLt ks).map tpD) else none
  |none=>none
noncomputable def YW:D->Am (Aa D)
 |.lst xs=>Ab xs
 |.tup xs=>Ab xs
 |_=>none
theorem V2 {K:Type}{lt':K->K->Ar}(O:_S.Ord lt')(ks:Aa K)(d:K):_S.srt lt' (_S.wQ (λi=>ks.getD i d) ks.length)=_S.srt lt' ks:=
 _S.jL O (_S.wZ O _) (_S.wZ O _) λx=>by
  rw[_S.zE O,_S.zE O,_S.uQ];constructor
  .rintro⟨i,hi,rfl⟩
   simp[HT,hi]
  .intro hx
   obtain⟨i,hi,e⟩:=Cn.mp hx;exact⟨i,hi,by simp[HT,hi,e]⟩
section
variable {X:Cx}{e:Bt}{fa:DE}{p1 p2 pos1 pos2:Eu}
theorem oC:Fm "sorted" = Ab (.builtin "sorted"):=by decide +kernel
theorem tE {prog:Be}{w:Bx}:∀ {k:Aa Ak} {us:Aa Ac},qI (k.map V.int) us->ItemsAre (Bf prog w) k us
 |[],us,h=>by cases h;exact .nil
 |i::k,us,h=>by
  cases h with
  |cons q t =>
   obtain⟨tk,rfl⟩:=q;exact .cons (Qm _ _ _ _) (tE t)
theorem r9 {pins:Aa (Af × Ci)}{σ : _L.St}{H P:Hp}{α : Aa Af}{S:Sto}{s:Ag}{d:D}{xs:Aa D}{v:V}{vv:Ac}(I:Inv X pins σ H s)(r:Rel X.K H P α S)(p:Rep X.K P α d v)(q:qF v vv)(h:YW d=Ab xs) :
  ∃ a vs its,vv=.ref a/\qB X.K P α xs vs/\qI vs its/\(s.heap.IsList a its.toArray\/s.heap.IsTuple a its.toArray)/\xs.length=its.length:=by
 cases d with
 |lst ys =>
  cases h;obtain⟨a,vs,its,n,rfl,_,t,rv,e,l,_⟩:=jH I r p;exact⟨a,vs,its,q,t,rv,.inl ⟨_,e,rfl,n,rfl⟩,l⟩
 |tup ys =>
  cases h;obtain⟨a,vs,its,rfl,_,t,rv,⟨o,e,hc,n,hd⟩,l,_⟩:=yP I r p;exact⟨a,vs,its,q,t,rv,.inr ⟨o,e,hc,n,hd⟩,l⟩
 |_=>cases h
end
end _D
section
namespace _D
open PySem PySem.Spec PyProof.Rows _L
mutual
noncomputable def pyD:D->Am PyData
 |.non=>Ab .none
 |.bl b=>Ab (.bool b)
 |.int i=>Ab (.int i)
 |.str x=>Ab (.str x)
 |.tup xs=>(bT xs).map .tuple
 |.lst xs=>(bT xs).map .list
 |.dct0=>Ab (.dict [])
 |_=>none
noncomputable def bT:Aa D->Am (Aa PyData)
 |[]=>Ab []
 |d::ds=>(pyD d).bind λx=>(bT ds).map (x::·)
end
end _D
end
section
namespace _H
open PySem PyProof.Rows
noncomputable def stepLo (n:Ai)(k:Ak):Ak:=(Gb none none k (n:Ak)).1
noncomputable def stepHi (n:Ai)(k:Ak):Ak:=(Gb none none k (n:Ak)).2
noncomputable def stepN (n:Ai)(k:Ak):Ai:=Gc (stepLo n k) (stepHi n k) k
noncomputable def stepL {α:Type}(xs:Aa α)(k:Ak):Aa α:=(Dd (stepN xs.length k)).filterMap λ(m:Ai)=>xs[(stepLo xs.length k+(m:Ak)*k).toNat]?
section
variable {prog:Be}{w:Bx}{A:Bv}{E:Ac->Ag->Prop}{s:Ag}
theorem pV {sl:Af}{k:Ak}{t:Ry}{n:Ai}{Q:Ak × Ak × Ai->Ag->Prop}(hs:s.heap.IsSliceOf sl .none .none (.int k t))(hk:k≠0)
  (h:Q (stepLo n k,k,stepN n k) s):Ap (Au prog w) A (Ix (.ref sl) (pure (n:Ak))) Q E s:=by
 obtain⟨os,hos,hcs,hds⟩:=id hs;unfold Ix OY;refine Ad (Ad (DL hos hds (x:=.none) rfl (Ad (DL hos hds (x:=.none) rfl (Ad (DL hos hds (x:=.int k t) rfl (Al ?_)))))));refine Ad (slicePart_int ?_);show Ap _ _ (if (k == 0)=true then _ else _) _ _ s
 rw[Bj (by simpa using hk)]
 refine Ad (O1 (Ad (O1 (Ad (Al ?_)))));exact Al h
theorem stepL_length {α:Type}(xs:Aa α)(k:Ak):(stepL xs k).length<=stepN xs.length k:=by
 unfold stepL;exact Dh (List.length_filterMap_le _ _) (by rw[Gf];exact As _)
theorem getItem_tuple_step {t sl:Af}{items:Ay Ac}{k:Ak}{u:Ry}{Q:Ac->Ag->Prop}(ht:Oy s.heap t items)(hs:s.heap.IsSliceOf sl .none .none (.int k u))(h0:k≠0)(h1:k≠1)
  (h:Q (.ref s.heap.objs.size) { s with heap:=s.heap.push { cls:=.type "tuple",data:=.seq (stepL items.toList k).toArray } })
  (hsz:stepN items.size k<=sizeLine):Ap (Au prog w) A (Nn (.ref t) (.ref sl)) Q E s:=by
 have htake:sizeOk (.seq (stepL items.toList k).toArray):=by
  show (stepL items.toList k).toArray.size<=sizeLine;rw[Bh];exact Dh (stepL_length _ _) (by simpa using hsz)
 obtain⟨os,hos,hcs,hds⟩:=id hs;have hTs:s.TypeIs (.ref sl) "slice":=⟨os,hos,hcs⟩;unfold Nn
 try with_reducible refine Em ?_
 first|refine Ad (Al ?_)|skip
 refine Ad (OZ ht.typeIs (by decide) ?_)
 refine Ad (Dy (name:=Hg "__getitem__") ht.typeIs Dr
  (Ea Dr ht.typeIs On ?_ (OF _ _)))
 show Ap _ _ (Kq (.ref t) >>= _) _ _ s;refine Ad (T0 ht ?_);refine Ad (Kk hTs ?_);rw[Bp (by decide)]
 refine Ad (pV hs h0 ?_);have hno:¬ ((stepLo items.size k == 0&&k == 1&&stepN items.size k == items.size)=true):=by
  intro q;rw[Bi,Bi] at q;exact h1 (eq_of_beq q.1.2)
 show Ap _ _ (if (stepLo items.size k == 0&&k == 1&&stepN items.size k == items.size)=true then _ else _) _ _ s
 rw[Bj hno];have e:((Dd (stepN items.size k)).filterMap λ(m:Ai)=>items[(stepLo items.size k+(m:Ak)*k).toNat]?)=stepL items.toList k:=by
  unfold stepL;simp
 rw[e]
 first
  |exact Ad (m:=EQ _) (Dp (Al ⟨_,rfl,Al h⟩) htake)
  |exact Ad (m:=EQ _) (Dp (Ad (Al (Al ⟨_,rfl,Al h⟩))) htake)
  |exact Ad (Ad (m:=EQ _) (Dp (Al (Al ⟨_,rfl,Al h⟩)) htake))
  |exact Ad (Ad (m:=EQ _) (Dp (Al ⟨_,rfl,Al h⟩) htake))
end
end _H
namespace _D
open PySem PySem.Spec PyProof.Rows _L
noncomputable def lQ:G2:=λd k S=>match d,k with
 |.tup xs,.int k=>if k≠0/\k≠1/\_H.stepN xs.length k<=lim then .ok (.tup (_H.stepL xs k)) S else .bad
 |_,_=>.bad
noncomputable def fE (fe fk:DE):DE:=d2 lQ fe fk
section
variable {X:Cx}{e ek:Bt}{fe fk:DE}{p2 pos:Eu}
theorem ZY {vs:Aa V}{us:Aa Ac}(rv:qI vs us)(l:Aa Ai)(f:Ai->Ai):qI (l.filterMap λm=>vs[f m]?) (l.filterMap λm=>us[f m]?):=by
 induction l with
 |nil=>exact .nil
 |cons m l ih =>
  simp only[Fz];cases h:vs[f m]? with
  |none =>
   have:us[f m]? = none:=by
    rw[Pp] at h ⊢;rw[<- rv.length];exact h
   rw[this];exact ih
  |some v =>
   obtain⟨u,hu,r⟩:=rv.get h;rw[hu];exact .cons r ih
theorem ZN {K:Aj}{P:Hp}{α:Aa Af}{ds:Aa D}{vs:Aa V}(rp:qB K P α ds vs)(l:Aa Ai)(f:Ai->Ai):qB K P α (l.filterMap λm=>ds[f m]?) (l.filterMap λm=>vs[f m]?):=by
 induction l with
 |nil=>exact .nil
 |cons m l ih =>
  simp only[Fz];cases h:ds[f m]? with
  |none =>
   have:vs[f m]? = none:=by
    rw[Pp] at h ⊢;rw[<- rp.length];exact h
   rw[this];exact ih
  |some d =>
   obtain⟨u,hu,r⟩:=rp.get h;rw[hu];exact .cons r ih
set_option tactic.hygienic true in
theorem J6 (he:PE X e (tD X fe))(hk:PE X ek (tD X fk)):PE X (.Subscript e (.Slice none none (Ab ek) p2) pos) (tD X (fE fe fk)):=by
 intro pins s σ H Q I h;obtain⟨P,α,env,S,r,re,af⟩:=h;have af':qG X P α ((fe env S).bind λd S1=>(fk env S1).bind λk S2=>lQ d k S2) (OkV X P α Q):=af;refine Yp (thn (zL he I r re af') λv s1 ⟨x,H1,P1,α1,d,S1,G1,af1⟩=>?_);refine wpAny_Slice ?_;rw[TD];refine Al (Al ?_);rw[evalPart_some];refine thn (zL hk G1.inv G1.rel G1.env (qR.base G1.same G1.pre af1)) λvk s2 ⟨y,H2,P2,α2,k,S2,G2,af2⟩=>?_;have af2:=qR.base G2.same G2.pre af2;cases d with
 |tup xs =>
  cases k with
  |int k =>
   simp only[lQ] at af2
   split at af2
   .rename_i hk'
    have rp:=Rep.mono G2.same G2.pre _ _ G1.rep;obtain⟨a,vs,its,rfl,q,t,rvs,ht,hl,_⟩:=yP G2.inv G2.rel rp;cases (show v=Dm a from G1.val)
    have gr:=G2.rep;simp only[Rep] at gr;subst gr;obtain⟨tk,rfl⟩:=G2.val;have I4:Inv X pins σ H2 { s2 with heap:=s2.heap.push { cls:=.type "slice",data:=.fields #[.none,.none,.int k tk] } }:=G2.inv.kept (t':=s2.toks) λb ob q=>Ah _ q
    have ht':Oy (s2.heap.push { cls:=.type "slice",data:=.fields #[.none,.none,.int k tk] }) a its.toArray:=ht.keeps λb ob q=>Ah _ q;refine tail_any (ops:=[.ref a,.ref s2.heap.objs.size]) (s:={ s2 with heap:=s2.heap.push { cls:=.type "slice",data:=.fields #[.none,.none,.int k tk] } }) ht'.typeIs Dr.lookup ?_ (by with_unfolding_all rfl)
    refine _H.getItem_tuple_step (s:={ s2 with heap:=s2.heap.push { cls:=.type "slice",data:=.fields #[.none,.none,.int k tk] } }) ht' (Vb ..) hk'.1 hk'.2.1 ?_ ?_
    .have lv:vs.length=its.length:=rvs.length
     have ld:xs.length=vs.length:=t.length;have t':qB X.K P2 α2 (_H.stepL xs k) (_H.stepL vs k):=by
      unfold _H.stepL;rw[ld];exact ZN t _ λm=>(_H.stepLo vs.length k+(m:Ak)*k).toNat
     have rv':qI (_H.stepL vs k) (_H.stepL its k):=by
      unfold _H.stepL;rw[lv];exact ZY rvs _ λm=>(_H.stepLo its.length k+(m:Ak)*k).toNat
     exact sC I4 G2.rel t' rv' (Dh (_H.stepL_length _ _) hk'.2.2) af2
    .rw[Bh,<- hl,<- zV];exact hk'.2.2
   .exact Aq af2
  |_=>exact Aq af2
 |_=>exact Aq af2
end
end _D
end
namespace _D
open PySem PySem.Spec PyProof.Rows _L
section
variable {X:Cx}{cm:Ar}{k:Ai}{e ek:Bt}{fe fk:DE}{p2 pos:Eu}
theorem GW (he:QE X e fe)(hk:QE X ek fk):QE X (.Subscript e (.Slice none none (Ab ek) p2) pos) (fE fe fk):=⟨J6 he.1 hk.1⟩
end
end _D
namespace _S
open PySem PySem.W PyProof.Rows
section
variable {prog:Be}{w:Bx}{A:Bv}{E:Ac->Ag->Prop}{s:Ag}{K:Type}{is:K->Ac->Prop}{hash:K->Ak}{lt':K->K->Ar}{d:K}{Fit:K->Prop}{h0:Br}
theorem iQ {Q:Ac->Ag->Prop}(kd:Kind prog w is hash lt' d Fit h0)(hu:A.units+16<Eg)(hS:Sup h0 s.heap){l:Af}{vs:Aa Ac}(hl:s.heap.IsList l vs.toArray\/s.heap.IsTuple l vs.toArray)(ks:Aa K)(hlen:vs.length=ks.length)(hks:∀ i v,vs[i]? = Ab v->is (ks.getD i d) v)(hf:∀ k∈ks,Fit k)(hoel:vs.length<=100000)
  (h:∀ (h1 h':Br) (tk:Ai) (D:Af) (c:Ai) (ps:Aa (K × Ac)),(∀ b o,s.heap.get? b=Ab o->h1.get? b=Ab o)->(∀ b o,h1.get? b=Ab o->h'.get? b=Ab o)->h1.objs.size<=D->h'.get? D=Ab (Ej "list" (ps.map (·.2)).toArray c)->ps.map (·.1)=uG lt' ks->(∀ p∈ps,is p.1 p.2/\p.2∈vs)->ps.length=ks.length->Q (.ref D) { s with heap:=h',toks:=tk }) :
  Ap (Au prog w) A (call (.builtin "sorted") [.ref l]) Q E s:=by
 refine Po kind_sorted plain_sorted entry_sorted (args_sorted1 _) ?_;unfold Ig.«sorted»;refine Ad (m:=checkCount "sorted" 1 1 _) (Al ?_);have hcol:∀ {R:Aa Ac->Ag->Prop},(∀ h1:Br,(∀ b o,s.heap.get? b=Ab o->h1.get? b=Ab o)->R vs { s with heap:=h1 }) -> Ap (Au prog w) A.in1 (collect (.ref l)) R E s:=λ{R} hR=>by
  have e:vs.toArray.toList=vs:=by simp
  rcases hl with⟨o,ho,hc,n,hd⟩|⟨o,ho,hc,n,hd⟩
  .exact Ww l (.inl rfl) ho hc hd (λh' hk=>by rw[e];exact hR h' hk) (by rw[Bh,Fi];lia)
  .exact Ww l (.inr rfl) ho hc hd (λh' hk=>by rw[e];exact hR h' hk) (by rw[Bh,Fi];lia)
 refine Ad (hcol λh1 kp1=>?_);refine Ad (Ul ?_ (by rw[Fi];lia))
 have hD:(h1.push (Ej "list" vs.toArray 0)).get? h1.objs.size=Ab (Ej "list" vs.toArray 0):=Ba _ rfl;have n0:h0.get? h1.objs.size=none:=by
  cases q:h0.get? h1.objs.size with
  |none=>rfl
  |some o=>exact absurd (Az (kp1 _ _ (hS _ _ q))) (Ek _)
 show Ap _ _ _ _ _ { s with heap:=h1.push (Ej "list" vs.toArray 0),toks:=s.toks }
 refine Ad (Em (Ea slot_list_sort ⟨_,hD,rfl⟩ Yj (U0 (h0:=h0) (is:=is) kd.ord kd.inj (d:=d) (vs:=vs) hlen hks hD (by show A.units+2+8<Eg;lia) hoel (λh2=>kd.cmps hlen hks hf h2) (λb o e=>Ah _ (kp1 b o (hS b o e))) n0 λps pm nf=>⟨_,rfl,?_⟩) (args_list_sort _)))
 refine Al ⟨_,rfl,?_⟩;have hz:(h1.push (Ej "list" vs.toArray 0)).objs.size=h1.objs.size+1:=size_push' ..;have old:∀ b o,b≠h1.objs.size->(h1.push (Ej "list" vs.toArray 0)).get? b=Ab o->((((h1.push (Ej "list" vs.toArray 0)).update h1.objs.size (Ew λ_=>#[])).push (Ej "tuple" vs.toArray 0)).push (Ej "list" #[] 0)).get? b=Ab o:=λb o hb e =>
  Ah _ (Ah _ ((Dk _ _ (Ft hb)).trans e))
 obtain⟨e1,he1⟩:∃ e1,((h1.push (Ej "list" vs.toArray 0)).update h1.objs.size (Ew λ_=>#[])).get? h1.objs.size=Ab (Ej "list" #[] e1):=⟨_,Ln hD (λ_=>#[])⟩;have he6:=Ln (Ah (Ej "list" #[] 0) (Ah (Ej "tuple" vs.toArray 0) he1)) (λ_=>(ps.map (·.2)).toArray)
 have pk:(ps.map (·.1)).Perm ks:=by
  have:=pm.map (·.1)
  rwa [Qn (by lia)] at this
 refine h h1 _ s.toks h1.objs.size _ ps kp1 (λb o e=>?_) (As _) he6 (hZ kd.ord nf (cM kd.ord ks) (pk.trans (yH ks).symm)) (λp hp=>?_) (by have:=pk.length_eq;rwa [Ao] at this)
 .have hb:b≠h1.objs.size:=λz=>by
   subst z;exact absurd (Az e) (Ek _)
  exact(Dk _ _ (Ft hb)).trans (old b o hb (Ah _ e))
 .obtain⟨i,e1,e2⟩:=X1 (d:=d) hlen (pm.mem_iff.mp hp)
  exact⟨e2▸hks i _ e1,Cu e1⟩
end
end _S
namespace _D
open PySem PySem.Spec PyProof.Rows _L
noncomputable def kS (xs:Aa D):Am (Aa D):=match zP xs with
 |some ns=>if ns.length<=100000 then Ab ((_S.uG _S.ltI ns).map D.int) else none
 |none=>match w5 xs with
  |some ks=>if (decide (ks.length<=100000)&&ks.all λk=>!k.isEmpty) then Ab ((_S.uG _H.lexLt ks).map tpD) else none
  |none=>none
noncomputable def V1 (R:Aa D->Sto->Res D):DF:=λds S=>match ds with
 |[d]=>match (YW d).bind kS with
  |some ys=>R ys S
  |none=>.bad
 |_=>.bad
noncomputable def pH:DF:=V1 λys S=>.ok (.lst ys) S
section
variable {X:Cx}{pins:Aa (Af × Ci)}{σ : _L.St}{H P:Hp}{α : Aa Af}{S:Sto}{s:Ag}
inductive NewR (X:Cx)(pins:Aa (Af × Ci))(σ : _L.St)(H P:Hp)(α : Aa Af)(ys:Aa D)(u:Ac)(s':Ag):Prop
 |mk (D:Af) (vs:Aa V) (e:u=.ref D) (hn:H D=none) (I:Inv X pins σ (upd H D (.lst vs)) s') (rp:qB X.K P α ys vs):NewR X pins σ H P α ys u s'
theorem lE {K:Type}{is:K->Ac->Prop}{hash:K->Ak}{lt':K->K->Ar}{d:K}{Fit:K->Prop}(kd:_S.Kind X.prog X.w is hash lt' d Fit s.heap)(hu:X.A.units+64<Eg)(I:Inv X pins σ H s)(r:Rel X.K H P α S){a:Af}{its:Aa Ac}
  (ha:s.heap.IsList a its.toArray\/s.heap.IsTuple a its.toArray) (ks:Aa K) (hl:ks.length=its.length) (hk:∀ i v,its[i]? = Ab v->is (ks.getD i d) v) (hn:ks.length<=100000) (hf:∀ k∈ks,Fit k) (enc:K->D)
  (back:∀ k v,is k v->v∈its->∃ vv,qF vv v/\Rep X.K P α (enc k) vv) {E:Ac->Ag->Prop} :
  Ap (Au X.prog X.w) X.A (call (.builtin "sorted") [.ref a]) (NewR X pins σ H P α ((_S.uG lt' ks).map enc)) E s:=by
 refine _S.iQ kd li (λ_ _ e=>e) ha ks hl.symm hk hf li λh1 h2 tk2 D c ps kp1 kp2 hD hob hps hp hpl=>?_;have I1:Inv X pins σ H { s with heap:=h1,toks:=s.toks }:=I.kept kp1
 have vv:∀ (ps:Aa (K × Ac)),(∀ p∈ps,is p.1 p.2/\p.2∈its)->∃ vs,qI vs (ps.map (·.2))/\qB X.K P α ((ps.map (·.1)).map enc) vs:=by
  intro ps
  induction ps with
  |nil=>exact λ_=>⟨[],.nil,.nil⟩
  |cons p ps ih =>
   intro h;obtain⟨vs,a1,a2⟩:=ih λq hq=>h q (by simp[hq])
   obtain⟨v,b1,b2⟩:=back p.1 p.2 (h p (by simp)).1 (h p (by simp)).2
   exact⟨v::vs,.cons b1 a1,.cons b2 a2⟩
 obtain⟨vs,a1,a2⟩:=vv ps hp;rw[hps] at a2;have nd:([(D,HO.lst vs)].map (·.1)).Nodup:=by simp
 have I2:Inv X pins σ (j7 H [(D,HO.lst vs)]) { s with heap:=h2,toks:=tk2 }:=Inv.laidL (s:={ s with heap:=h1,toks:=s.toks }) (L:=[(D,HO.lst vs)]) (t':=tk2) I1 kp2 (λp hpm=>by
  have:p=(D,HO.lst vs):=by simpa using hpm
  subst this;exact hD) λp hpm=>by
  have:p=(D,HO.lst vs):=by simpa using hpm
  subst this;refine⟨?_,ps.map (·.2),c,a1,hob⟩
  have:=a1.length;rw[Ao] at this;rw[this,Fi]
  lia
 exact⟨D,vs,rfl,I1.hok.fresh hD,I2,a2⟩
set_option tactic.hygienic true in
theorem iP {E:Ac->Ag->Prop}(hu:X.A.units+64<Eg)(I:Inv X pins σ H s)(r:Rel X.K H P α S){a:Af}{xs ys:Aa D}{vs:Aa V}{its:Aa Ac}(t1:qB X.K P α xs vs)(rv1:qI vs its)(e1:s.heap.IsList a its.toArray\/s.heap.IsTuple a its.toArray)(l1:xs.length=its.length)(hs:kS xs=Ab ys) :
  Ap (Au X.prog X.w) X.A (call (.builtin "sorted") [.ref a]) (NewR X pins σ H P α ys) E s:=by
 unfold kS at hs;cases hi:zP xs with
 |some ns =>
  rw[hi] at hs;dsimp only at hs
  split at hs
  .rename_i hlt
   cases hs;have:=yA hi;subst this;have:=wH t1;subst this;refine lE (d:=0) (_S.i7 X.prog X.w s.heap) hu I r e1 ns (by simpa using l1) (λi u hu'=>?_) hlt (λ_ _=>trivial) D.int λk u hk _=>?_
   .have hi:IT its ns:=by simpa using vN rv1
    obtain⟨t,rfl⟩:=OC hi i u hu';exact Qm _ _ _ _
   .obtain⟨t,rfl⟩:=_S.wA hk
    exact⟨.int k,⟨t,rfl⟩,by simp only[Rep]⟩
  .cases hs
 |none =>
  rw[hi] at hs;dsimp only at hs;cases ht:w5 xs with
  |none=>rw[ht] at hs;cases hs
  |some ks =>
   rw[ht] at hs;dsimp only at hs
   split at hs
   .rename_i hlt
    cases hs;rw[Bi,Cb] at hlt;have:=bW ht;subst this;have at':∀ (i:Ai) (u:Ac),its[i]? = Ab u->∃ b,u=.ref b/\Os (Bf X.prog X.w) s.heap (ks.getD i []) b/\∃ vv,qF vv u/\Rep X.K P α (tpD (ks.getD i [])) vv:=λi u hu'=>by
     have hii:i<its.length:=(Bw.mp hu').1;have hik:i<ks.length:=by rw[Ao] at l1;lia
     obtain⟨v,p,q,_⟩:=xY t1 rv1 (j:=i) (by rw[Bh];exact hii)
     have hd:(ks.map tpD).getD i D.non=tpD (ks.getD i []):=by simp[HT,hik]
     rw[hd] at p;have hu2:its.toArray[i]'(by rw[Bh];exact hii)=u:=by
      rw[An hii] at hu';simpa using hu'
     rw[hu2] at q;obtain⟨b,ws,us,rfl,sq,t,rv,⟨o,ho,hcl,m,hd⟩,_,_⟩:=yP I r (show Rep X.K P α (.tup ((ks.getD i []).map D.int)) v from p)
     cases (show u=Dm b from q)
     have:=wH t;subst this;exact⟨b,rfl,⟨o,us.toArray,m,ho,hcl,hd,by simpa using tE rv⟩,.ref b,rfl,p⟩
    refine lE (d:=[]) (_S.VY X.prog X.w s.heap) hu I r e1 ks (by simpa using l1) (λi u hu'=>?_) hlt.1 (λk hk=>?_) tpD λk u hk hm'=>?_
    .obtain⟨b,rfl,q,_⟩:=at' i u hu'
     exact⟨b,rfl,q⟩
    .have:=Ca.mp hlt.2 k hk
     intro z;subst z;cases this
    .obtain⟨i,hi',rfl⟩:=Cn.mp hm'
     obtain⟨b,eb,q,w,rw',pw⟩:=at' i _ (An hi');have:k=ks.getD i []:=_S.isT.inj hk ⟨b,eb,q⟩;rw[this];exact⟨w,rw',pw⟩
   .cases hs
theorem E0 (hu:X.A.units+64<Eg){vs:Aa V}{us:Aa Ac}{ds:Aa D}{Q:VK}{R:Aa D->Sto->Res D}(I:Inv X pins σ H s)(r:Rel X.K H P α S)(rv:qI vs us)(rp:qB X.K P α ds vs)(af:qR X P α (V1 R ds S) Q)
  (k:∀ ys D vs',H D=none->qB X.K P α ys vs'->qR X P α (R ys S) Q->Q (.ref D) (upd H D (.lst vs'))):Ap (Au X.prog X.w) X.A (call (.builtin "sorted") us) (EP X pins σ Q) X.xe s:=by
 match ds,af,rp with
 |[],af,_=>exact Aq af
 |_::_::_,af,_=>exact Aq af
 |[d],af,rp =>
  simp only[V1] at af;cases hq:(YW d).bind kS with
  |none=>rw[hq] at af;exact Aq af
  |some ys =>
   rw[hq] at af;obtain⟨xs,hd,hs⟩:=Er.mp hq;obtain⟨v,u,rfl,rfl,p,q⟩:=uR rp rv;obtain⟨a,vs,its,rfl,t1,rv1,e1,l1⟩:=r9 I r p q hd;refine thn (iP hu I r t1 rv1 e1 l1 hs) λu' s3 ⟨D,vs',e,hn,I',rp'⟩=>?_;subst e;exact⟨.ref D,_,I',rfl,k ys D vs' hn rp' af⟩
theorem oF (hu:X.A.units+64<Eg):yI X (.builtin "sorted") pH:=by
 intro pins σ H s P α S vs us ds Q I r rv rp af;exact E0 hu I r rv rp af λys D vs' hn rp' af'=>yB r hn rp' af'
end
section
variable {X:Cx}{cm:Ar}{k:Ai}
theorem VB (hr:RoomC cm k X.A):ZCall X (.builtin "sorted") pH:=⟨oF hr.units⟩
end
end _D
namespace _L
open PySem PySem.Spec PyProof.Rows
variable {loose:Aa Av}{mg mb:Av->Am Ac}
def EV (H:Hp):Prop:=∀ b,H b=none\/(∃ o xs,H b=Ab (.frz o (.lst xs)))\/H b=Ab (.tbl #[])
def Tb0 (K:Aj)(H:Hp):Prop:=∀ x∈yK,∀ c T,El K x=Ab (c,T)->H T=Ab (.tbl #[])
structure Tabs (K:Aj)(h:Br):Prop where
 at':∀ x∈yK,∀ c T,El K x=Ab (c,T)->Yv h c T/\h.get? T=Ab (OD #[]) /\ K.lookup T=none
 inj:∀ x∈yK,∀ y∈yK,∀ c d T,El K x=Ab (c,T)->El K y=Ab (d,T)->x=y
theorem WT {P:Be}{w:Bx}{K:Aj}{CX:CXT}{k:Ai}{fa a:Af}{fd:Fh}{x:Av}{sp:Sp}{s₁:Ag}{vs:Aa Ac}{ns:Aa Ak}
  (KX:K.In s₁.heap) (hns:s₁.heap.Ns Df mg) (hb:s₁.heap.Ns Ol mb) (hbb:∀ x:Av,x ≠ "__name__" -> mb x=Fm x) (hlim:s₁.heap.NoLimit) (hg:s₁.gens=#[]) (hbm:BR mg s₁.heap) (tbs:Tabs K s₁.heap)
  (ha:s₁.heap.get? a=Ab { cls:=.type "list",data:=.seq vs.toArray }) (hi:IT vs ns) (hl:ns.length<=sizeLine) (hr:Room k Pa)
  (F:∀ base:Br,K.In base->base.Ns Df mg->FnOk P w K mg base CX k fa fd [x] sp) (hbind:∀ (s:Ag) (u:Ac),Nl s fd ⟨[u],[]⟩ [(x,u)])
  (hsp:∀ H:Hp,Tb0 K H->SqX K H a (ns.map V.int)->sp [.ref a] H (λv _=>v=.bl true) λ_ _ _=>Fd)
  (hCX:∀ H e s',CX [] H s₁ (λ_ _ _=>Fd) e s'->Fd) :
  IS (Au P w) Pa (.call (.ref fa) ⟨[.ref a],[]⟩) (λr s'=>r=.ok (.ret (.bool true))/\OldK s₁.heap s'.heap/\s'.os=s₁.os/\Nh s'.gens) s₁:=by
 have rv:=ZX hi;have lenV:=hi.length
 let isT:Af->Prop:=λb=>∃ x∈yK,∃ c,El K x=Ab (c,b)
 have tab:∀ b,isT b->s₁.heap.get? b=Ab (OD #[]) /\ K.lookup b=none:=λb ⟨x,hx,c,h⟩=>(tbs.at' x hx c b h).2;have core:∀ H:Hp,EV H->Tb0 K H->SqX K H a (ns.map V.int)->HOk P w H s₁.heap->(∀ b,H b≠none->b=a\/isT b)->(H a≠none->K.lookup a=none) ->
   IS (Au P w) Pa (.call (.ref fa) ⟨[.ref a],[]⟩) (λr s'=>r=.ok (.ret (.bool true))/\OldK s₁.heap s'.heap/\s'.os=s₁.os/\Nh s'.gens) s₁:=by
  intro H hO hT hS hok hA hK;have base_of:∀ {b:Af} {o:Ci},s₁.heap.get? b=Ab o->H b=none->(jY s₁.heap H).get? b=Ab o:=λe n=>WH e n;have noA:∀ {b:Af} {o:Ci},s₁.heap.get? b=Ab o->o.cls≠.none->(o.cls≠.type "list" \/ ∃ es ep,o.data=.dict es ep)->H b=none:=λ{b o} e c1 c2=>by
   cases q:H b with
   |none=>rfl
   |some u =>
    rcases hA b (by rw[q];simp) with e'|e'
    .subst e'
     rw[ha] at e;cases e;rcases c2 with z|⟨es,ep,d⟩
     .exact absurd rfl z
     .cases d
    .rw[(tab b e').1] at e;cases e
     exact absurd rfl c1
  have noD:∀ {b:Af} {o:Ci} {es:Ay DictEntry} {ep:Ai},s₁.heap.get? b=Ab o->o.data=.dict es ep->H b=none:=λ{b o es ep} e d=>by
   cases q:H b with
   |none=>rfl
   |some u =>
    rcases hA b (by rw[q];simp) with e'|e'
    .subst e'
     rw[ha] at e;cases e;cases d
    .rw[(tab b e').1] at e;cases e;cases d
  have nsK:∀ {b:Af} {m:Av->Am Ac},s₁.heap.Ns b m->(jY s₁.heap H).Ns b m:=λ{b m} ⟨o,es,ep,e,d,r⟩=>⟨o,es,ep,base_of e (noD e d),d,r⟩;have hKb:K.In (jY s₁.heap H):=λb o e=>base_of (KX b o e) (by
   cases q:H b with
   |none=>rfl
   |some u =>
    rcases hA b (by rw[q];simp) with e'|e'
    .subst e'
     rw[hK (by rw[q];simp)] at e;cases e
    .rw[(tab b e').2] at e;cases e)
  have hM:Mod K mg (jY s₁.heap H):=by
   refine⟨hKb,nsK hns,⟨mb,nsK hb,hbb⟩,let ⟨mc,h1,h2⟩:=hlim;⟨mc,nsK h1,h2⟩,?_,λx hx c T h=>?_,tbs.inj⟩
   .obtain⟨bm,o,b1,b2,b3,b4,b5⟩:=hbm
    exact⟨bm,o,b1,b2,base_of b3 (noA b3 (by rw[b4];nofun) (.inl (by rw[b4];decide))),b4,b5⟩
   .obtain⟨o,vs,file,tf,flags,tg,inF,text,tt,e1,e2,r⟩:=(tbs.at' x hx c T h).1
    exact⟨o,vs,file,tf,flags,tg,inF,text,tt,base_of e1 (noA e1 (by rw[e2];nofun) (.inl (by rw[e2];decide))),e2,r⟩
  have e0:Env0 P w K mg (jY s₁.heap H) Pa [] s₁ H:=⟨rfl,hM,λb o e=>G8 e,Vy (Q0 _ _),trivial,λb hb=>absurd (show b∈([]:Aa Af) from hb) (by simp),hok,.of_eq hg⟩
  refine IJ ((F _ hKb (nsK hns)).run Pa [] s₁ H ⟨[.ref a],[]⟩ [.ref a] [.ref a] _ _ hr e0 (hbind s₁ (.ref a)) (.cons rfl .nil) (hsp H hT hS)) λr s' h=>?_;cases r with
  |error e=>exact(hCX H e s' h).elim
  |ok fl =>
   cases fl with
   |next=>exact Aq h
   |brk=>exact Aq h
   |cont=>exact Aq h
   |ret u =>
    obtain⟨v,H',os,bare,un,hok',r',q⟩:=h;have q':v=.bl true:=q;subst q';obtain rfl:u=Hv true:=r';refine⟨rfl,⟨λb o e=>?_,λb o e=>un.there b o e (by simp)⟩,os,bare⟩
    cases q:H b with
    |none=>exact .inl (un.keep b o e q (by intro z;exact absurd (show b∈([]:Aa Af) from z) (by simp)) (by simp))
    |some u =>
     rcases hO b with z|⟨ob,xs,z⟩|z
     .rw[q] at z;cases z
     .have z2:=un.frzs b ob _ z
      obtain⟨e1,_⟩:=hok b _ z;obtain⟨e2,_⟩:=hok' b _ z2;rw[e] at e1;cases e1;exact .inl e2
     .obtain⟨more,z2⟩:=un.tbls b _ z
      have e1:s₁.heap.get? b=Ab (OD #[]):=hok b _ z;have e2:s'.heap.get? b=Ab (OD (#[] ++ more)):=hok' b _ z2;rw[e] at e1;cases e1;rcases hA b (by rw[q];simp) with e'|⟨x,hx,c,h⟩
      .subst e';rw[ha] at e;cases e
      .exact .inr (.inl ⟨((tbs.at' x hx c b h).1.tab e).isCodeTable,rfl,#[],more,rfl,e2⟩)
 have nT:¬ isT a:=λh=>by
  have z:=(tab a h).1;rw[ha] at z;cases z
 have tT:∀ x∈yK,∀ c T,El K x=Ab (c,T)->isT T:=λx hx c T h=>⟨x,hx,c,h⟩;have dec:∀ b,IQ (isT b):=λb=>Classical.propDecidable _;cases hk:K.lookup a with
 |some o =>
  have e:=KX a o hk;rw[ha] at e;cases e;refine core (λb=>if isT b then Ab (.tbl #[]) else none) (λb=>?_) (λx hx c T h=>Bp (tT x hx c T h)) (.inr ⟨vs,_,hk,by rw[Ao];exact hl,rv⟩) (λb u z=>?_) (λb z=>?_) λz=>absurd (Bj nT) z
  .by_cases h:isT b
   .exact .inr (.inr (Bp h))
   .exact .inl (Bj h)
  .by_cases h:isT b
   .have z':=(Bp h).symm.trans z
    cases z';exact(tab b h).1
   .have z':=(Bj h).symm.trans z
    cases z'
  .by_cases h:isT b
   .exact .inr h
   .exact absurd (Bj h) z
 |none =>
  refine core (λb=>if b=a then Ab (.frz { cls:=.type "list",data:=.seq vs.toArray } (.lst (ns.map V.int))) else if isT b then Ab (.tbl #[]) else none) (λb=>?_) (λx hx c T h=>?_) (.inl (.inr ⟨{ cls:=.type "list",data:=.seq vs.toArray },Bp rfl⟩)) (λb u z=>?_) (λb z=>?_) λ_=>hk
  .by_cases hb:b=a
   .exact .inr (.inl ⟨_,_,Bp hb⟩)
   .by_cases h:isT b
    .exact .inr (.inr ((Bj hb).trans (Bp h)))
    .exact .inl ((Bj hb).trans (Bj h))
  .have h':=tT x hx c T h
   exact(Bj (λ(z:T=a)=>nT (z▸h'))).trans (Bp h')
  .by_cases hb:b=a
   .have z':=(Bp hb).symm.trans z
    cases z';subst hb;exact⟨ha,by rw[Ao];exact hl,vs,_,rv,ha⟩
   .by_cases h:isT b
    .have z':=((Bj hb).trans (Bp h)).symm.trans z
     cases z';exact(tab b h).1
    .have z':=((Bj hb).trans (Bj h)).symm.trans z
     cases z'
  .by_cases hb:b=a
   .exact .inl hb
   .by_cases h:isT b
    .exact .inr h
    .exact absurd ((Bj hb).trans (Bj h)) z
noncomputable def dG (q:Be)(K:Aj):Ar:=yK.all λx=>match El K x with
 |none=>true
 |some (_,T)=>((recsOf q).find? λe=>e.name == x).isSome&&((K.lookup T).isNone&&yK.all λy=>match El K y with
  |none=>true
  |some (_,U)=>x == y||!decide (T=U))
theorem B8 {q:Be}{mean:ExcName->Am Ac}{h:Br}{K:Aj}(T:Top q loose mean mg mb h)(X:K.In h)(c:dG q K=true):Tabs K h:=by
 unfold dG at c;have g:∀ x∈yK,∀ d U,El K x=Ab (d,U)->((recsOf q).find? λe=>e.name == x).isSome=true/\(K.lookup U).isNone=true/\(yK.all λy=>match El K y with
  |none=>true
  |some (_,V)=>x == y||!decide (U=V))=true:=λx hx d U e=>by
  have z:=Ca.mp c x hx;rw[e] at z;simpa only [Bi] using z
 refine⟨λx hx d U e=>?_,λx hx y hy d d' U e1 e2=>?_⟩
 .obtain⟨z1,z2,_⟩:=g x hx d U e
  obtain⟨r,hr⟩:=Lp.mp z1;obtain⟨k1,k2⟩:=PySem.W.tab_of T X hr e;exact⟨k1,k2,by simpa using z2⟩
 .have z:=Ca.mp (g x hx d U e1).2.2 y hy
  rw[e2] at z;simpa using z
theorem BF {l:Yk}{n k:Ai}{q:Be}{loose:Aa Av}{XP:(Av->Am Ac)->Br->Prop}{YP:Bx->Br->Prop}{d:DefRec}{K:Params->Aj}{CX:Bx->CXT}{sp:Bx->Sp}{x:Av}
  (hn:l.most=Ab n) (hn2:n<=sizeLine) (hdf:d.params.defaults=[]) (hr:Room k Pa) (ht:∀ p,dG q (K p)=true)
  (hY:∀ (w:Bx) (h:Br),YP w h->(K w.params).In h)
  (F:∀ (w:Bx) (mg:Av->Am Ac) (fa:Af) (h:Br),(K w.params).In h->h.Ns Df mg->mg d.name=Ab (.ref fa) ->
   ∃ fd:Fh,(∀ (s:Ag) (u:Ac),Nl s fd ⟨[u],[]⟩ [(x,u)]) /\
    ∀ base:Br,(K w.params).In base->base.Ns Df mg->FnOk l.prog w (K w.params) mg base (CX w) k fa fd [x] (sp w))
  (hsp:∀ (w:Bx) (H:Hp) (a:Af) (ns:Aa Ak),ns.length<=n->Tb0 (K w.params) H->SqX (K w.params) H a (ns.map V.int)->sp w [.ref a] H (λv _=>v=.bl true) λ_ _ _=>Fd)
  (hCX:∀ (w:Bx) (H:Hp) (s:Ag) (e:Ac) (s':Ag),CX w [] H s (λ_ _ _=>Fd) e s'->Fd) :
  Zu q loose XP YP l.row.toRowW d [] (λf vs=>Yq f vs):=by
 refine _A.attach_call hn hdf λw s₀ s₁ mg mb fa o pm cd doc a vs ns G Y ho hd hcd hmg hobj hints hlen hg=>?_;have KX:=hY w _ Y;obtain⟨fd,hb,hF⟩:=F w mg fa _ KX G.T.g hmg;exact WT KX G.T.g G.T.b G.T.builtins G.T.nolimit hg (let ⟨bm,ob,b1,b2,b3,b4,b5,b6⟩:=G.T.bmain;⟨bm,ob,b1,b2,b3,b4,b5,b6⟩) (B8 G.T KX (ht _)) hobj hints (Dh hlen hn2) hr hF hb (λH hT hS=>hsp w H a ns hlen hT hS) λH e s'=>hCX w H s₁ e s'
end _L
namespace _D
open PySem PySem.Spec PyProof.Rows _L
variable {K:Aj}{mg:Av->Am Ac}
theorem LR {h:Br}(X:K.In h)(G:h.Ns Df mg){x:Av}{st:Fx}{ps:Aa Av}{f:Af}{oc:Ac}{od an:Am Af}{osl:Ay (Am Ac)}{kV doc pm cdv ct:Ac}
  (a:Es K Df x=Ab (Ab (.ref f)))
  (l:K.lookup f=Ab ⟨oc,od,.func (Gg x x (wO st) (zQ st) (qK st) .none kV doc pm an cdv ct),osl⟩) (c:Kj K cdv x=true) (k:Gh K (.ref f)=true)
  (hb:∀ (kV doc pm:Ac) (an:Am Af) (cdv ct:Ac) (us:Aa Ac),us.length=ps.length->Ya (Gg x x (wO st) (zQ st) (qK st) .none kV doc pm an cdv ct) ⟨us,[]⟩=pure (ps.zip us)):Src K mg x st ps:=
 have F:=MC (st:=st) l c k
 ⟨f,_,Um X G a,F,F.binds hb⟩
noncomputable def dF (K:Aj)(C:Af):Ar:=
 decide (Mj K (.ref C) "__getattribute__" = Ab (Ab (.builtin "BaseException.__getattribute__")))&&decide (Mj K (.ref C) "__getattr__" = Ab none)
 && decide (Mj K (.ref C) "__class__" = Ab (Ab (.builtin "object.__class__")))&&decide (Tv K C (.type "object")=Ab true)&&decide (Tv K C (.type "BaseException")=Ab true)
 && (PySem.W.clsIn K C).isSome&&decide (Ki K (.ref C) (.type "ValueError")=Ab true)
noncomputable def XE (K:Aj):Ar:=
 decide (Wg K (.builtin "object.__class__") "__get__" = Ab (Ab (.builtin "getset_descriptor.__get__")))&&decide (XV K (.builtin "object.__class__")=Ab true)
noncomputable def F7 (K:Aj)(cl:Aa Af):Ar:=cl.all λC=>cl.all λB=>decide (Ki K (.ref C) (.ref B)=Ab (C == B))
theorem F8 {cl:Aa Af}(h1:cl.all (dF K)=true)(h2:XE K=true)(h3:F7 K cl=true):ClsK K cl:=by
 have g:=h2;unfold XE at g;simp only[Bi,Cb] at g;have k1:∀ C∈cl,dF K C=true:=Ca.mp h1;refine⟨λC hC=>?_,λC hC B hB=>?_,λC hC=>?_⟩
 .have e:=k1 C hC
  unfold dF at e;simp only[Bi,Cb] at e;obtain⟨⟨⟨⟨⟨⟨e1,e2⟩,e3⟩,e4⟩,e5⟩,e6⟩,e7⟩:=e;exact⟨e1,e2,e3,g.1,g.2,e4,e5,e6⟩
 .have e:=Ca.mp (Ca.mp h3 C hC) B hB
  exact Cf e
 .have e:=k1 C hC
  unfold dF at e;simp only[Bi,Cb] at e;exact e.2
noncomputable def HE (K:Aj)(cs:Aa Ac)(A:Af):Ar:=cs.all λv=>decide (Zb K v (.ref A)=Ab true)
noncomputable def HC (K:Aj)(cs:Aa Af)(A:Af):Ar:=cs.all λC=>bH K C A
noncomputable def HD (K:Aj)(cs:Aa Af):Ar:=cs.all λC=>Gh K (.ref C)
def lY (K:Aj):Sp:=λvs H Q E=>Tb0 K H/\∃ a ns,vs=[.ref a]/\SqX K H a (List.map V.int ns)/\ns.length<=63/\∀ H',Q (.bl true) H'
theorem sZ {P:Hp}{α:Aa Af}:∀ ns:Aa Ak,qB K P α (ns.map D.int) (ns.map V.int)
 |[]=>.nil
 |n::ns=>.cons (by simp only[Rep]) (sZ ns)
noncomputable def noT (H:Hp):Hp:=λb=>match H b with
 |some (.tbl _)=>none
 |u=>u
theorem KG {P:Be}{w:Bx}{fa:Af}{st:Fx}{k:Ai}{x:Av}(hs:Src K mg "law" st [x])(hfa:mg "law" = Ab (.ref fa))
  (hbd:∀ (kV doc pm:Ac) (an:Am Af) (cdv ct:Ac) (s:Ag) (v:Ac),Nl s (Gg "law" "law" (wO st) (zQ st) (qK st) .none kV doc pm an cdv ct) ⟨[v],[]⟩ [(x,v)])
  (hall:∀ base:Br,∃ F,d0 P w K mg base true k "law" [x] F/\∀ ns:Aa Ak,ns.length<=63->∃ S,F [.lst (ns.map D.int)] [] = .ok (.bl true) S) :
  ∃ fd:Fh,(∀ (s:Ag) (v:Ac),Nl s fd ⟨[v],[]⟩ [(x,v)])/\∀ base:Br,K.In base->base.Ns Df mg->FnOk P w K mg base (CXd P w) k fa fd [x] (lY K):=by
 obtain⟨f,fd,hm,F,hb⟩:=hs;cases hfa.symm.trans hm;refine⟨fd,?_,λbase _ _=>?_⟩
 .obtain⟨oc,od,kV,doc,pm,an,cdv,ct,osl,rfl,_,_⟩:=F.ex
  exact hbd kV doc pm an cdv ct
 .obtain⟨G,⟨f',fd',hm',_,hb',hl,X⟩,hG⟩:=hall base
  cases hm.symm.trans hm';cases hl.one (fS F);refine(X.imp λvs H Q E h=>?_).ok;obtain⟨tb,a,ns,rfl,hS,hl,k⟩:=h;obtain⟨S,e⟩:=hG ns hl;have keep:∀ (b:Af) (u:HO),H b=Ab u->(∀ ps,u≠.tbl ps)->noT H b=Ab u:=λb u q h=>by
   unfold noT;rw[q];cases u with
   |tbl ps=>exact absurd rfl (h ps)
   |_=>rfl
  have hS':SqX K (noT H) a (List.map V.int ns):=by
   rcases hS with (h|⟨o,h⟩)|h
   .exact .inl (.inl (keep _ _ h λ_ z=>by cases z))
   .exact .inl (.inr ⟨o,keep _ _ h λ_ z=>by cases z⟩)
   .exact .inr h
  have sub:qE (noT H) H:=λb u q=>by
   unfold noT at q;cases z:H b with
   |none=>rw[z] at q;cases q
   |some v =>
    rw[z] at q;cases v with
    |tbl ps=>cases q
    |_=>exact q
  refine⟨rfl,noT H,[],[.lst (ns.map D.int)],[],⟨λx hx c T h=>⟨#[],tb x hx c T h,by unfold noT;rw[tb x hx c T h],by simp,trivial,λpos cv z=>by cases z⟩,sub,rfl,.nil,by simp,by simp,by simp⟩,.cons (tW hS' (sZ ns)) .nil,?_⟩
  rw[e];intro v H' P' α' _ _ _ rv;simp only[Rep] at rv;subst rv;exact k H'
theorem EB {l:Yk}{q:Be}{loose:Aa Av}{XP:(Av->Am Ac)->Br->Prop}{YP:Bx->Br->Prop}{d:DefRec}{K:Params->Aj}{k:Ai}{x:Av}(hn:l.most=Ab 63)(hdf:d.params.defaults=[])(hr:Room k Pa)(ht:∀ p,dG q (K p)=true)
  (hY:∀ (w:Bx) (h:Br),YP w h->(K w.params).In h)
  (F:∀ (w:Bx) (mg:Av->Am Ac) (fa:Af) (h:Br),(K w.params).In h->h.Ns Df mg->mg d.name=Ab (.ref fa) ->
   ∃ fd:Fh,(∀ (s:Ag) (u:Ac),Nl s fd ⟨[u],[]⟩ [(x,u)])/\∀ base:Br,(K w.params).In base->base.Ns Df mg->FnOk l.prog w (K w.params) mg base (CXd l.prog w) k fa fd [x] (lY (K w.params))) :
  Zu q loose XP YP l.row.toRowW d [] (λf vs=>Yq f vs):=
 _L.BF (n:=63) (k:=k) (x:=x) (CX:=λw=>CXd l.prog w) (sp:=λw=>lY (K w.params)) hn (by decide) hdf hr ht hY F (λ_ _ a ns hl hT hS=>⟨hT,a,ns,rfl,hS,hl,λ_=>rfl⟩) λw H s e s' h=>by
  obtain⟨_,_,_,_,_,_,_,_,_,_,_,_,z⟩:=h;exact z
end _D
namespace _D
open PySem
variable {us:Aa Ac}
theorem us0 (h:us.length=0):us=[]:=Oe h
theorem usS {n:Ai}(h:us.length=n+1):∃ a vs,us=a::vs/\vs.length=n:=by
 cases us with
 |nil=>exact absurd h (by simp)
 |cons a vs=>exact⟨a,vs,rfl,by simpa using h⟩
theorem us1 (h:us.length=1):∃ a,us=[a]:=by
 obtain⟨a,vs,rfl,h'⟩:=usS h;exact⟨a,by rw[us0 h']⟩
theorem us2 (h:us.length=2):∃ a b,us=[a,b]:=by
 obtain⟨a,vs,rfl,h'⟩:=usS h;obtain⟨b,rfl⟩:=us1 h';exact⟨a,b,rfl⟩
theorem us3 (h:us.length=3):∃ a b c,us=[a,b,c]:=by
 obtain⟨a,vs,rfl,h'⟩:=usS h;obtain⟨b,c,rfl⟩:=us2 h';exact⟨a,b,c,rfl⟩
end _D
namespace _D
open PySem PySem.Spec PyProof.Rows _L
variable {vs:Aa (Key × V)}{sc:Eo}
theorem UH (F:DF):∃ G:DF,G=F:=⟨F,rfl⟩
def sh (F:DF):DF:=Kr (UH F)
theorem zK (F:DF):sh F=F:=Jy (UH F)
noncomputable def isV:Am Hx->Ar
 |some .local => true
 |some .cell=>true
 |some .free=>true
 |_=>false
noncomputable def isL:Am Hx->Ar
 |some .local => true
 |some .cell=>true
 |_=>false
noncomputable def isG:Am Hx->Ar
 |some .globalImplicit=>true
 |_=>false
noncomputable def okN (x:Av):Ar:=!(x == ("__debug__" : Av))&&(!(x == ("__classdict__" : Av))&&!decide (x = "__name__"))
noncomputable def okG (X:Cx)(x:Av):Ar:=isG (X.env.kindOf x)&&okN x
noncomputable def okB (v:Ac)(x:Av):Ar:=decide (Fm x=Ab v)
noncomputable def tL (sc:Eo):Aa Av:=sc.names.filterMap λy=>if isL (Ab y.2) then Ab y.1 else none
noncomputable def xS (sc:Eo):Aa Av:=(sc.names.filterMap λy=>if isL (Ab y.2)&&!(y.1 == (".0" : Av)) then Ab y.1 else none)++sc.names.filterMap λy=>if y.2 == .free then Ab y.1 else none
def Ck (b:Ar):Prop:=b=true
theorem ck {b:Ar}(h:b=true:=by kernel_rfl):Ck b:=h
structure DfS (F:DF)(P:Be)(w:Bx)(K:Aj)(mg:Av->Am Ac)(base:Br)(cm:Ar)(k:Ai)(x:Av)(n:Ai):Prop where
 get:Def P w K mg base cm k x n F
noncomputable def okT (X:Cx)(m:Ai)(x:Av):Ar:=decide (X.N[m]? = Ab x)&&(isL (X.env.scope.names.lookup x)&&(decide X.N.Nodup&&(X.fn x||decide (X.env.scope.names.lookup x=Ab .local))))
noncomputable def okP (X:Cx)(m:Ai)(x:Av):Ar:=decide (X.N[m]? = Ab x)&&decide (X.env.scope.names.lookup x=Ab .local)
noncomputable def f7 (scX:Eo)(NX:Aa Av)(scope:Eo)(cap:Aa (Am Ai)):Ar:=
 decide (scope.kind=.function)&&(decide (∀ y∈scope.names,y.2=.local -> scope.names.lookup y.1=Ab .local)&&(decide (∀ y∈scope.names,y.2=.cell->scope.names.lookup y.1=Ab .cell)&&(decide (∀ y∈scope.names,y.2=.free->scX.names.lookup y.1=Ab .cell\/scX.names.lookup y.1=Ab .free)
 && (decide (∀ y∈scope.names,y.2=.free->scope.names.lookup y.1=Ab .free)&&(decide (cap.length=(xS scope).length)&&(((cap.zip (xS scope)).all λp=>match p.1 with|none=>true|some i=>NX[i]? == Ab p.2&&scope.names.lookup p.2 == Ab .free)&&decide (xS scope).Nodup))))))
noncomputable def fnB (N P:Aa Av)(sc:Eo):Ar:=
 decide (sc.kind=.function)&&(decide (sc.isCoroutine=false)&&(decide (sc.isGenerator=false)&&(decide N.Nodup&&(decide (N.take P.length=P)&&(decide (∀ x∈P,sc.names.lookup x=Ab .local \/ sc.names.lookup x=Ab .cell)&&decide (∀ y∈sc.names,y.2≠.free))))))
theorem bI {scX:Eo}{NX:Aa Av}{scope:Eo}{cap:Aa (Am Ai)}(h:f7 scX NX scope cap=true):CompSc scX NX scope (xS scope) cap:=by
 simp only[f7,Bi,Cb] at h;obtain⟨a,b,c,d,e,f,g,k⟩:=h;exact⟨a,b,c,d,e,f,g,k⟩
theorem oX {N P:Aa Av}(h:fnB N P sc=true):FnScope N P sc:=by
 simp only[fnB,Bi,Cb] at h;obtain⟨a,b,c,d,e,f,g⟩:=h;exact⟨a,b,c,d,e,f,g⟩
section
variable {X:Cx}{a b c e o elt tg iter:Bt}{ifs qJ:Aa Bt}{f g:DS}{fa:DE}{f2:DI2}{dg:DG}{t:DT}{kk:DK}{gens grest:Aa Dg}{scope:Eo}{cap:Aa (Am Ai)}{mm:Ar}{l q:Ai}{y z:Av}{G2':G2}{es:Aa Bt}{fA:DA}{x:Av}{p pos:Eu}{cm:Ar}{k n m:Ai}{F:DF}
theorem K2 (h:isV (sc.names.lookup x)=true):Vis sc x:=by
 unfold Vis
 revert h
 cases sc.names.lookup x with
 |none=>intro h;cases h
 |some y=>cases y <;> intro h <;> first|cases h;done|exact .inl rfl|exact .inr (.inl rfl)|exact .inr (.inr rfl)
theorem JZ (h:isL (sc.names.lookup x)=true):_L.Loc sc x:=by
 unfold _L.Loc
 revert h
 cases sc.names.lookup x with
 |none=>intro h;cases h
 |some y=>cases y <;> intro h <;> first|cases h;done|exact .inl rfl|exact .inr rfl
theorem fV (h:okN x=true):(x == ("__debug__" : Av))=false/\(x == ("__classdict__" : Av))=false/\x ≠ "__name__":=by
 unfold okN at h;rw[Bi,Bi] at h;exact⟨by simpa using h.1,by simpa using h.2.1,by simpa using h.2.2⟩
theorem vC (h:okG X x=true):Gl X x/\(x == ("__debug__" : Av))=false/\x ≠ "__name__":=by
 have h:=(Bi _ _).mp h;refine⟨?_,(fV h.2).1,(fV h.2).2.2⟩;have z:=h.1;unfold Gl
 revert z
 cases X.env.kindOf x with
 |none=>intro z;cases z
 |some y=>cases y <;> intro z <;> first|cases z;done|rfl
theorem fX (h:okT X m x=true):X.N[m]? = Ab x/\_L.Loc X.env.scope x/\X.N.Nodup/\(X.fn x=true\/X.env.scope.names.lookup x=Ab .local):=by
 simp only[okT,Bi,Cb,Rk] at h;exact⟨h.1,JZ h.2.1,h.2.2⟩
theorem fW (h:okP X m x=true):X.N[m]? = Ab x/\X.env.scope.names.lookup x=Ab .local:=by
 simp only[okP,Bi,Cb] at h;exact h
theorem SH (h:Ck (okG X x)):Gl X x:=(vC h).1
theorem aV (h:Ck (decide (X.N[m]? = Ab x)&&(isV (X.env.scope.names.lookup x)&&okN x))):QE X (.Name x pos) (q9 m):=by
 unfold Ck at h;simp only[Bi,Cb] at h;exact NV m h.1 (K2 h.2.1) (fV h.2.2).1 (fV h.2.2).2.1
theorem aBt {nm:Et}(h:Ck (okG X x))(hm:X.mg x=none)(hb:Ck (okB (.type nm) x)):QE X (.Name x pos) (dC (.ty nm)):=
 have h:=vC h
 GR h.1 hm (Cf hb) h.2.2 h.2.1
theorem aGi {v:Ak}(h:Ck (okG X x))(hm:∃ t,X.mg x=Ab (.int v t)):QE X (.Name x pos) (dC (.int v)):=
 have h:=vC h
 GS h.1 hm h.2.1
abbrev St1 (X:Cx)(e:Bt)(es:Aa Bt)(pos:Eu):Prop:=Bm (e::es) X.env=(false,eval e X.env)::Bm es X.env/\(Gi pos (Bm es X.env)).any (·.1)=false
theorem aN (G:DfS F X.prog X.w X.K X.mg X.base cm k x n)(hr:RoomC cm k X.A)(hF:Fn1 X)(h:Ck (okG X x))(ha:QA X (e::es) fA)(s:St1 X e es pos):QE X (.Call (.Name x p) (e::es) [] pos) (qH n F fA):=
 have h:=vC h
 qcN G.1 hr hF h.1 ha h.2.1 s.1 s.2
theorem aO (G:DfS F X.prog X.w X.K X.mg X.base cm k x n)(hr:RoomC cm k X.A)(h:Ck (okG X x))(ha:QA X (e::es) fA)(s:St1 X e es pos):QE X (.Call (.Name x p) (e::es) [] pos) (qH n (okO F) fA):=
 have h:=vC h
 qcO G.1 hr h.1 ha h.2.1 s.1 s.2
theorem aB {id:Et}(hc:ZCall X (.builtin id) F)(h:Ck (okG X x))(hm:X.mg x=none)(hb:Ck (okB (.builtin id) x))(ha:QA X (e::es) fA)(s:St1 X e es pos):QE X (.Call (.Name x p) (e::es) [] pos) (qU F fA):=
 have h:=vC h
 YE hc h.1 hm (Cf hb) ha h.2.2 h.2.1 s.1 s.2
theorem aT {T:Et}(hc:ZCall X (.type T) F)(h:Ck (okG X x))(hm:X.mg x=none)(hb:Ck (okB (.type T) x))(ha:QA X (e::es) fA)(s:St1 X e es pos):QE X (.Call (.Name x p) (e::es) [] pos) (qU F fA):=
 have h:=vC h
 ZG hc h.1 hm (Cf hb) ha h.2.2 h.2.1 s.1 s.2
theorem aC (S:Ck (f7 X.env.scope X.N scope cap))(hc:X.calm=true)(hi:QI2 X tg iter f2)(hg:∀ cl C ex s₀ H₀,QG (qN X (xS scope) scope cl C ex s₀ H₀) tg dg)(ht:∀ cl C ex s₀ H₀,QTs (qN X (xS scope) scope cl C ex s₀ H₀) ifs t)
  (has:∀ g',(⟨tg,iter,ifs,0⟩::grest:Aa Dg)[0+1]? = Ab g'->g'.is_async=0)
  (he:∀ cl C ex s₀ H₀,QK accL (qN X (xS scope) scope cl C ex s₀ H₀) (λacc=>zF false elt (⟨tg,iter,ifs,0⟩::grest) scope pos 0 acc (qN X (xS scope) scope cl C ex s₀ H₀).env) kk) (hs:∀ x,Dz iter X.env x=pure x) :
  QE X (.ListComp elt (⟨tg,iter,ifs,0⟩::grest) scope pos) (zB mm cap f2 dg t kk):=YG hc (bI S) hi hg ht has he hs
theorem aCs {py spos:Eu}(hsw:Mq (.ListComp elt (⟨tg,iter,ifs,0⟩::grest) scope pos) (Ab (.Name y py)) spos.line X.env=pure true)(S:Ck (f7 X.env.scope X.N scope cap))(hN:Ck (okT X m y))(hc:X.calm=true)(hi:QI2 X tg iter f2)(hg:∀ cl C ex s₀ H₀,QG (qN X (xS scope) scope cl C ex s₀ H₀) tg dg)(ht:∀ cl C ex s₀ H₀,QTs (qN X (xS scope) scope cl C ex s₀ H₀) ifs t)
  (has:∀ g',(⟨tg,iter,ifs,0⟩::grest:Aa Dg)[0+1]? = Ab g'->g'.is_async=0)
  (he:∀ cl C ex s₀ H₀,QK accL (qN X (xS scope) scope cl C ex s₀ H₀) (λacc=>zF false elt (⟨tg,iter,ifs,0⟩::grest) scope pos 0 acc (qN X (xS scope) scope cl C ex s₀ H₀).env) kk) (hs:∀ x,Dz iter X.env x=pure x) :
  QS X (.Assign [.Name y py] (.ListComp elt (⟨tg,iter,ifs,0⟩::grest) scope pos) spos) (zZ (zB mm cap f2 dg t kk) (gNm m)):=
 have h:=fX hN
 YM hc h.2.2.1 (bI S) hi hg ht has he h.1 h.2.1 h.2.2.2 hsw hs
theorem aNm (h:Ck (okT X m x)):QG X (.Name x pos) (gNm m):=
 have h:=fX h
 GX h.2.2.1 h.1 h.2.1 h.2.2.2
theorem aSt {pos':Eu}(hs:Mq e (Ab (.Name x pos')) pos.line X.env=pure false)(he:QE X e fa)(h:Ck (okT X m x)):QS X (.Assign [.Name x pos'] e pos) (zZ fa (gNm m)):=
 have h:=fX h
 LB h.2.2.1 he h.1 h.2.1 hs h.2.2.2
theorem aAu {op:Mx}{pos':Eu}(h:Ck (okT X m x))(he:QE X e fa)(ho:ZIp X op G2'):QS X (.AugAssign (.Name x pos') op e pos) (gW m G2' fa):=
 have h:=fX h
 L7 h.2.2.1 he ho h.1 h.2.1 h.2.2.2
theorem aP2 {px py pt:Eu} {kt k2 pt2} (h:Ck (decide X.N.Nodup&&(okP X m x&&(okP X l y&&!decide (m=l))))) (hc:X.calm=true) (ha:QA X [a,b] fA)
  (hw:Ku [.Tuple [.Name x px,.Name y py] kt pt] (.Tuple [a,b] k2 pt2) X.env=pure (Ab [x,y])) (hs:Kv [.Tuple [.Name x px,.Name y py] kt pt] (.Tuple [a,b] k2 pt2) pos.line X.env=pure false) :
  QS X (.Assign [.Tuple [.Name x px,.Name y py] kt pt] (.Tuple [a,b] k2 pt2) pos) (bU m l fA):=by
 unfold Ck at h;simp only[Bi,Cb,Mr,Ib] at h;exact L9 hc h.1 ha (fW h.2.1).1 (fW h.2.2.1).1 h.2.2.2 (fW h.2.1).2 (fW h.2.2.1).2 hw hs
theorem aRs {C:Af}{np cpos:Eu}(h:Ck (okG X x))(hc:X.calm=true)(hF:Fn1 X)(hm:∃ Ae,X.mg x=Ab (.ref C)/\bH X.K C Ae=true)(ha:QA X (e::qJ) fA)(s:St1 X e qJ cpos) :
  QS X (.Raise (Ab (.Call (.Name x np) (e::qJ) [] cpos)) none pos) (jK (.ref C) fA):=
 have h:=vC h
 let ⟨_,hm,hx⟩:=hm
 YN hc hF h.1 hm hx ha h.2.1 s.1 s.2
end
structure TxS (K:Aj)(mg:Av->Am Ac)(tp:Ai->Fx)(tab:Aa (Av × Ai × Aa Av))(bl:Aa Av)(clt plt:Aa (Av × Af))(cs:Aa Ac)(exl:Aa Af)(cst:Aa (Av × Ak)):Prop where
 src:∀ (j:Ai) {x:Av} {i:Ai} {ps:Aa Av},tab[j]? = Ab (x,i,ps)->Src K mg x (tp i) ps
 nb:∀ {x:Av},Ck (bl.contains x)->mg x=none
 cl:∀ {x:Av} {C:Af},clt.lookup x=Ab C->mg x=Ab (.ref C)/\Gh K (.ref C)=true
 rz:∀ {x:Av} {C:Af},plt.lookup x=Ab C->∃ Ae,mg x=Ab (.ref C)/\bH K C Ae=true
 ct:∃ C0,mg "FarError" = Ab (.ref C0)/\∀ c∈cs,Zb K c (.ref C0)=Ab true
 cls:ClsK K exl
 gi:∀ {x:Av} {v:Ak},cst.lookup x=Ab v->∃ t,mg x=Ab (.int v t)
section
variable {K:Aj}{mg:Av->Am Ac}{cm:Ar}{tp:Ai->Fx}{tab:Aa (Av × Ai × Aa Av)}{bl:Aa Av}{clt plt:Aa (Av × Af)}{cs:Aa Ac}{exl:Aa Af}{cst:Aa (Av × Ak)}{x:Av}{i m:Ai}{ps:Aa Av}{F:DF}{g:DS}
theorem dq (P:Be)(w:Bx)(base:Br)(k j:Ai)(T:TxS K mg tp tab bl clt plt cs exl cst)(hj:tab[j]? = Ab (x,i,ps))(h:Ck (fnB (tL (qK (tp i))) ps (qK (tp i))&&decide ((tL (qK (tp i))).length=m)))(hF:F=qQ m g)
  (hb:∀ (f:Af) (cdv:Ac) (A:Bv) (outer:Aa IZ) (s:Ag) (H:Hp) (E:XK),bB K x cdv->RoomC cm k (A.deeper (Gq x (qK (tp i)) s.heap.objs.size f cdv)) ->
   QB (cxC cm P w K mg base (tL (qK (tp i))) x (qK (tp i)) f cdv A outer s H E) (zQ (tp i)) g):DfS F P w K mg base cm (k+1) x ps.length:=by
 unfold Ck at h;simp only[Bi,Cb] at h;obtain⟨h,rfl⟩:=h;exact⟨hF▸HF (T.src j hj) (oX h) rfl hb⟩
theorem dqP {P:Be}{w:Bx}{base:Br}(k j:Ai)(T:TxS K mg tp tab bl clt plt cs exl cst)(hj:tab[j]? = Ab (x,i,ps))(h:Ck (fnB (tL (qK (tp i))) ps (qK (tp i))&&decide ((tL (qK (tp i))).length=m)))
  (hb:∀ (f:Af) (cdv:Ac) (A:Bv) (outer:Aa IZ) (s:Ag) (H:Hp) (E:XK),bB K x cdv->RoomC cm k (A.deeper (Gq x (qK (tp i)) s.heap.objs.size f cdv)) ->
   QB (cxC cm P w K mg base (tL (qK (tp i))) x (qK (tp i)) f cdv A outer s H E) (zQ (tp i)) g):d0 P w K mg base cm (k+1) x ps (qQ m g):=by
 unfold Ck at h;simp only[Bi,Cb] at h;obtain⟨h,rfl⟩:=h;exact DW (T.src j hj) (oX h) rfl hb
end
theorem hv {a b:Prop}(f:a->b)(h:a):b:=f h
inductive SrcF (K:Aj)(x:Av)(st:Fx)(ps:Aa Av):Prop
 |mk {f:Af} {oc:Ac} {od an:Am Af} {osl:Ay (Am Ac)} {kV doc pm cdv ct:Ac} (a:Es K Df x=Ab (Ab (.ref f)))
  (l:K.lookup f=Ab ⟨oc,od,.func (Gg x x (wO st) (zQ st) (qK st) .none kV doc pm an cdv ct),osl⟩) (c:Kj K cdv x=true) (k:Gh K (.ref f)=true):SrcF K x st ps
def cX (K:Aj)(tp:Ai->Fx):Aa (Av × Ai × Aa Av)->Prop
 |[]=>Ng
 |(x,i,ps)::t=>SrcF K x (tp i) ps/\cX K tp t
def BdF (tp:Ai->Fx):Aa (Av × Ai × Aa Av)->Prop
 |[]=>Ng
 |(x,i,ps)::t=>(∀ (kV doc pm:Ac) (an:Am Af) (cdv ct:Ac) (us:Aa Ac),us.length=ps.length->Ya (Gg x x (wO (tp i)) (zQ (tp i)) (qK (tp i)) .none kV doc pm an cdv ct) ⟨us,[]⟩=pure (ps.zip us))/\BdF tp t
def cS (K:Aj):Aa (Av × Af)->Prop
 |[]=>Ng
 |(x,C)::t=>Es K Df x=Ab (Ab (.ref C))/\cS K t
def cT (K:Aj):Aa (Av × Ak)->Prop
 |[]=>Ng
 |(x,v)::t=>(∃ k,Es K Df x=Ab (Ab (.int v k)))/\cT K t
noncomputable def HL:Am (Am Ac)->Ar
 |some none=>true
 |_=>false
section
variable {K:Aj}{h:Br}{mg:Av->Am Ac}{tp:Ai->Fx}
theorem cL (X:K.In h)(G:h.Ns Df mg):∀ (tab:Aa (Av × Ai × Aa Av)),cX K tp tab->BdF tp tab->∀ (j:Ai) {x:Av} {i:Ai} {ps:Aa Av},tab[j]? = Ab (x,i,ps)->Src K mg x (tp i) ps
 |[],_,_,_,_,_,_,e=>by cases e
 |(x,i,ps)::t,H,B,0,_,_,_,e=>by
  cases e;obtain⟨a,l,c,k⟩:=H.1;exact LR X G a l c k B.1
 |(x,i,ps)::t,H,B,j+1,_,_,_,e=>cL X G t H.2 B.2 j e
theorem wJ {β:Type}{p:Av->β->Prop}{x:Av}{C:β}:∀ {l:Aa (Av × β)},(∀ y∈l,p y.1 y.2)->l.lookup x=Ab C->p x C
 |[],_,e=>by cases e
 |(y,b)::t,H,e=>by
  rw[Je] at e;cases q:x == y with
  |true =>
   rw[q] at e;cases e;rw[eq_of_beq q];exact H (y,_) (.head _)
  |false =>
   rw[q] at e;exact wJ (λz hz=>H z (.tail _ hz)) e
theorem pA (X:K.In h)(G:h.Ns Df mg):∀ {l:Aa (Av × Af)},cS K l->∀ y∈l,mg y.1=Ab (.ref y.2)
 |(x,C)::t,H,y,hy=>by
  rcases Ax.mp hy with rfl|hy
  .exact Um X G H.1
  .exact pA X G H.2 y hy
theorem eB (X:K.In h)(G:h.Ns Df mg):∀ {l:Aa (Av × Ak)},cT K l->∀ y∈l,∃ k,mg y.1=Ab (.int y.2 k)
 |(x,C)::t,H,y,hy=>by
  rcases Ax.mp hy with rfl|hy
  .obtain⟨k,e⟩:=H.1
   exact⟨k,Um X G e⟩
  .exact eB X G H.2 y hy
theorem E7 {tab:Aa (Av × Ai × Aa Av)}{bl:Aa Av}{clt plt:Aa (Av × Af)}{cs:Aa Ac}{exl:Aa Af}{cst:Aa (Av × Ak)}{far:Af}(B:BdF tp tab)(hp:∀ y∈plt,y∈clt)(hf:clt.lookup ("FarError" : Av)=Ab far)(X:K.In h)(G:h.Ns Df mg)
  (s:cX K tp tab) (z:(bl.all λx=>HL (Es K Df x))=true) (q:cS K clt) (g:cT K cst) (e1:exl.all (dF K)=true) (e2:XE K=true) (e3:F7 K exl=true) (e4:HE K cs far=true) (e5:HC K (plt.map (·.2)) far=true) (e6:HD K (clt.map (·.2))=true):TxS K mg tp tab bl clt plt cs exl cst where
 src:=cL X G tab s B
 nb:=λ{x} hx=>by
  have e:=Ca.mp z x (by simpa using List.contains_iff_mem.mp hx)
  refine PySem.W.mg_none_of X G ?_
  revert e
  cases Es K Df x with
  |none=>intro e;cases e
  |some y=>cases y with
   |none=>intro _;rfl
   |some y=>intro e;cases e
 cl:=λh=>⟨wJ (p:=λx C=>mg x=Ab (.ref C)) (pA X G q) h,wJ (p:=λ_ C=>Gh K (.ref C)=true) (λy hy=>Ca.mp e6 y.2 (Uo hy)) h⟩
 rz:=λh=>⟨far,wJ (p:=λx C=>mg x=Ab (.ref C)) (λy hy=>pA X G q y (hp y hy)) h,wJ (p:=λ_ C=>bH K C far=true) (λy hy=>Ca.mp e5 y.2 (Uo hy)) h⟩
 ct:=⟨far,wJ (p:=λx C=>mg x=Ab (.ref C)) (pA X G q) hf,λv hv=>Cf (Ca.mp e4 v hv)⟩
 cls:=F8 e1 e2 e3
 gi:=λh=>wJ (p:=λx v=>∃ k,mg x=Ab (.int v k)) (eB X G g) h
end
structure LamT where
 qual:Av
 params:Sb
 body:Bt
 scope:Eo
noncomputable def VS (sc:Eo):Aa Av:=sc.names.filterMap λy=>if y.2 == .free then Ab y.1 else none
inductive CloAt (h:Br)(H:Hp)(fs:Aa Af)(L:LamT)(a:Af)(cv:Aa V):Prop
 |mk (cl:Aa (Av × Af)) (pm ctv:Ac) (c:Af) (oc:Ci) (ws:Ay Ac) (t:Ry) (o:h.get? a=Ab (PySem.W.kla_obj "<lambda>" L.qual L.params L.body L.scope cl pm c ctv)) (hc:H c=Ab (.frz oc (.frz oc (.own 0)))) (hd:oc.data=.fields ws) (ht:ws[1]? = Ab (.str L.qual t))
  (inj:∀ x y d,cl.lookup x=Ab d->cl.lookup y=Ab d->x=y) (cel:∀ x d,cl.lookup x=Ab d->H d=none/\∃ v,h.IsCell d v) (has:∀ x,L.scope.names.lookup x=Ab .free->∃ d,cl.lookup x=Ab d)
  (len:cv.length=(VS L.scope).length) (val:∀ (j:Ai) x v,(VS L.scope)[j]? = Ab x->cv[j]? = Ab v->∃ d u,cl.lookup x=Ab d/\qF v u/\h.IsCell d (Ab u)) (hn:H a=none) (hf:a ∉ fs):CloAt h H fs L a cv
theorem CloAt.at {X:Cx}{pins:Aa (Af × Ci)}{σ:_L.St}{H:Hp}{s:Ag}{L:LamT}{a:Af}{cv:Aa V}(C:CloAt X.s₀.heap X.H₀ X.fs L a cv)(F:Fn1 X)(I:Inv X pins σ H s):CloAt s.heap H (frs X.stack) L a cv:=by
 obtain⟨cl,pm,ctv,c,oc,ws,t,o,hc,hd,ht,inj,cel,has,len,val,hn,hf⟩:=C;have nx:∀ b,b ∉ X.ex:=λb=>by rw[F.1];simp
 have nf:∀ b o,X.s₀.heap.get? b=Ab o->b ∉ X.fs->b ∉ frs X.stack:=λb o e n z=>(F.mem.mp z).elim (Cq (Bc (Az e) I.ok.above)) n;have kc:∀ d v,X.H₀ d=none->X.s₀.heap.IsCell d v->s.heap.IsCell d v:=λd v h1 ⟨o,e,q⟩=>let ⟨_,z⟩:=I.base.any e h1 (nx d);⟨_,z,q⟩
 refine⟨cl,pm,ctv,c,oc,ws,t,I.base.keep a _ o hn hf (nx a),I.base.frzs _ _ _ hc,hd,ht,inj,λx d e=>?_,has,len,λj x v e1 e2=>?_,I.base.free a _ o hn (nx a),nf a _ o hf⟩
 .obtain⟨h1,v,h3⟩:=cel x d e
  obtain⟨ob,e3,q⟩:=id h3;exact⟨I.base.free d ob e3 h1 (nx d),v,kc d v h1 h3⟩
 .obtain⟨d,u,q1,q2,q3⟩:=val j x v e1 e2
  exact⟨d,u,q1,q2,kc d _ (cel x d q1).1 q3⟩
theorem MOk.at {K:Aj}{H H' P:Hp}{α:Aa Af}{a:Af}(e:H' a=H a):∀ {o:MO},MOk K H P α a o->MOk K H' P α a o
 |.dead,_=>trivial
 |.lst _,⟨vs,q,r⟩=>⟨vs,e.trans q,r⟩
 |.dct _,⟨vs,q,r⟩=>⟨vs,e.trans q,r⟩
 |.ins _ _,⟨dx,vs,q,r⟩=>⟨dx,vs,e.trans q,r⟩
section
variable {X:Cx}{pins:Aa (Af × Ci)}{σ : _L.St}{H P:Hp}{α : Aa Af}{s:Ag}{S:Sto}{y:Av}{c T:Af}
theorem Inv.pinned {a:Af}{o:Ci}{h':Br}{tk:Ai}{H':Hp}(I:Inv X pins σ H' { s with heap:=h'.push o,toks:=tk })(ha:a=h'.objs.size)(hs:s.heap.objs.size<=h'.objs.size)(I0:Inv X pins σ H s)(hn:H' a=none)(hd:∀ v,o.data≠.cell v)(hfr:o.isFreed=false:=by rfl):Inv X ((a,o)::pins) σ H' { s with heap:=h'.push o,toks:=tk }:=by
 refine I.pins_of λp hp=>?_;rcases Ax.mp hp with rfl|hp
 .subst ha
  exact⟨Ba _ hfr,hn,Fw (Bc I0.lt hs),I0.nofs hs,hd⟩
 .exact I.pin p (Bq _ hp)
end
structure ClA (X:Cx)(L:LamT)(a:Af)(cv:Aa V):Prop where
 get:CloAt X.s₀.heap X.H₀ X.fs L a cv
section
variable {X:Cx}{cm nx:Ar}{k kl m n N i:Ai}{x y:Av}{p pos lpos:Eu}{e:Bt}{es:Aa Bt}{fA:DA}{fe:DE}{L:LamT}{G:Aa D->DF}{a:Af}{cv:Aa V}{g:(Aa D->DF)->Af->Aa V->DS}{Fs:FnL}{cap:Aa Ai}{params:Sb}{body:Bt}{scope:Eo}
theorem ClA.tr {E:Ac->Ag->Prop}{pn:Aa (Af × Ci)}(h:ClA X L a cv):ClA (Cx.tryIn X E pn) L a cv:=⟨h.1⟩
end
noncomputable def r8:D->Sto->Am (Aa D)
 |.lst xs,_=>Ab xs
 |.tup xs,_=>Ab xs
 |.loc n,S=>match S[n]? with
  |some (.lst xs)=>Ab xs
  |_=>none
 |_,_=>none
noncomputable def v7 (mu:Ar)(f:DE):DE:=λenv S=>(f env S).bind λd S1=>match (r8 d S1).bind uF with
 |some ys=>if mu then .ok (.loc S1.length) (S1++[.lst ys]) else .ok (.lst ys) S1
 |none=>.bad
section
variable {X:Cx}{pins:Aa (Af × Ci)}{σ : _L.St}{H P:Hp}{α : Aa Af}{S:Sto}{s:Ag}
theorem b9 {K:Type}{is:K->Ac->Prop}{hash:K->Ak}{lt':K->K->Ar}{d:K}{Fit:K->Prop}(kd:_S.Kind X.prog X.w is hash lt' d Fit s.heap)(ad:_S.AddS X.prog X.w is hash s.heap)(hc:X.calm=true)(hu:X.A.units+64<Eg)(I:Inv X pins σ H s)(r:Rel X.K H P α S){a:Af}{its:Aa Ac}
  (ha:s.heap.IsList a its.toArray\/s.heap.IsTuple a its.toArray) (ks:Aa K) (hl:ks.length=its.length) (hk:∀ i v,its[i]? = Ab v->is (ks.getD i d) v) (hn:(_S.srt lt' ks).length<=1000) (hf:∀ k∈ks,Fit k) (enc:K->D)
  (back:∀ k v,is k v->v∈its->∃ vv,qF vv v/\Rep X.K P α (enc k) vv) {E:Ac->Ag->Prop} :
  Ap (Au X.prog X.w) X.A (call (.type "set") [.ref a]) (λu s1=>Ap (Au X.prog X.w) X.A (call (.builtin "sorted") [u]) (NewR X pins σ H P α ((_S.srt lt' ks).map enc)) E s1) E s:=by
 have hsz:its.toArray.size=ks.length:=by rw[Bh,hl]
 have mem:∀ k,k∈_S.srt lt' ks↔k∈ks:=λk=>_S.zE kd.ord k ks;have inn:∀ i,i<ks.length->ks.getD i d∈ks:=λi hi=>by simp[HT,hi]
 refine _S.aE (U:=_S.srt lt' ks) ad (I.ok.hd hc) li ha (λi=>ks.getD i d) (λi v hv=>hk i v (by simpa using hv)) li (λi hi=>(mem _).mpr (inn i (by rw[<- hsz];exact hi))) λh1 tk1 Z kp=>?_
 have seen:∀ k∈_S.wQ (λi=>ks.getD i d) its.toArray.size,k∈ks:=λk hk'=>by
  obtain⟨i,hi,rfl⟩:=_S.uQ.mp hk';exact inn i (by rw[<- hsz];exact hi)
 have I1:Inv X pins σ H { s with heap:=h1,toks:=tk1 }:=I.kept kp
 refine _S.iR (s:={ s with heap:=h1,toks:=tk1 }) kd (I.ok.hd hc) li kp Z (λk hk'=>hf k (seen k hk')) (U:=_S.srt lt' ks) li (λk hk'=>(mem k).mpr (seen k hk')) λh2 tk2 D c ps kp2 hD hob hps hp hpl=>?_
 rw[hsz,V2 kd.ord] at hps;have vv:∀ (ps:Aa (K × Ac)),(∀ p∈ps,is p.1 p.2/\p.2∈its)->∃ vs,qI vs (ps.map (·.2))/\qB X.K P α ((ps.map (·.1)).map enc) vs:=by
  intro ps
  induction ps with
  |nil=>exact λ_=>⟨[],.nil,.nil⟩
  |cons p ps ih =>
   intro h;obtain⟨vs,a1,a2⟩:=ih λq hq=>h q (by simp[hq])
   obtain⟨v,b1,b2⟩:=back p.1 p.2 (h p (by simp)).1 (h p (by simp)).2
   exact⟨v::vs,.cons b1 a1,.cons b2 a2⟩
 obtain⟨vs,a1,a2⟩:=vv ps λp hpm=>by simpa using hp p hpm
 rw[hps] at a2;have nd:([(D,HO.lst vs)].map (·.1)).Nodup:=by simp
 have I2:Inv X pins σ (j7 H [(D,HO.lst vs)]) { s with heap:=h2,toks:=tk2 }:=Inv.laidL (s:={ s with heap:=h1,toks:=tk1 }) (L:=[(D,HO.lst vs)]) (t':=tk2) I1 kp2 (λp hpm=>by
  have:p=(D,HO.lst vs):=by simpa using hpm
  subst this;exact hD) λp hpm=>by
  have:p=(D,HO.lst vs):=by simpa using hpm
  subst this;refine⟨?_,ps.map (·.2),c,a1,hob⟩
  have:=a1.length;rw[Ao] at this;rw[this,Fi]
  lia
 exact⟨D,vs,rfl,I1.hok.fresh hD,I2,a2⟩
set_option tactic.hygienic true in
theorem PX {d:D}{xs:Aa D}{v:V}{vv:Ac}(I:Inv X pins σ H s)(r:Rel X.K H P α S)(p:Rep X.K P α d v)(q:qF v vv)(h:r8 d S=Ab xs) :
  ∃ a vs its,vv=.ref a/\qB X.K P α xs vs/\qI vs its/\(s.heap.IsList a its.toArray\/s.heap.IsTuple a its.toArray)/\xs.length=its.length:=by
 cases d with
 |lst ys=>exact r9 I r p q h
 |tup ys=>exact r9 I r p q h
 |loc n =>
  have hS:S[n]? = Ab (.lst xs):=by
   have h:(match S[n]? with|some (.lst xs)=>Ab xs|_=>none)=Ab xs:=h
   split at h
   .rename_i e;cases h;exact e
   .cases h
  simp only[Rep] at p;obtain⟨a,rfl,ha⟩:=p;cases (show vv=Dm a from q)
  obtain⟨vs,z,t⟩:=r.at' n a _ ha hS;obtain⟨its,rv,p,hz⟩:=I.list (SqL.of z);exact⟨a,vs,its,rfl,t,rv,.inl p.isList,by rw[t.length,rv.length]⟩
 |_=>cases h
end
section
variable {X:Cx}{e:Bt}{fa:DE}{p1 p2 pos1 pos2:Eu}{mu:Ar}
set_option tactic.hygienic true in
theorem rM (hc:X.calm=true)(hu:X.A.units+64<Eg)(hg:Gl X "sorted")(hm:X.mg "sorted" = none)(hg2:Gl X "set")(hm2:X.mg "set" = none)(ha:PE X e (tD X fa))(he:Bm [e] X.env=(false,eval e X.env)::Bm [] X.env:=by rfl) :
  PE X (.Call (.Name "sorted" p1) [.Call (.Name "set" p2) [e] [] pos2] [] pos1) (tD X (v7 mu fa)):=by
 intro pins s σ H Q I h;obtain⟨P,α,env,S,r,re,af⟩:=h;refine Hr (wI I hg hm oC ?_);refine Hw ?_ rfl rfl;refine Iu ?_;refine Call_ (wI I hg2 hm2 d9 (Fu ?_ he rfl));rw[he];refine Iu (thn (zL ha I r re af) λvv s1 ⟨v,H1,P1,α1,d,S1,G1,af1⟩=>IR ?_);cases hq:(r8 d S1).bind uF with
 |none=>simp only[hq] at af1;exact Aq af1
 |some ys =>
   simp only[hq] at af1;obtain⟨xs,hd,hs⟩:=Er.mp hq;obtain⟨a,vs,its,rfl,t1,rv1,e1,l1⟩:=PX G1.inv G1.rel G1.rep G1.val hd;have main:Ap (Au X.prog X.w) X.A (call (.type "set") [.ref a]) (λu s1=>Ap (Au X.prog X.w) X.A (call (.builtin "sorted") [u]) (NewR X pins σ H1 P1 α1 ys) X.xe s1) X.xe s1:=by
    unfold uF at hs;cases hi:zP xs with
    |some ns =>
     rw[hi] at hs;dsimp only at hs
     split at hs
     .rename_i hlt
      cases hs;have:=yA hi;subst this;have:=wH t1;subst this;refine b9 (d:=0) (_S.i7 X.prog X.w s1.heap) (_S.o6 s1.heap) hc hu G1.inv G1.rel e1 ns (by simpa using l1) (λi u hu'=>?_) hlt (λ_ _=>trivial) D.int λk u hk _=>?_
      .have hi:IT its ns:=by simpa using vN rv1
       obtain⟨t,rfl⟩:=OC hi i u hu';exact Qm _ _ _ _
      .obtain⟨t,rfl⟩:=_S.wA hk
       exact⟨.int k,⟨t,rfl⟩,by simp only[Rep]⟩
     .cases hs
    |none =>
     rw[hi] at hs;dsimp only at hs;cases ht:w5 xs with
     |none=>rw[ht] at hs;cases hs
     |some ks =>
      rw[ht] at hs;dsimp only at hs
      split at hs
      .rename_i hlt
       cases hs;have hlt':=Fy.mp hlt;have:=bW ht;subst this;have at':∀ (i:Ai) (u:Ac),its[i]? = Ab u->∃ b,u=.ref b/\Os (Bf X.prog X.w) s1.heap (ks.getD i []) b/\∃ vv,qF vv u/\Rep X.K P1 α1 (tpD (ks.getD i [])) vv:=λi u hu'=>by
        have hii:i<its.length:=(Bw.mp hu').1;have hik:i<ks.length:=by rw[Ao] at l1;lia
        obtain⟨v,p,q,_⟩:=xY t1 rv1 (j:=i) (by rw[Bh];exact hii)
        have hd:(ks.map tpD).getD i D.non=tpD (ks.getD i []):=by simp[HT,hik]
        rw[hd] at p;have hu2:its.toArray[i]'(by rw[Bh];exact hii)=u:=by
         rw[An hii] at hu';simpa using hu'
        rw[hu2] at q;obtain⟨b,ws,us,rfl,sq,t,rv,⟨o,ho,hcl,m,hd⟩,_,_⟩:=yP G1.inv G1.rel (show Rep X.K P1 α1 (.tup ((ks.getD i []).map D.int)) v from p)
        cases (show u=Dm b from q)
        have:=wH t;subst this;exact⟨b,rfl,⟨o,us.toArray,m,ho,hcl,hd,by simpa using tE rv⟩,.ref b,rfl,p⟩
       refine b9 (d:=[]) (_S.VY X.prog X.w s1.heap) (_S.BV s1.heap) hc hu G1.inv G1.rel e1 ks (by simpa using l1) (λi u hu'=>?_) (Cf hlt'.1) (λk hk=>?_) tpD λk u hk hm'=>?_
       .obtain⟨b,rfl,q,_⟩:=at' i u hu'
        exact⟨b,rfl,q⟩
       .have:=Ca.mp hlt'.2 k hk
        intro z;subst z;cases this
       .obtain⟨i,hi',rfl⟩:=Cn.mp hm'
        obtain⟨b,eb,q,w,rw',pw⟩:=at' i _ (An hi');have:k=ks.getD i []:=_S.isT.inj hk ⟨b,eb,q⟩;rw[this];exact⟨w,rw',pw⟩
      .cases hs
   refine thn main λu s2 h2=>IR (thn h2 λu' s3 ⟨D,vs',e,hn,I',rp'⟩=>?_);subst e;cases mu with
   |true=>exact⟨.ref D,_,I',rfl,tP G1.rel hn rp' λv' H' P' α' r' e1 e2 rp=>af1 v' H' P' α' r' (G1.same.trans e1) (G1.pre.trans e2) rp⟩
   |false=>exact⟨.ref D,_,I',rfl,yB G1.rel hn rp' λv' H' P' α' r' e1 e2 rp=>af1 v' H' P' α' r' (G1.same.trans e1) (G1.pre.trans e2) rp⟩
end
section
variable {X:Cx}{cm:Ar}{k:Ai}{e:Bt}{fa:DE}{p1 p2 pos1 pos2:Eu}{mu:Ar}
theorem rP (hc:X.calm=true)(hr:RoomC cm k X.A)(hg:Gl X "sorted")(hm:X.mg "sorted" = none)(hg2:Gl X "set")(hm2:X.mg "set" = none)(ha:QE X e fa)(he:Bm [e] X.env=(false,eval e X.env)::Bm [] X.env:=by rfl) :
  QE X (.Call (.Name "sorted" p1) [.Call (.Name "set" p2) [e] [] pos2] [] pos1) (v7 mu fa):=⟨rM hc hr.units hg hm hg2 hm2 ha.1 he⟩
end
noncomputable def iA (d:D)(S:Sto):Am (Aa D):=match d with
 |.tup _=>none
 |d=>r8 d S
noncomputable def jU (f:DE):DE:=λenv S=>(f env S).bind λd S1=>match (iA d S1).bind zP with
 |some ns=>if ns.length<4000 then .ok (.int (bJ ns)) S1 else .bad
 |none=>.bad
section
variable {X:Cx}{e:Bt}{fa:DE}{p1 p2 pos1 pos2:Eu}
set_option tactic.hygienic true in
theorem KL {pins:Aa (Af × Ci)}{σ:_L.St}{H P:Hp}{α:Aa Af}{S:Sto}{s:Ag}{d:D}{xs:Aa D}{v:V}{vv:Ac}(I:Inv X pins σ H s)(r:Rel X.K H P α S)(p:Rep X.K P α d v)(q:qF v vv)(h:iA d S=Ab xs) :
  ∃ a vs its,vv=.ref a/\qB X.K P α xs vs/\qI vs its/\s.heap.IsList a its.toArray:=by
 cases d with
 |lst ys =>
  cases h;obtain⟨a,vs,its,n,rfl,_,t,rv,e,l,_⟩:=jH I r p;exact⟨a,vs,its,q,t,rv,⟨_,e,rfl,n,rfl⟩⟩
 |loc n =>
  have hS:S[n]? = Ab (.lst xs):=by
   have h:(match S[n]? with|some (.lst xs)=>Ab xs|_=>none)=Ab xs:=h
   split at h
   .rename_i e;cases h;exact e
   .cases h
  simp only[Rep] at p;obtain⟨a,rfl,ha⟩:=p;cases (show vv=Dm a from q)
  obtain⟨vs,z,t⟩:=r.at' n a _ ha hS;obtain⟨its,rv,p,hz⟩:=I.list (SqL.of z);exact⟨a,vs,its,rfl,t,rv,p.isList⟩
 |_=>cases h
theorem aK (hc:X.calm=true)(hg:Gl X "len")(hm:X.mg "len" = none)(hg2:Gl X "set")(hm2:X.mg "set" = none)(ha:PE X e (tD X fa))(he:Bm [e] X.env=(false,eval e X.env)::Bm [] X.env:=by rfl) :
  PE X (.Call (.Name "len" p1) [.Call (.Name "set" p2) [e] [] pos2] [] pos1) (tD X (jU fa)):=by
 intro pins s σ H Q I h;obtain⟨P,α,env,S,r,re,af⟩:=h;refine Hr (wI I hg hm oB ?_);refine Hw ?_ rfl rfl;refine Iu ?_;refine Call_ (wI I hg2 hm2 d9 (Fu ?_ he rfl));rw[he];refine Iu (thn (zL ha I r re af) λvv s1 ⟨v,H1,P1,α1,d,S1,G1,af1⟩=>IR ?_);cases hq:(iA d S1).bind zP with
 |none=>simp only[hq] at af1;exact Aq af1
 |some ns =>
  simp only[hq] at af1;obtain⟨hlt,af2⟩:=vA af1;obtain⟨xs,hd,hn⟩:=Er.mp hq;obtain⟨a,vs,its,rfl,t1,rv1,e1⟩:=KL G1.inv G1.rel G1.rep G1.val hd;have:=yA hn;subst this;have:=wH t1;subst this;have hi:IT its ns:=by simpa using vN rv1
  have hlen:its.length=ns.length:=hi.length;have hsz:its.toArray.size=ns.length:=by rw[Bh];exact hlen
  refine call_set_list (ns:=ns) (G1.inv.ok.hd hc) e1 (by simpa using hi) (by rw[hsz];have:Zt=4096:=rfl;omega) λh' tk hS hk=>?_
  rw[hsz,gC] at hS;obtain⟨o,es,ep,t,ho,hex,hd,hel,hmem,hsb,hf,hes⟩:=hS;have I2:Inv X pins σ H1 { s1 with heap:=h',toks:=tk }:=G1.inv.kept λb u eq=>hk b u (Az eq) eq
  have hdl:(ns.foldl Yt []).length<=ns.length:=by rw[<- gC];exact firstMet_length_le _ _
  refine IR (call_len_set (s:={ s1 with heap:=h',toks:=tk }) ho hex hd hf (by rw[hes];omega) ?_)
  rw[hes];exact⟨.int _,H1,I2.tok _,⟨_,rfl⟩,af2 _ H1 P1 α1 G1.rel G1.same G1.pre (by simp only[Rep];rfl)⟩
theorem iK (hc:X.calm=true)(hg:Gl X "len")(hm:X.mg "len" = none)(hg2:Gl X "set")(hm2:X.mg "set" = none)(ha:QE X e fa)(he:Bm [e] X.env=(false,eval e X.env)::Bm [] X.env:=by rfl) :
  QE X (.Call (.Name "len" p1) [.Call (.Name "set" p2) [e] [] pos2] [] pos1) (jU fa):=⟨aK hc hg hm hg2 hm2 ha.1 he⟩
end
noncomputable def Iti (a:Af)(o:Ci)(vs:Aa (Key × V)):It:=
 ⟨λi H=>(∃ u,H a=Ab (.frz o u))/\i<vs.length,λi H v H'=>∃ T q,v=.ref T/\H T=none/\H'=upd H T (.tup [kV q.1,q.2])/\vs[i]? = Ab q,λi H=>(∃ u,H a=Ab (.frz o u))/\vs.length<=i⟩
theorem iV {P:Be}{w:Bx}{K:Aj}{elts:Aa Bt}{x1:Ai}{tpos:Eu}{a it:Af}{o:Ci}{us:Aa (Key × Ac)}{ep:Ai}(kv:KV vs us)(at':∀ h:Br,h.get? a=Ab o->h.DictAt (zD P w) a us ep) :
  Turn P w K (.Tuple elts x1 tpos) (Iti a o vs) [it] it (λi h=>∃ ok ov,IsItemIter h it a i us.length ep ok ov) where
 mem:=by simp
 obj:=λi h st b hb=>by
  have e:b=it:=by simpa using hb
  subst e;obtain⟨ok,ov,e⟩:=st;exact⟨_,e,λv z=>by cases z⟩
 keep:=λi h h' st k=>by
  obtain⟨ok,ov,e⟩:=st;exact⟨ok,ov,k it (by simp) _ e⟩
 item:=by
  intro X hP hw hK hc i pins s σ H E I hf st hg;subst hP hw hK;obtain⟨⟨u0,hu⟩,hlt⟩:=hg;obtain⟨ok,ov,st⟩:=st;have ho:s.heap.get? a=Ab o:=(I.hok a _ hu).1;obtain⟨u,e1,e2⟩:=QD kv (An hlt);refine wpAny_pyNext_items_item st (at' _ ho) e1 λkey h' hk a1 a2 a3 a4=>?_;refine⟨_,rfl,wpAny_letOwnedTupleGo_items (s:={ s with heap:=h' }) a1 λh2 b1 b2=>?_⟩
  have up:∀ c o,c≠it->h'.get? c=Ab o->h2.get? c=Ab o:=λc o n q=>(b2.2 c n).trans q;have el:it<s.heap.objs.size:=Az st;have T2:=up _ _ (Fw el) a2;refine⟨.ref s.heap.objs.size,upd H s.heap.objs.size (.tup [kV (vs[i]).1,(vs[i]).2]),?_,rfl,⟨_,vs[i],rfl,I.hok.fresh (As _),rfl,An hlt⟩,⟨_,_,b1⟩,λc hc=>?_⟩
  .have:=Inv.turnLay (s:=s) (fp:=[it]) (its:=[key,u]) (h':=h2) (xs:=[kV (vs[i]).1,(vs[i]).2]) I hf (λc o hc q=>by
    have hc:c≠it:=by simpa using hc
    exact up c o hc (a4 c o hc q)) (λc hc=>by
    have:c=it:=by simpa using hc
    subst this;exact⟨_,b1⟩) (As _) (.cons (SO hk) (.cons e2 .nil)) ⟨_,T2,rfl,_,rfl⟩ (by show 2<=sizeLine;decide)
   exact this
  .have hn:=(hf c hc).1
   rw[qO ?_]
   .exact hn
   .rintro rfl
    have:s.heap.objs.size=it:=by simpa using hc
    rw[this] at el;exact absurd el (Ek _)
 done:=by
  intro X hP hw hK hc i pins s σ H E I hf st hg;subst hP hw hK;obtain⟨⟨u0,hu⟩,hle⟩:=hg;obtain⟨ok,ov,st⟩:=st;have ho:s.heap.get? a=Ab o:=(I.hok a _ hu).1;obtain⟨f0,f1,f2,f3,f4,f5⟩:=hf it (by simp)
  have hl:=kv.length;exact wpAny_pyNext_items_end (I.ok.hd hc) st (at' _ ho) (by simp;lia) λh' eb=>⟨rfl,I.turned (t':=s.toks) (λb o hb e=>eb b o hb e) f0 f1 f3 f4 f5⟩
 self:=λ_ _ _ _ _ st h=>by
  obtain⟨ok,ov,st⟩:=st;exact PySem.W.kcp_self st h
noncomputable def tF (kvs:Aa (Key × D)):Aa D:=kvs.map λp=>D.tup [kD p.1,p.2]
noncomputable def fB (f:DE):DI:=λenv S=>(f env S).bind λd S1=>match d with
 |.loc n=>match S1[n]? with
  |some (.dct kvs)=>.ok (tF kvs) (S1.set n .dead)
  |_=>.bad
 |_=>.bad
theorem eU {K:Aj}{P:Hp}{α:Aa Af}:∀ {kvs:Aa (Key × D)} {vs:Aa (Key × V)},KVs K P α kvs vs->∀ {i:Ai} {q:Key × D},kvs[i]? = Ab q->∃ v,vs[i]? = Ab (q.1,v)/\Rep K P α q.2 v
 |_,_,.nil,i,q,h=>by simp at h
 |_,_,.cons (a:=x) (b:=y) z t,i,q,h=>by
  cases i with
  |zero =>
   simp at h;subst h;exact⟨y.2,by simp;exact Yb z.1.symm rfl,z.2⟩
  |succ i =>
   obtain⟨v,e1,e2⟩:=eU t (i:=i) (q:=q) (by simpa using h)
   exact⟨v,by simpa using e1,e2⟩
theorem Q4 {K:Aj}{P:Hp}{α:Aa Af}{a:Af}{o:Ci}{u:HO}{kvs:Aa (Key × D)}(q:P a=Ab (.frz o u))(t:KVs K P α kvs vs)(hl:kvs.length=vs.length):ItD K (Iti a o vs) P α (tF kvs) where
 go:=λi H P1 α1 S hi r e _=>⟨⟨u,r.sub _ _ (e _ _ q)⟩,by unfold tF at hi;rw[Ao] at hi;lia⟩
 yld:=λi H x H' P1 α1 S hi r e e2 y=>by
  obtain⟨T,p,rfl,hT,rfl,hp⟩:=y;unfold tF at hi;rw[Ao] at hi;obtain⟨v,h1,h2⟩:=eU t (An hi);rw[hp] at h1;cases h1;obtain⟨r1,s1⟩:=r.pure (o:=.tup [kV (kvs[i]).1,v]) hT;refine⟨_,.tup [kD (kvs[i]).1,(kvs[i]).2],?_,r1,s1,?_⟩
  .unfold tF;rw[Du,An hi];rfl
  .exact pP (.of qX) (.cons (ML _) (.cons (Rep.mono (e.trans s1) e2 _ _ h2) .nil))
 stop:=λi H P1 α1 S hi r e _=>⟨⟨u,r.sub _ _ (e _ _ q)⟩,by unfold tF at hi;rw[Ao] at hi;lia⟩
section
variable {X:Cx}{o:Bt}{fo:DE}{apos cpos:Eu}{elts:Aa Bt}{x1:Ai}{tpos:Eu}
set_option tactic.hygienic true in
theorem XT (ho:PE X o (tD X fo))(hbase:Kx o "items" X.env (eval o X.env)=eval o X.env:=by rfl)(hline:(apos.endLine == cpos.line)=true:=by rfl):PI X (.Tuple elts x1 tpos) (.Call (.Attribute o "items" apos) [] [] cpos) (tDI X (fB fo)):=by
 intro pins s σ H R I h;obtain⟨P,α,env,S,r,re,af⟩:=h;refine Qv hbase hline (thn (zL ho I r re af) λvv s1 ⟨v,H1,P1,α1,d,S1,G1,af1⟩=>?_);cases d with
 |loc n =>
  simp only at af1
  split at af1
  .rename_i kvs hS
   have rp:=G1.rep;have I1:=G1.inv;have r1:=G1.rel;have ht:tyD (.loc n) S1=Ab "dict":=rF hS;obtain⟨h1,h2⟩:=rD I1 G1.val (rE r1 rp ht (by simp))
   simp only[Rep] at rp;obtain⟨a,rfl,ha⟩:=rp;cases (show vv=Dm a from G1.val)
   obtain⟨vs,z,t⟩:=r1.at' n a _ ha hS;obtain⟨hz,hd,us,rel,dd⟩:=lP I1.hok z;refine⟨"dict","dict.items",Jh,Rb,PySem.F.type_dict_items,h1,h2,Nb rfl (Ud ?_)⟩;refine Vv Rb dd.typeIs PySem.F.entry_dict_items (PySem.F.args_dict_items_1 _) (meets_dict_items (zD X.prog X.w) a hd) ⟨⟨us,dd⟩,?_⟩;obtain⟨ep,oa,es,hoa,qJ⟩:=dd.dictAt;have at':∀ h:Br,h.get? a=Ab oa->h.DictAt (zD X.prog X.w) a us ep:=λh e=>⟨oa,es,e,qJ⟩;obtain⟨r2,e2⟩:=r1.still (o:=.frz oa (.dK vs)) ha hS (by intro q;cases q)
   have I2:Inv X pins σ (upd H1 a (.frz oa (.dK vs))) { s1 with heap:=s1.heap,toks:=s1.toks }:=I1.write (x:=a) (e:=a) (by rw[z];exact Ie) (.inl rfl) (λb q hb e=>e) ⟨oa,hoa⟩ ⟨hoa,hz,hd,us,rel,dd⟩
   have I3:=I2.kept (t':=s1.toks) (h':=s1.heap.push { cls:=.type "dict_items",data:=.fields #[.ref a] }) λb u e=>Ah _ e;refine wpAny_pyIter_items (s:={ s1 with heap:=s1.heap.push { cls:=.type "dict_items",data:=.fields #[.ref a] } }) (knd:=zD X.prog X.w) (d:=a) (kvs:=us) (ep:=ep) ⟨_,Ba _ rfl,rfl,rfl⟩ (at' _ (Ah _ hoa)) ?_
   have I4:=I3.kept (t':=s1.toks) (h':=(s1.heap.push { cls:=.type "dict_items",data:=.fields #[.ref a] }).push { cls:=.type "dict_itemiterator",data:=.fields #[.none,.bool false,.ref a,.int 0 0,.int us.length 0,.int ep 0,.none,.none] }) λb u e=>Ah _ e;refine⟨_,[_],_,_,_,rfl,I4,iV rel at',⟨_,_,Ba _ rfl⟩,λb hb=>?_,af1 _ _ _ α1 r2 (G1.same.trans e2) G1.pre (Q4 (u:=.dK vs) qX (KVs.mono e2 (Bl _) t) (by have:=tG t;have:=this.length;simpa using this))⟩
   have e:b=(s1.heap.push { cls:=.type "dict_items",data:=.fields #[.ref a] }).objs.size:=by simpa using hb
   subst e;exact I3.fpOk (As _) (I3.hok.fresh (As _))
  .exact Aq af1
 |_=>exact Aq af1
theorem YJ (ho:QE X o fo)(hbase:Kx o "items" X.env (eval o X.env)=eval o X.env:=by rfl)(hline:(apos.endLine == cpos.line)=true:=by rfl):QI X (.Tuple elts x1 tpos) (.Call (.Attribute o "items" apos) [] [] cpos) (fB fo):=⟨XT ho.1 hbase hline⟩
noncomputable def mX:G2:=λa b S=>match a,b with
 |.bl x,.bl y=>.ok (.bl (x != y)) S
 |_,_=>.bad
theorem Z4:OpD X (Co .IsNot) mX:=by
 intro pins σ H s P α S v u vv uu a b Q I r rv ru pa pb af;cases a with
 |bl x =>
  cases b with
  |bl y =>
   simp only[Rep] at pa pb;subst pa pb;cases (show vv=Hv x from rv)
   cases (show uu=Hv y from ru)
   have h:EP X pins σ Q (.bool (x != y)) s:=⟨.bl _,H,I,rfl,xr af r (by simp only[Rep])⟩
   cases x <;> cases y <;> exact Al h
  |_=>exact Aq af
 |_=>exact Aq af
theorem V9:ZOp X (Co .IsNot) mX:=⟨Z4⟩
end
end _D
section
namespace _D
open PySem PySem.Spec PyProof.Rows _L
mutual
noncomputable def vM:D->Aa Ak
 |.int n=>[1,n]
 |.tup xs=>2::zJ xs
 |_=>[]
noncomputable def zJ:Aa D->Aa Ak
 |[]=>[0]
 |x::xs=>vM x++zJ xs
end
mutual
noncomputable def uW:D->D->Ar
 |.int _,.int _=>true
 |.tup xs,.tup ys=>uN xs ys
 |_,_=>false
noncomputable def uN:Aa D->Aa D->Ar
 |x::xs,y::ys=>uW x y&&uN xs ys
 |_,_=>true
end
noncomputable def ltN (a b:D):Ar:=_H.lexLt (vM a) (vM b)
inductive Tr:Ai->D->Prop
 |int (n:Ai) (i:Ak):Tr n (.int i)
 |tup (n:Ai) (xs:Aa D) (h:∀ x∈xs,Tr n x):Tr (n+1) (.tup xs)
theorem pB {n:Ai}{d:D}(h:Tr n d):∃ k r,vM d=k::r/\0<k:=by
 cases h with
 |int _ i=>exact⟨1,[i],rfl,by decide⟩
 |tup n xs=>exact⟨2,zJ xs,rfl,by decide⟩
theorem wN (x:D)(xs:Aa D):zJ (x::xs)=vM x++zJ xs:=rfl
theorem l5:∀ {xs ys:Aa D} {n m:Ai},(∀ x∈xs,Tr n x)->(∀ y∈ys,Tr m y)->(∀ x∈xs,∀ y∈ys,uW x y=true->∀ r r':Aa Ak,_H.lexLt (vM x++r) (vM y++r')=if eqD x y=true then _H.lexLt r r' else ltN x y)->uN xs ys=true ->
  ∀ r r':Aa Ak,_H.lexLt (zJ xs++r) (zJ ys++r')=if zX xs ys=true then _H.lexLt r r' else _H.lexLt (zJ xs) (zJ ys)
 |[],[],_,_,_,_,_,_,r,r'=>rfl
 |[],y::ys,_,_,_,h2,_,_,r,r'=>by
  obtain⟨k,t,e,p⟩:=pB (h2 y (by simp))
  rw[Bj (by intro z;cases z),wN,e]
  show _H.lexLt (0::r) (k::_)=_H.lexLt [0] (k::_);rw[_H.lexLt_cons,_H.lexLt_cons,Bj om,Bj om]
 |x::xs,[],_,_,h1,_,_,_,r,r'=>by
  obtain⟨k,t,e,p⟩:=pB (h1 x (by simp))
  rw[Bj (by intro z;cases z),wN,e]
  show _H.lexLt (k::_) (0::r')=_H.lexLt (k::_) [0];rw[_H.lexLt_cons,_H.lexLt_cons,Bj om,Bj om]
 |x::xs,y::ys,_,_,h1,h2,h3,hc,r,r'=>by
  have hc':(uW x y&&uN xs ys)=true:=hc;rw[Bi] at hc';have ih:=l5 (λz hz=>h1 z (by simp[hz])) (λz hz=>h2 z (by simp[hz])) (λz hz y' hy=>h3 z (by simp[hz]) y' (by simp[hy])) hc'.2
  rw[wN,wN,Cc,Cc,h3 x (by simp) y (by simp) hc'.1,h3 x (by simp) y (by simp) hc'.1,ih,nV]
  cases eqD x y <;> cases zX xs ys <;> simp
theorem WV {n:Ai}{a:D}(ha:Tr n a):∀ {m:Ai} {b:D},Tr m b->uW a b=true->∀ r r':Aa Ak,_H.lexLt (vM a++r) (vM b++r')=if eqD a b=true then _H.lexLt r r' else ltN a b:=by
 induction ha with
 |int n i =>
  intro m b hb hc r r';cases hb with
  |int _ j =>
   show _H.lexLt (1::i::r) (1::j::r')=if (i == j)=true then _ else _H.lexLt [1,i] [1,j]
   simp only[_H.lexLt_cons,Dx,Qh]
   split <;> rfl
  |tup _ ys=>exact Ee hc
 |tup n xs hx ih =>
  intro m b hb hc r r';cases hb with
  |int _ j=>exact Ee hc
  |tup m ys hy =>
   have h:=l5 hx hy (λx hx' y hy' hc'=>ih x hx' (hy y hy') hc') hc r r';show _H.lexLt (2::(zJ xs++r)) (2::(zJ ys++r'))=if zX xs ys=true then _ else _H.lexLt (2::zJ xs) (2::zJ ys)
   rw[_H.lexLt_cons,_H.lexLt_cons,Bp rfl,Bp rfl,h]
theorem KN {xs ys:Aa D}:ltN (.tup xs) (.tup ys)=_H.lexLt (zJ xs) (zJ ys):=by
 show _H.lexLt (2::_) (2::_)=_;rw[_H.lexLt_cons,Bp rfl]
theorem QQ {n m:Ai}{x y:D}{xs ys:Aa D}(hx:Tr n x)(hy:Tr m y)(hc:uW x y=true):_H.lexLt (zJ (x::xs)) (zJ (y::ys))=if eqD x y=true then _H.lexLt (zJ xs) (zJ ys) else ltN x y:=WV hx hy hc _ _
set_option tactic.hygienic true in
theorem KM (i j:Ak):ltN (.int i) (.int j)=decide (i<j):=by
 show _H.lexLt [1,i] [1,j]=_;rw[_H.lexLt_cons,Bp rfl,_H.lexLt_cons]
 split
 .rename_i h;subst h;simp[_H.lexLt_nil_nil]
 .rfl
theorem M7 {n:Ai}{a:D}(ha:Tr n a):eqD a a=true:=by
 induction ha with
 |int n i=>show (i == i)=true;simp
 |tup n xs _ ih =>
  show zX xs xs=true;rw[wG];simp only[Qs,xL,Zm,Ca,Dt];intro j hj;exact ih _ (by simp[HT,hj])
theorem jS:∀ {xs ys:Aa D},uN xs ys=true->∀ {j:Ai} {x y:D},xs[j]? = Ab x->ys[j]? = Ab y->uW x y=true
 |[],_,_,j,x,y,e,_=>by simp at e
 |_::_,[],_,j,x,y,_,e=>by simp at e
 |a::xs,b::ys,h,j,x,y,e1,e2=>by
  have h':(uW a b&&uN xs ys)=true:=h;rw[Bi] at h';cases j with
  |zero=>cases e1;cases e2;exact h'.1
  |succ j=>exact jS h'.2 (j:=j) (by simpa using e1) (by simpa using e2)
end _D
end
namespace _D
open PySem PySem.Spec PyProof.Rows _L PySem.SeqAt
variable {s:Ag}{n:Ai}
def cW (A:Bv)(s:Ag)(u v:Ac)(c:Ar):Prop:=∀ (prog:Be) (w:Bx) (E:Ac->Ag->Prop) (Q:Ac->Ag->Prop),Q (.bool c) s->Ap (Au prog w) A (richCompare .Lt u v) Q E s
inductive LexV (A:Bv)(s:Ag):Aa Ac->Aa Ac->Ar->Prop
 |nn:LexV A s [] [] false
 |nc (v:Ac) (vs:Aa Ac):LexV A s [] (v::vs) true
 |cn (u:Ac) (us:Aa Ac):LexV A s (u::us) [] false
 |eq (u v:Ac) (us vs:Aa Ac) (b:Ar) (he:Ys A s u v true) (h:LexV A s us vs b):LexV A s (u::us) (v::vs) b
 |ne (u v:Ac) (us vs:Aa Ac) (b:Ar) (he:Ys A s u v false) (h:cW A s u v b):LexV A s (u::us) (v::vs) b
section
open PySem.SeqAt
open PySem.AutoSeq1 (wpAny_loadPart')
open PySem.MeetsSeq PySem.MeetsSeq2 PySem.MeetsSeq3
theorem iU (l b:Af)(items items2:Ay Ac)(n n2:Ai)(dd dd2:Am Af)(sl sl2:Ay (Am Ac))(r:Ar) :
  Meets (Ig.«tuple.__lt__» ⟨[.ref l,.ref b],[]⟩)
   (λA R s=>s.heap.get? l=Ab { cls:=.type "tuple",dict:=dd,data:=.seq items n,slots:=sl } /\ s.heap.get? b=Ab { cls:=.type "tuple",dict:=dd2,data:=.seq items2 n2,slots:=sl2 } /\
    LexV A.in1 s items.toList items2.toList r/\R (.ok (.ret (.bool r))) s):=
 .of_wp λprog w A R s h=>by
  obtain⟨hp,g,d,tk,os⟩:=s;obtain⟨hl,hb,hx,h⟩:=h;have f2:=Pr
  wp_walk using wpAny_loadPart' hl,wpAny_loadPart' hb,Kn _ (λqJ b s'=>b.1=none/\s'=⟨hp,g,d,tk,os⟩/\∃ (us vs:Aa Ac),qJ=us.zip vs/\LexV A.in1 ⟨hp,g,d,tk,os⟩ us vs r/\us.length+items2.size=vs.length+items.size) _
  case turn =>
   rintro⟨y,x⟩ qJ b s' ⟨hb',rfl,us,vs,hz,hx',hlen⟩;cases hx' with
   |nn=>cases hz
   |nc v vs=>cases hz
   |cn u us=>cases hz
   |eq u v us vs _ he h' =>
    rw[Jl] at hz;injection hz with hyx hrest
    injection hyx with hy hx
    subst hy hx;refine Ad (he prog w _ _ ?_)
    wp_walk
    exact⟨rfl,rfl,_,_,hrest,h',by simp only[Bd] at hlen;omega⟩
   |ne u v us vs _ he h' =>
    rw[Jl] at hz;injection hz with hyx hrest
    injection hyx with hy hx
    subst hy hx;refine Ad (he prog w _ _ ?_);have hri:=h' prog w
    wp_walk using hri
    exact⟨_,rfl,by simpa using h⟩
  case fin =>
   rintro⟨b1,b2⟩ s' ⟨hb',rfl,us,vs,hz,hx',hlen⟩;simp only at hb';subst hb';have hv:r=decide (items.size<items2.size):=by
    cases hx' with
    |nn=>simp only[Fj] at hlen;exact(Cy om).symm
    |nc v vs=>simp only[Fj,Bd] at hlen;exact(Cp om).symm
    |cn u us=>simp only[Fj,Bd] at hlen;exact(Cy om).symm
    |eq u v us vs _ he h'=>cases hz
    |ne u v us vs _ he h'=>cases hz
   rw[hv] at h
   wp_walk
   exact⟨_,rfl,by simpa [Nm] using h⟩
  case h =>
   exact⟨rfl,rfl,items.toList,items2.toList,rfl,hx,by simp;omega⟩
end
theorem WY {A:Bv}{l b:Af}{items items2:Ay Ac}{r:Ar}(hl:s.heap.IsTuple l items)(hb:s.heap.IsTuple b items2)(hu:A.units<Eg)(h:LexV A.in1 s items.toList items2.toList r):cW A s (.ref l) (.ref b) r:=by
 intro prog w E Q hQ;obtain⟨⟨cls,dd,data,sl⟩,ho,hc,n,hd⟩:=id hl;obtain⟨⟨cls2,dd2,data2,sl2⟩,ho2,hc2,n2,hd2⟩:=id hb;simp only at hc hd hc2 hd2;subst hc hd hc2 hd2;exact Rh (op:=.Lt) ⟨_,ho,rfl⟩ ⟨_,ho2,rfl⟩ Sd Ri (Qr _ _) (iU l b items items2 n n2 dd dd2 sl sl2 r)
  ⟨ho,ho2,h,show Hv r≠Th/\Q (.bool r) s from⟨(λx=>nomatch x),hQ⟩⟩ hu
inductive TrV (h:Br):Ai->D->Ac->Prop
 |int (n:Ai) (i:Ak) (t:Ry):TrV h n (.int i) (.int i t)
 |tup (n:Ai) (a:Af) (xs:Aa D) (its:Aa Ac) (ht:h.IsTuple a its.toArray) (hl:xs.length=its.length) (hs:∀ (j:Ai) (x:D) (v:Ac),xs[j]? = Ab x->its[j]? = Ab v->TrV h n x v):TrV h (n+1) (.tup xs) (.ref a)
theorem TrV.tr {h:Br}{d:D}{v:Ac}(t:TrV h n d v):Tr n d:=by
 induction t with
 |int n i t=>exact .int n i
 |tup n a xs its ht hl hs ih =>
  refine .tup n xs λx hx=>?_;obtain⟨j,hj,e⟩:=Cn.mp hx;exact ih j x (its[j]' om) (by rw[An hj,e]) (An om)
theorem TrV.det {h:Br}{d:D}{v:Ac}(t:TrV h n d v):∀ {m:Ai} {d':D},TrV h m d' v->d=d':=by
 induction t with
 |int n i t=>intro m d' t';cases t' with|int _ _ _=>rfl
 |tup n a xs its ht hl hs ih =>
  intro m d' t';cases t' with
  |tup m _ ys its2 ht2 hl2 hs2 =>
   have e:=t9 ht ht2;have e':its=its2:=by simpa using congrArg Vq e
   subst e';have:xs=ys:=Ks om λj h1 h2=>ih j _ (its[j]' om) (An h1) (An om) (hs2 j _ _ (An h2) (An om));rw[this]
theorem TrV.eq {a:D}{u:Ac}(t:TrV s.heap n a u):∀ {m:Ai} {b:D} {v:Ac} {A:Bv},TrV s.heap m b v->uW a b=true->A.units+n<Eg->Ys A s u v (eqD a b):=by
 induction t with
 |int n i t =>
  intro m b v A t' hc hu;cases t' with
  |int _ j t'=>exact ZB i t j t'
  |tup _ _ _ _ _ _ _=>exact Ee hc
 |tup n a xs its ht hl hs ih =>
  intro m b v A t' hc hu;cases t' with
  |int _ j t'=>exact Ee hc
  |tup m b ys its2 ht2 hl2 hs2 =>
   refine(VP om ht ht2 hl hl2 (λj h1 h2=>?_) λe=>?_).eq
   .have h1':j<its.length:=by simpa using h1
    have h2':j<its2.length:=by simpa using h2
    have e1:xs[j]? = Ab (xs.getD j .non):=by simp[HT,show j<xs.length by omega]
    have e2:ys[j]? = Ab (ys.getD j .non):=by simp[HT,show j<ys.length by omega]
    have f1:its[j]? = Ab its.toArray[j]:=by simp[h1']
    have f2:its2[j]? = Ab its2.toArray[j]:=by simp[h2']
    exact ih j _ _ e1 f1 (hs2 j _ _ e2 f2) (jS hc e1 e2) (by show A.units+1+n<Eg;omega)
   .subst e
    have:=TrV.det (.tup n a xs its ht hl hs) (.tup m a ys its2 ht2 hl2 hs2);injection this with this
    subst this;exact M7 (TrV.tr (.tup n a xs its ht hl hs))
theorem eY {A:Bv}:∀ {xs ys:Aa D} {us vs:Aa Ac} {n m:Ai},xs.length=us.length->ys.length=vs.length->(∀ x∈xs,Tr n x)->(∀ y∈ys,Tr m y)->uN xs ys=true ->
  (∀ (j:Ai) (x y:D) (u v:Ac),xs[j]? = Ab x->ys[j]? = Ab y->us[j]? = Ab u->vs[j]? = Ab v->Ys A s u v (eqD x y)/\cW A s u v (ltN x y))->LexV A s us vs (_H.lexLt (zJ xs) (zJ ys))
 |[],[],[],[],_,_,_,_,_,_,_,_=>.nn
 |[],y::ys,[],v::vs,_,_,_,_,_,h2,_,_=>by
  obtain⟨k,t,e,p⟩:=pB (h2 y (by simp))
  have:_H.lexLt (zJ []) (zJ (y::ys))=true:=by
   rw[wN,e];show _H.lexLt [0] (k::_)=_;rw[_H.lexLt_cons,Bj om];exact Cp p
  rw[this];exact .nc v vs
 |x::xs,[],u::us,[],_,_,_,_,h1,_,_,_=>by
  obtain⟨k,t,e,p⟩:=pB (h1 x (by simp))
  have:_H.lexLt (zJ (x::xs)) (zJ []) = false:=by
   rw[wN,e];show _H.lexLt (k::_) [0]=_;rw[_H.lexLt_cons,Bj om];exact Cy om
  rw[this];exact .cn u us
 |x::xs,y::ys,u::us,v::vs,_,_,l1,l2,h1,h2,hc,h=>by
  have hc':(uW x y&&uN xs ys)=true:=hc;rw[Bi] at hc';obtain⟨e1,e2⟩:=h 0 x y u v rfl rfl rfl rfl;rw[QQ (h1 x (by simp)) (h2 y (by simp)) hc'.1]
  cases hq:eqD x y with
  |true =>
   rw[hq] at e1;exact .eq u v us vs _ e1 (eY (by simpa using l1) (by simpa using l2) (λz hz=>h1 z (by simp[hz])) (λz hz=>h2 z (by simp[hz])) hc'.2 λj a b c d q1 q2 q3 q4=>h (j+1) a b c d (by simpa using q1) (by simpa using q2) (by simpa using q3) (by simpa using q4))
  |false =>
   rw[hq] at e1;exact .ne u v us vs _ e1 e2
 |[],_,_::_,_,_,_,l1,_,_,_,_,_=>by simp at l1
 |_::_,_,[],_,_,_,l1,_,_,_,_,_=>by simp at l1
 |_,[],_,_::_,_,_,_,l2,_,_,_,_=>by simp at l2
 |_,_::_,_,[],_,_,_,l2,_,_,_,_=>by simp at l2
theorem TrV.lt {a:D}{u:Ac}(t:TrV s.heap n a u):∀ {m:Ai} {b:D} {v:Ac} {A:Bv},TrV s.heap m b v->uW a b=true->A.units+n<Eg->cW A s u v (ltN a b):=by
 induction t with
 |int n i t =>
  intro m b v A t' hc hu;cases t' with
  |int _ j t' =>
   intro prog w E Q hQ;rw[KM] at hQ;exact(Om hQ:Ap (Au prog w) A (Co .Lt (.int i t) (.int j t')) Q E s)
  |tup _ _ _ _ _ _ _=>exact Ee hc
 |tup n a xs its ht hl hs ih =>
  intro m b v A t' hc hu;cases t' with
  |int _ j t'=>exact Ee hc
  |tup m b ys its2 ht2 hl2 hs2 =>
   have t1:=TrV.tr (.tup n a xs its ht hl hs);have t2:=TrV.tr (.tup m b ys its2 ht2 hl2 hs2);cases t1 with
   |tup _ _ t1 =>
    cases t2 with
    |tup _ _ t2 =>
     refine WY ht ht2 om ?_;rw[KN];refine eY (by simpa using hl) (by simpa using hl2) t1 t2 hc λj x y u v e1 e2 e3 e4=>?_
     have hu':A.in1.units+n<Eg:=by show A.units+1+n<Eg;omega
     have e3':its[j]? = Ab u:=by simpa using e3
     have e4':its2[j]? = Ab v:=by simpa using e4
     exact⟨(hs j x u e1 e3').eq (hs2 j y v e2 e4') (jS hc e1 e2) hu',ih j x u e1 e3' (hs2 j y v e2 e4') (jS hc e1 e2) hu'⟩
end _D
section
end
section
end
namespace _D
open PySem PySem.Spec PyProof.Rows _L
variable {E Q:Ac->Ag->Prop}
inductive AccT {K:Type}(w:Bx)(hash:K->Ak)(enc:K->D)(Kf:Aj)(P:Hp)(α : Aa Af)(ds:Aa D)(o:Ci):Prop
 |mk (es:Ay (Ak × Ac)) (ep:Ai) (t:Ex) (ks:Aa K) (kv:Aa (K × Ac)) (ho:o=_S.setO es ep t) (T:_S.TabT t es) (led:t.led=_S.xC w) (hds:ds=ks.map enc) (hes:es.toList=kv.map λp=>(hash p.1,p.2)) (nd:(kv.map (·.1)).Nodup) (mem:∀ k,k∈kv.map (·.1)↔k∈ks) (rp:∀ p∈kv,∃ v,qF v p.2/\Rep Kf P α (enc p.1) v):AccT w hash enc Kf P α ds o
section
variable {K:Type}{w:Bx}{hash:K->Ak}{enc:K->D}{Kf:Aj}{P P1:Hp}{α α1:Aa Af}{ds:Aa D}{o:Ci}
theorem AccT.mono (e:qE P P1)(h:α<+:α1)(a:AccT w hash enc Kf P α ds o):AccT w hash enc Kf P1 α1 ds o:=by
 obtain⟨es,ep,t,ks,kv,h1,h2,h3,h4,h5,h6,h7,h8⟩:=a;exact⟨es,ep,t,ks,kv,h1,h2,h3,h4,h5,h6,h7,λp hp=>let ⟨v,a,b⟩:=h8 p hp;⟨v,a,Rep.mono e h _ _ b⟩⟩
theorem AccT.cell (a:AccT w hash enc Kf P α ds o):∀ v,o.data≠.cell v:=by
 obtain⟨es,ep,t,ks,kv,rfl,_⟩:=a;intro v z;cases z
end
@[reducible] def accS {K:Type}(w:Bx)(hash:K->Ak)(enc:K->D):Acc:=⟨true,AccT w hash enc,AccT.mono,AccT.cell⟩
noncomputable def gR (chk:Aa D->Ar)(fe:DE):DK:=λenv S acc=>(fe env S).bind λx S1=>if chk (acc++[x])=true then .ok (env,acc++[x]) S1 else .bad
structure SKd (Y:Cx){K:Type}(is:Br->K->Ac->Prop)(hash:K->Ak)(enc:K->D)(lt:K->K->Ar)(d:K)(Fit:K->Prop)(chk:Aa D->Ar):Prop where
 ad:∀ h,_S.AddS Y.prog Y.w (is h) hash h
 kd:∀ h,_S.Kind Y.prog Y.w (is h) hash lt d Fit h
 up:∀ {pins:Aa (Af × Ci)} {σ : _L.St} {H P:Hp} {s:Ag} {α : Aa Af} {S:Sto} {k:K} {v:V} {u:Ac},Inv Y pins σ H s->Rel Y.K H P α S->qF v u->Rep Y.K P α (enc k) v->is s.heap k u
 inj:∀ {a b:K},enc a=enc b->a=b
 ck:∀ {ds:Aa D},chk ds=true->∃ ks:Aa K,ds=ks.map enc/\(_S.srt lt ks).length<=1000/\∀ k∈ks,Fit k
section
variable {Y:Cx}{K:Type}{is:Br->K->Ac->Prop}{hash:K->Ak}{enc:K->D}{lt:K->K->Ar}{d:K}{Fit:K->Prop}{chk:Aa D->Ar}{pins:Aa (Af × Ci)}{σ : _L.St}{H P:Hp}{s:Ag}{α : Aa Af}{S:Sto}{acc:Af}{es:Ay (Ak × Ac)}{ep:Ai}{t:Ex}{ks:Aa K}{kv:Aa (K × Ac)}{V:Aa Ac}
theorem PY (Z:SKd Y is hash enc lt d Fit chk)(I:Inv Y pins σ H s)(r:Rel Y.K H P α S)(ho:s.heap.get? acc=Ab (_S.setO es ep t))(T:_S.TabT t es)(led:t.led=_S.xC Y.w)(hes:es.toList=kv.map λp=>(hash p.1,p.2))(nd:(kv.map (·.1)).Nodup)(mem:∀ k,k∈kv.map (·.1)↔k∈ks)(rp:∀ p∈kv,∃ v,qF v p.2/\Rep Y.K P α (enc p.1) v)(hV:∀ p∈kv,p.2∈V) :
  _S.SetK (is s.heap) hash acc (_S.xC Y.w) V ks.reverse s.heap:=by
 have up:∀ p∈kv,is s.heap p.1 p.2:=λp hp=>let ⟨v,a,b⟩:=rp p hp;Z.up I r a b
 have inj:=@(Z.kd s.heap).inj;refine⟨⟨es,ep,t,ho,⟨λe he=>?_,?_,λk=>?_⟩,T,led,λe he=>?_⟩⟩
 .rw[hes] at he
  obtain⟨p,hp,rfl⟩:=Aw.mp he;exact⟨p.1,rfl,up p hp⟩
 .rw[hes,Di]
  exact(Di.mp nd).imp_of_mem λ{a b} ha hb hne k h1 h2=>hne ((inj (up a ha) h1).trans (inj h2 (up b hb)))
 .rw[Xr,<- mem k]
  constructor
  .intro h
   obtain⟨p,hp,rfl⟩:=Aw.mp h;exact⟨(hash p.1,p.2),by rw[hes];exact Aw.mpr ⟨p,hp,rfl⟩,up p hp⟩
  .rintro⟨e,he,q⟩
   rw[hes] at he;obtain⟨p,hp,rfl⟩:=Aw.mp he;exact Aw.mpr ⟨p,hp,inj (up p hp) q⟩
 .rw[hes] at he
  obtain⟨p,hp,rfl⟩:=Aw.mp he;exact hV p hp
theorem UQ {h0:Br}{seen:Aa K}(inj:∀ {k k':K} {v:Ac},is h0 k v->is h0 k' v->k=k')(Z0:_S.Set0 (is h0) hash es seen)(T:_S.TabT t es)(led:t.led=_S.xC Y.w)(hm:∀ e∈es.toList,e.2∈V)(hV:∀ u∈V,∃ k v,qF v u/\Rep Y.K P α (enc k) v/\is h0 k u)(hs:∀ k,k∈seen↔k∈ks) :
  AccT Y.w hash enc Y.K P α (ks.map enc) (_S.setO es ep t):=by
 by_cases hd:∃ d:K,Ng
 .obtain⟨d,_⟩:=hd
  have gk:∀ e∈es.toList,is h0 (_S.kOf (is h0) d e) e.2:=λe he=>_S.Q6 (let ⟨k,_,q⟩:=Z0.good e he;⟨k,q⟩)
  refine⟨es,ep,t,ks,es.toList.map λe=>(_S.kOf (is h0) d e,e.2),rfl,T,led,rfl,?_,?_,λk=>?_,λp hp=>?_⟩
  .rw[Do]
   conv=>lhs;rw[<- OR es.toList]
   refine Ov λe he=>?_;obtain⟨k,e1,q⟩:=Z0.good e he;show e=(hash (_S.kOf (is h0) d e),e.2);rw[inj (gk e he) q,<- e1]
  .rw[Do,Uf,Di]
   exact Z0.nd.imp_of_mem λ{a b} ha hb h z=>h _ (gk a ha) (by
    have z:_S.kOf (is h0) d a=_S.kOf (is h0) d b:=z;rw[z];exact gk b hb)
  .rw[Do,<- hs k,Z0.mem k]
   constructor
   .intro h
    obtain⟨e,he,rfl⟩:=Aw.mp h;exact⟨e,he,gk e he⟩
   .rintro⟨e,he,q⟩
    exact Aw.mpr ⟨e,he,inj (gk e he) q⟩
  .obtain⟨e,he,rfl⟩:=Aw.mp hp
   obtain⟨k,v,a,b,c⟩:=hV e.2 (hm e he);exact⟨v,a,by dsimp only;rw[inj (gk e he) c];exact b⟩
 .have e0:es.toList=[]:=by
   cases q:es.toList with
   |nil=>rfl
   |cons e l =>
    obtain⟨k,_⟩:=Z0.good e (by rw[q];exact .head _)
    exact absurd ⟨k,trivial⟩ hd
  have k0:ks=[]:=by
   cases ks with
   |nil=>rfl
   |cons k l=>exact absurd ⟨k,trivial⟩ hd
  subst k0;exact⟨es,ep,t,[],[],rfl,T,led,rfl,e0,Iq,λk=>Iff.rfl,λp hp=>by cases hp⟩
end
theorem X8 {prog:Be}{w:Bx}{A:Bv}{s:Ag}{S:Af}{x:Ac}{es:Ay (Ak × Ac)}{ep:Ai}{t:Ex}(ho:s.heap.get? S=Ab (_S.setO es ep t))(h:Ap (Au prog w) A.in1 (Uw S x) (λ_ s'=>Q .none s') E s):Ap (Au prog w) A (call (.builtin "set.add") [.ref S,x]) Q E s:=by
 refine Ea F.slot_set_add ⟨_,ho,rfl⟩ F.entry_set_add ?_ (F.args_set_add_2 _ _);unfold Ig.«set.add» Zg;simp only[List.isEmpty_nil,bind_assoc];unfold Zv;refine Ad (Al ?_)
 try dsimp only
 refine Ad (Al ?_)
 try dsimp only
 refine Ad (thn h λb s' q=>?_);show Ap _ _ (ret Dn) _ _ _;exact Al ⟨_,rfl,q⟩
theorem KP {prog:Be}{w:Bx}{A:Bv}{E:Ac->Ag->Prop}{s:Ag}(h:Q (.ref s.heap.objs.size) { s with heap:=s.heap.push (_S.set0 w) }) : Ap (Au prog w) A (newSet (.type "set")) Q E s:=by
 unfold newSet Uh;refine Ad (Ad (Il (Al ?_)));dsimp only;simp only[newObj];exact Ad (Xj (Al h))
section
variable {Y:Cx}{K:Type}{is:Br->K->Ac->Prop}{hash:K->Ak}{enc:K->D}{lt:K->K->Ar}{d:K}{Fit:K->Prop}{chk:Aa D->Ar}{elt:Bt}{gens:Aa Dg}{scope:Eo}{pos:Eu}{k:Ai}{fe:DE}
set_option tactic.hygienic true in
theorem YB (hx:Y.xe=λ_ _=>Fd)(hu:Y.A.units+64<Eg)(hlast:gens[k+1]? = none)(Z:SKd Y is hash enc lt d Fit chk)(he:PE Y elt (tD Y fe)):PK (accS Y.w hash enc) Y (λacc=>zF true elt gens scope pos k acc Y.env) (gR chk fe):=by
 intro pins P1 α1 acc env env' S S' ds ds' s hacc ⟨σ,H,P,α,o,st⟩ run;show Ap _ _ (zF true elt gens scope pos k (.ref acc) Y.env) _ _ s;unfold zF;rw[hlast];dsimp only[emX];unfold gR at run;cases q3:fe env S with
 |bad=>rw[q3] at run;cases run
 |ex c z S'=>rw[q3] at run;cases run
 |ok d5 S5 =>
  rw[q3,Res.bind_ok] at run
  split at run
  .rename_i hck
   cases run;have fA:=hacc H st.acn;have I1:=_D.Inv.pin1 st.inv fA st.at' ((accS Y.w hash enc).cell st.acc);refine Ad (j6 (hx▸N0 he I1 st.rel st.env q3) λu5 s5 ⟨v5,H5,P5,α5,G5⟩=>Ad (Jm ?_));obtain⟨J4,J5⟩:=_D.Inv.pinned1 G5.inv;have J1:=G5.inv.unpinned;have sacc:AccT Y.w hash enc Y.K P5 α5 ds o:=AccT.mono G5.same G5.pre st.acc;obtain⟨es,ep,t,ks,kv,rfl,T,led,hds,hes,nd,mem,rp⟩:=sacc;obtain⟨ks',e1,e2,e3⟩:=Z.ck hck;obtain⟨l1,l2,rfl,m1,m2⟩:=List.map_eq_append_iff.mp e1.symm;obtain⟨k0,rfl,rfl⟩:∃ k0,l2=[k0]/\enc k0=d5:=by
    match l2,m2 with
    |[k0],m2=>exact⟨k0,rfl,by simpa using m2⟩
   have hks:l1=ks:=by
    have:l1.map enc=ks.map enc:=m1.trans hds;exact Vn (λa b h=>Z.inj h) |>.mp this
   subst hks;have is0:=Z.up J1 G5.rel G5.val G5.rep;have ord:=(Z.kd s5.heap).ord;have SK:=PY (V:=kv.map (·.2)++[u5]) Z J1 G5.rel J4 T led hes nd mem rp λp hp=>Cj _ (Aw.mpr ⟨p,hp,rfl⟩)
   refine Ad (X8 J4 ((Z.ad s5.heap).add (U:=_S.srt lt (l1++[k0])) (show Y.A.units+1<Eg by lia) (λ_ _ e=>e) SK is0 (Bq _ (.head _)) e2 (λk' hk=>(_S.zE ord _ _).mpr (Cj _ (Xr.mp hk))) ((_S.zE ord _ _).mpr (by simp)) λb h' tk htk sb SK'=>?_))
   obtain⟨es',ep',t',ho',Z0',T',led',hm'⟩:=SK';have fA5:=hacc H5 J5;have keep:∀ b o,b≠acc->s5.heap.get? b=Ab o->h'.get? b=Ab o:=λb o hb e=>(sb.2 b hb).trans e;have I6:=J1.turned (t':=tk) keep J5 fA5.2.1 fA5.2.2.2.1 fA5.2.2.2.2.1 fA5.2.2.2.2.2;refine Al ⟨σ,H5,P5,α5,_,I6,G5.rel,G5.env,st.same.trans G5.same,st.pre.trans G5.pre,λb hb=>(by simp at hb),J5,ho',?_⟩
   have fin:AccT Y.w hash enc Y.K P5 α5 ((l1++[k0]).map enc) (_S.setO es' ep' t'):=UQ (h0:=s5.heap) (λa b=>(Z.kd s5.heap).inj a b) Z0' T' led' hm' (λu hu=>by
    rcases Ce.mp hu with hu|hu
    .obtain⟨p,hp,rfl⟩:=Aw.mp hu
     obtain⟨v,a,b⟩:=rp p hp;exact⟨p.1,v,a,b,Z.up J1 G5.rel a b⟩
    .rw[Cw.mp hu]
     exact⟨k0,v5,G5.val,G5.rep,is0⟩) λk=>by simp[or_comm]
   rw[Fl,<- hds] at fin;exact fin
  .cases run
end
noncomputable def dG (ds:Aa D):Ar:=match w5 ds with
 |some ks=>decide ((_S.srt _H.lexLt ks).length<=1000)&&ks.all λk=>!k.isEmpty
 |none=>false
noncomputable def uV (ds:Aa D):Ar:=match zP ds with
 |some ns=>decide ((_S.srt _S.ltI ns).length<=1000)
 |none=>false
theorem skI (Y:Cx):SKd Y (λ_=>_S.isI Y.prog Y.w) (Bf Y.prog Y.w).hash D.int _S.ltI 0 (λ_=>Ng) uV where
 ad:=_S.o6
 kd:=_S.i7 _ _
 up:=λ{pins σ H P s α S k v u} I r q p=>by
  have p:v=V.int k:=by simpa only [Rep] using p
  subst p;obtain⟨t,rfl⟩:=q;exact Qm _ _ _ _
 inj:=D.int.inj
 ck:=λ{ds} h=>by
  unfold uV at h;cases q:zP ds with
  |none=>rw[q] at h;cases h
  |some ks =>
   rw[q] at h;exact⟨ks,yA q,Cf h,λ_ _=>trivial⟩
noncomputable def aL (f:Aa D->Sto->Res D)(r:Res (qC × Aa D)):Res D:=match r with
 |.ok p S2=>f p.2 S2
 |_=>.bad
def lN (f:Aa D->Sto->Res D)(cap:Aa (Am Ai))(fi:DI2)(g:DG)(t:DT)(k:DK):DE:=λenv S=>(fi env S).bind λp S1=>aL f (goL p.1 g t k p.2 (zR cap env) S1 [])
noncomputable def pF (ds:Aa D)(S:Sto):Res D:=if uV ds=true then (match zP ds with|some ns=>.ok (.int ((_S.srt _S.ltI ns).length:Ai)) S|none=>.bad) else .bad
section
variable {X:Cx}{K:Type}{is:Br->K->Ac->Prop}{hash:K->Ak}{enc:K->D}{lt:K->K->Ar}{d:K}{Fit:K->Prop}{chk:Aa D->Ar}{elt tg iter:Bt}{ifs:Aa Bt}{scope:Eo}{pos:Eu}{N':Aa Av}{cap:Aa (Am Ai)}{fi:DI2}{g:DG}{t:DT}{kk:DK}{qJ:Aa Dg}
inductive SetEnd (X:Cx){K:Type}(hash:K->Ak)(enc:K->D)(pins:Aa (Af × Ci))(σ : _L.St)(P1:Hp)(α1:Aa Af)(ds:Aa D)(SF:Sto)(acc:Af)(s:Ag):Prop
 |mk (H' P':Hp) (α' : Aa Af) (o:Ci) (I:Inv X pins σ H' s) (r:Rel X.K H' P' α' SF) (e1:qE P1 P') (e2:α1<+:α') (ho:s.heap.get? acc=Ab o) (a:AccT X.w hash enc X.K P' α' ds o):SetEnd X hash enc pins σ P1 α1 ds SF acc s
theorem PZ {pins:Aa (Af × Ci)}{σ σ':_L.St}{H2:Hp}{s2 s':Ag}{fp:Aa Af}{acc C:Af}{P1:Hp}{α1:Aa Af}{H' P':Hp}{α':Aa Af}{envF:qC}{SF:Sto}{ds:Aa D}{o:Ci}{cl:Aa (Av × Af)}(I2:Inv X pins σ H2 s2)
  (hf:∀ b∈fp,x5 X pins H2 b) (hC:s2.heap.objs.size<=C) (hne:acc≠C) (st:TurnSt (accS X.w hash enc) (qN X N' scope cl C fp s2 H2) [] P1 α1 fp acc envF SF ds s' σ' H' P' α' o)
  {h':Br} (sb:Ep C s'.heap h'):SetEnd X hash enc pins σ P1 α1 ds SF acc { s' with heap:=h' }:=by
 have kC:∀ b o,b≠C->s'.heap.get? b=Ab o->h'.get? b=Ab o:=λb o hb e=>(sb.2 b hb).trans e;have nC:∀ b o,s2.heap.get? b=Ab o->b≠C:=λb o e=>Cq (Bc (Az e) hC);have base:Un (frs X.stack) fp H2 H' s2.heap s'.heap:=st.inv.base;have un:Un (frs X.stack) fp H2 H' s2.heap h':=by
  refine⟨λb ob q hn hb hx=>kC b ob (nC b ob q) (base.keep b ob q hn hb hx),λb ob q hn hb hx=>?_,base.free,λb ob q hx=>?_,base.tups,base.frzs,base.tbls⟩
  .obtain⟨sl,e⟩:=base.slot b ob q hn hb hx
   exact⟨sl,kC b _ (nC b ob q) e⟩
  .obtain⟨o',e⟩:=base.there b ob q hx
   exact⟨o',kC b o' (nC b ob q) e⟩
 have hok':HOk X.prog X.w H' h':=nZ st.inv.hok st.inv.free kC;refine⟨H',P',α',o,?_,st.rel,st.same,st.pre,kC acc o hne st.at',st.acc⟩;exact I2.call' (s':={ s' with heap:=h' }) (ch:=fp) (st.inv.os) un hok' st.inv.bare λb hb=>by
  obtain⟨_,h1,h2,h3,h4,h5⟩:=hf b hb;exact⟨h3,h1,h4,h5⟩
theorem YY {f:Aa D->Sto->Res D}{pins:Aa (Af × Ci)}{s:Ag}{σ:_L.St}{H P:Hp}{α:Aa Af}{env:qC}{S0:Sto}{Q:VK}{Qp:Ac->Ag->Prop}(hc:X.calm=true)(S:CompSc X.env.scope X.N scope N' cap)(hi:PI X tg iter (tDI2 X fi))
  (hg:∀ cl C ex s₀ H₀,PG (qN X N' scope cl C ex s₀ H₀) tg (tDG (qN X N' scope cl C ex s₀ H₀) g))
  (ht:∀ cl C ex s₀ H₀,PTs (qN X N' scope cl C ex s₀ H₀) ifs t) (has:∀ g',(⟨tg,iter,ifs,0⟩::qJ:Aa Dg)[0+1]? = Ab g'->g'.is_async=0) (he:∀ cl C ex s₀ H₀,PK (accS X.w hash enc) (qN X N' scope cl C ex s₀ H₀) (λacc=>zF true elt (⟨tg,iter,ifs,0⟩::qJ) scope pos 0 acc (qN X N' scope cl C ex s₀ H₀).env) kk)
  (I:Inv X pins σ H s) (r:Rel X.K H P α S0) (re:qY X.K P α σ env) (af:qG X P α (lN f cap fi g t kk env S0) (OkV X P α Q)) (hs:∀ x,Dz iter X.env x=pure x)
  (hQ:∀ acc s' P1 α1 ds SF,qE P P1->α<+:α1->SetEnd X hash enc pins σ P1 α1 ds SF acc s'->qG X P α (f ds SF) (OkV X P α Q)->Qp (.ref acc) s') :
  Ap (Au X.prog X.w) X.A (eval (.SetComp elt (⟨tg,iter,ifs,0⟩::qJ) scope pos) X.env) Qp X.xe s:=by
 rw[arm_eval_SetComp];have af':qG X P α ((fi env S0).bind λp S1=>aL f (goL p.1 g t kk p.2 (zR cap env) S1 [])) (OkV X P α Q):=af;refine Ls (use:=none) rfl hs (mL S I.ok) S.kind S.names ?_;refine thn (hi pins s σ H (λJ H1=>∃ (P1:Hp) (α1:Aa Af) (p:Am (Ai × MO) × Aa _D.D) (S1:Sto),Rel X.K H1 P1 α1 S1/\qE P P1/\α<+:α1/\ItD2 X.K J P1 α1 p.1 p.2/\qG X P α (aL f (goL p.1 g t kk p.2 (zR cap env) S1 [])) (OkV X P α Q)) I ⟨P,α,env,S0,r,re,?_⟩) λxv s1 h1=>thn h1 λitv s2 h2=>?_
 .cases q:fi env S0 with
  |bad=>rw[q] at af';exact af'
  |ex c x S'=>rw[q] at af';exact af'
  |ok p S1=>rw[q] at af';exact λJ H1 P1 α1 r1 e1 e2 it=>⟨P1,α1,p,S1,r1,e1,e2,it,af'⟩
 obtain⟨it,fp,tn,J,H2,rfl,I2,T,st0,hf,P1,α1,p,S1,r1,e1,e2,hit,af1⟩:=h2;cases run:goL p.1 g t kk p.2 (zR cap env) S1 [] with
 |bad=>rw[run] at af1;exact Aq af1
 |ex c x S'=>rw[run] at af1;exact Aq af1
 |ok q SF =>
  obtain⟨envF,ds⟩:=q;rw[run] at af1;refine KP (uX (B:=accS X.w hash enc) (o0:=_S.set0 X.w) (RR:=λacc C=>compPost (Au X.prog X.w) X.A X.xe none Qp acc C) hc S has hg ht he I2 r1 (re.mono e1 e2) T st0 hf hit run ⟨_,_,_,[],[],rfl,_S.gX X.w,rfl,rfl,rfl,Iq,λ_=>Iff.rfl,λp hp=>by cases hp⟩ rfl ?_)
  intro acc C s' hA ⟨m,hm⟩ hC hne ⟨cl,σf,Hf,Pf,αf,of,stf⟩;exact⟨m,hm,λh' sb=>hQ _ _ _ _ _ _ e1 e2 (PZ I2 hf hC hne stf sb) af1⟩
theorem bV {α:Type}{a b:Aa α}(ha:a.Nodup)(hb:b.Nodup)(h:∀ x,x∈a↔x∈b):a.length=b.length:=((ON ha hb).mpr h).length_eq
set_option tactic.hygienic true in
theorem oP {p1 pos1:Eu}(hc:X.calm=true)(hg0:Gl X "len")(hm0:X.mg "len" = none)(S:CompSc X.env.scope X.N scope N' cap)(hi:PI X tg iter (tDI2 X fi))
  (hg:∀ cl C ex s₀ H₀,PG (qN X N' scope cl C ex s₀ H₀) tg (tDG (qN X N' scope cl C ex s₀ H₀) g))
  (ht:∀ cl C ex s₀ H₀,PTs (qN X N' scope cl C ex s₀ H₀) ifs t) (has:∀ g',(⟨tg,iter,ifs,0⟩::qJ:Aa Dg)[0+1]? = Ab g'->g'.is_async=0) (he:∀ cl C ex s₀ H₀,PK (accS X.w (Bf X.prog X.w).hash D.int) (qN X N' scope cl C ex s₀ H₀) (λacc=>zF true elt (⟨tg,iter,ifs,0⟩::qJ) scope pos 0 acc (qN X N' scope cl C ex s₀ H₀).env) kk)
  (hs:∀ x,Dz iter X.env x=pure x):PE X (.Call (.Name "len" p1) [.SetComp elt (⟨tg,iter,ifs,0⟩::qJ) scope pos] [] pos1) (tD X (lN pF cap fi g t kk)):=by
 intro pins s σ H Q I h;obtain⟨P,α,env,S0,r,re,af⟩:=h;refine Hr (wI I hg0 hm0 oB ?_);refine Hw ?_ rfl rfl;refine Iu ?_;refine YY (f:=pF) hc S hi hg ht has he I r re af hs λacc s' P1 α1 ds SF e1 e2 ⟨H',P',α',o,I',r',e1',e2',ho,a⟩ af1=>IR ?_;obtain⟨es,ep,t,ks,kv,rfl,T,led,hds,hes,nd,mem,rp⟩:=a;unfold pF at af1
 split at af1
 .rename_i hck
  obtain⟨ks',k1,k2,k3⟩:=(skI X).ck hck;have hkk:ks'=ks:=(Vn λa b h=>(skI X).inj h).mp (k1.symm.trans hds);subst hkk;rw[hds,xP] at af1;have hz:es.size=(_S.srt _S.ltI ks').length:=by
   have h1:es.size=(kv.map (·.1)).length:=by rw[<- Bg,hes,Ao,Ao]
   rw[h1];refine bV nd ((_S.wZ _S.zY ks').imp λ{a b} h z=>?_) λx=>by rw[mem,_S.zE _S.zY]
   subst z;rw[_S.zY.irr] at h;cases h
  refine call_len_set ho ⟨rfl,rfl,rfl⟩ rfl T.fits (by rw[hz];lia) ?_
  rw[hz];exact⟨.int _,H',I'.tok _,⟨_,rfl⟩,af1 _ H' P' α' r' (e1.trans e1') (e2.trans e2') (by simp only[Rep])⟩
 .exact Aq af1
end
section
variable {X Y:Cx}{elt tg iter:Bt}{ifs:Aa Bt}{scope:Eo}{pos:Eu}{cap:Aa (Am Ai)}{f2:DI2}{dg:DG}{t:DT}{kk:DK}{grest gens:Aa Dg}{k n:Ai}{fe:DE}{cm:Ar}
theorem YL {w:Bx}{pg:Be}(hw:Y.w=w)(hp:Y.prog=pg)(hx:Y.xe=λ_ _=>Fd)(hlast:gens[k+1]? = none)(hr:RoomC cm n Y.A)(he:QE Y elt fe):QK (accS w (Bf pg w).hash D.int) Y (λacc=>zF true elt gens scope pos k acc Y.env) (gR uV fe):=by
 subst hw hp;exact⟨YB hx hr.units hlast (skI Y) he.1⟩
theorem GV {p1 pos1:Eu}(S:Ck (f7 X.env.scope X.N scope cap))(hc:X.calm=true)(hg0:Gl X "len")(hm0:X.mg "len" = none)(hi:QI2 X tg iter f2)(hg:∀ cl C ex s₀ H₀,QG (qN X (xS scope) scope cl C ex s₀ H₀) tg dg)(ht:∀ cl C ex s₀ H₀,QTs (qN X (xS scope) scope cl C ex s₀ H₀) ifs t)
  (has:∀ g',(⟨tg,iter,ifs,0⟩::grest:Aa Dg)[0+1]? = Ab g'->g'.is_async=0)
  (he:∀ cl C ex s₀ H₀,QK (accS X.w (Bf X.prog X.w).hash D.int) (qN X (xS scope) scope cl C ex s₀ H₀) (λacc=>zF true elt (⟨tg,iter,ifs,0⟩::grest) scope pos 0 acc (qN X (xS scope) scope cl C ex s₀ H₀).env) kk) (hs:∀ x,Dz iter X.env x=pure x) :
  QE X (.Call (.Name "len" p1) [.SetComp elt (⟨tg,iter,ifs,0⟩::grest) scope pos] [] pos1) (lN pF cap f2 dg t kk):=
 ⟨oP hc hg0 hm0 (bI S) hi.1 (λcl C ex s H=>(hg cl C ex s H).1) (λcl C ex s H=>(ht cl C ex s H).1) has (λcl C ex s H=>(he cl C ex s H).1) hs⟩
end
end _D
section
end
namespace _D
open PySem
variable {n:Ai}{lo hi:Am Ak}{F:DF}{gs:DGs}{S1:Sto}
def Ok {β:Type}(r:Res β)(Q:β->Sto->Prop):Prop:=∃ d S,r=.ok d S/\Q d S
theorem qL {β:Type}{r:Res β}{Q:β->Sto->Prop}{d:β}{S:Sto}(h:r=.ok d S)(q:Q d S):Ok r Q:=⟨d,S,h,q⟩
theorem k9 {fe:DE}{env:qC}{S:Sto}{acc:Aa D}{x:D}(h:fe env S=.ok x S1)(hl:acc.length<lim):zH fe env S acc=.ok (env,acc++[x]) S1:=by
 unfold zH;rw[h];simp[Res.bind,hl]
theorem uO {cap:Aa (Am Ai)}{fi:DI2}{g:DG}{t:DT}{k:DK}{env env':qC}{S S':Sto}{o:Am (Ai × MO)}{items ds:Aa D}(h:fi env S=.ok (o,items) S1)(e:goL o g t k items (zR cap env) S1 [] = .ok (env',ds) S'):zB false cap fi g t k env S=.ok (.lst ds) S':=by
 unfold zB;rw[h];simp only[Res.bind,e,mkM];rfl
theorem pJ {α β:Type}(sel:α->Ar)(val:α->β)(l:Aa α) : (l.flatMap λd=>if sel d then [val d] else []) = (l.filter sel).map val:=by
 induction l with
 |nil=>rfl
 |cons d l ih =>
  rw[Gy,ih];cases h:sel d <;> simp[h]
theorem goT {α:Type}{enc:α->D}{o:Am (Ai × MO)}{g:DG}{t:DT}{k:DK}(out:α->Aa D)(C:qC->Sto->Prop)(hC:∀ env S,C env S->stn o S) :
  ∀ (xs:Aa α) (env:qC) (S:Sto) (acc:Aa D),C env S->acc.length+(xs.flatMap out).length<=lim ->
  (∀ x∈xs,∀ env S acc,C env S->acc.length+(out x).length<=lim->∃ env1 S1 b S2,g (enc x) env S=.ok env1 S1/\t env1 S1=.ok b S2/\((b=false/\out x=[]/\C env1 S2)\/(b=true/\∃ env3 S3,k env1 S2 acc=.ok (env3,acc++out x) S3/\C env3 S3))) ->
  ∃ env' S',goL o g t k (xs.map enc) env S acc=.ok (env',acc++xs.flatMap out) S'/\C env' S'
 |[],env,S,acc,h,hl,_=>⟨env,S,by simp[goL,w4.mpr (hC _ _ h)],h⟩
 |x::xs,env,S,acc,h,hl,step=>by
  rw[Gy,Ct] at hl;obtain⟨env1,S1,b,S2,e1,e2,r⟩:=step x (Dl ..) env S acc h om;have hst:=w4.mpr (hC _ _ h);rcases r with⟨rfl,h0,h2⟩|⟨rfl,env3,S3,e3,h3⟩
  .obtain⟨env',S',e,q⟩:=goT out C hC xs env1 S2 acc h2 om λd hd=>step d (Cg _ hd)
   refine⟨env',S',?_,q⟩;simp only[De,goL,hst,Dx,e1,e2,Res.bind,By,Ef,Gy,h0,Jv];exact e
  .obtain⟨env',S',e,q⟩:=goT out C hC xs env3 S3 (acc++out x) h3 (by rw[Ct];omega) λd hd=>step d (Cg _ hd)
   refine⟨env',S',?_,q⟩;simp only[De,goL,hst,Dx,e1,e2,Res.bind,e3,Gy];rw[e,Cc]
section
variable {α β:Type}{enc:α->D}{enc2:β->D}{cap:Aa (Am Ai)}{fi:DI2}{g:DG}{t:DT}{fe:DE}{env:qC}{S S0:Sto}{o:Am (Ai × MO)}{xs:Aa α}
theorem SI (hst:stn o S)(sel:α->Ar)(val:α->D)(C:qC->Prop)(h0:C env)(hl:xs.length<=lim)
  (step:∀ x∈xs,∀ env,C env->∃ env1,g (enc x) env S=.ok env1 S/\C env1/\t env1 S=.ok (sel x) S/\(sel x=true->fe env1 S=.ok (val x) S)) :
  ∃ env',goL o g t (zH fe) (xs.map enc) env S [] = .ok (env',(xs.filter sel).map val) S:=by
 have lf:(xs.flatMap λd=>if sel d then [val d] else []).length<=lim:=by
  rw[pJ,Ao];exact Dh (Kh _ _) hl
 obtain⟨env',S',e,_,q⟩:=goT (enc:=enc) (o:=o) (g:=g) (t:=t) (k:=zH fe) (λd=>if sel d then [val d] else []) (λenv S'=>C env/\S'=S) (λ_ _ h=>h.2▸hst) xs env S [] ⟨h0,rfl⟩ (by simpa using lf) (λd hd env S' acc hC hl=>by
  obtain⟨hc,rfl⟩:=hC;obtain⟨env1,e1,c1,e2,k⟩:=step d hd env hc;refine⟨env1,S',sel d,S',e1,e2,?_⟩;cases hs:sel d with
  |false=>exact .inl ⟨rfl,by simp,c1,rfl⟩
  |true =>
   refine .inr ⟨rfl,env1,S',?_,c1,rfl⟩;simp only[Dx];exact k9 (k hs) (by simp only[hs,Dx,Iy] at hl;omega))
 subst q;refine⟨env',?_⟩;rw[e,Jv,pJ]
theorem UU (h:fi env S=.ok (o,xs.map enc) S)(hst:stn o S)(sel:α->Ar)(val:α->D)(C:qC->Prop)(h0:C (zR cap env))(hl:xs.length<=lim)
  (step:∀ x∈xs,∀ env,C env->∃ env1,g (enc x) env S=.ok env1 S/\C env1/\t env1 S=.ok (sel x) S/\(sel x=true->fe env1 S=.ok (val x) S)) :
  zB false cap fi g t (zH fe) env S=.ok (.lst ((xs.filter sel).map val)) S:=by
 obtain⟨env',e⟩:=SI hst sel val C h0 hl step;exact uO h e
theorem mM {fi2:DI2}{g2:DG}{t2:DT}{o2:Am (Ai × MO)}(h:fi env S=.ok (o,xs.map enc) S)(hst:stn o S)(hst2:stn o2 S)(ys:α->Aa β)(sel:α->β->Ar)(val:α->β->D)(C:qC->Prop)(C2:α->qC->Prop)(h0:C (zR cap env))(hC2:∀ x env,C2 x env->C env)
  (hl:(xs.flatMap λx=>((ys x).filter (sel x)).map (val x)).length<=lim)
  (step:∀ x∈xs,∀ env,C env->∃ env1,g (enc x) env S=.ok env1 S/\C2 x env1/\t env1 S=.ok true S/\fi2 env1 S=.ok (o2,(ys x).map enc2) S)
  (step2:∀ x∈xs,∀ y∈ys x,∀ env,C2 x env->∃ env1,g2 (enc2 y) env S=.ok env1 S/\C2 x env1/\t2 env1 S=.ok (sel x y) S/\(sel x y=true->fe env1 S=.ok (val x y) S)) :
  zB false cap fi g t (kIn fi2 g2 t2 (zH fe)) env S=.ok (.lst (xs.flatMap λx=>((ys x).filter (sel x)).map (val x))) S:=by
 obtain⟨env',S',e,_,q⟩:=goT (enc:=enc) (o:=o) (g:=g) (t:=t) (k:=kIn fi2 g2 t2 (zH fe)) (λx=>((ys x).filter (sel x)).map (val x)) (λenv S'=>C env/\S'=S) (λ_ _ h=>h.2▸hst) xs (zR cap env) S [] ⟨h0,rfl⟩ (by simpa using hl) (λd hd env S' acc hC hl=>by
  obtain⟨hc,rfl⟩:=hC;obtain⟨env1,e1,c1,e2,e3⟩:=step d hd env hc;obtain⟨env2,S2,e4,q,r⟩:=goT (enc:=enc2) (o:=o2) (g:=g2) (t:=t2) (k:=zH fe) (λx=>if sel d x then [val d x] else []) (λenv S''=>C2 d env/\S''=S') (λ_ _ h=>h.2▸hst2) (ys d) env1 S' acc ⟨c1,rfl⟩ (by rw[pJ];exact hl) (λx hx env S'' acc hC hl=>by
   obtain⟨hc,rfl⟩:=hC;obtain⟨env3,f1,f2,f3,f4⟩:=step2 d hd x hx env hc;refine⟨env3,S'',sel d x,S'',f1,f3,?_⟩;cases hs:sel d x with
   |false=>exact .inl ⟨rfl,by simp,f2,rfl⟩
   |true =>
    refine .inr ⟨rfl,env3,S'',?_,f2,rfl⟩;simp only[Dx];exact k9 (f4 hs) (by simp only[hs,Dx,Iy] at hl;omega))
  subst r;refine⟨env1,S2,true,S2,e1,e2,.inr ⟨rfl,env2,S2,?_,hC2 d _ q,rfl⟩⟩;unfold kIn;rw[e3];simp only[Res.bind];rw[e4,pJ])
 subst q;have:=uO (cap:=cap) h e
 rwa [Jv] at this
end
theorem f6 {f1:DE}{env:qC}{S:Sto}{a:D}(h1:f1 env S=.ok a S1):qH 1 F (q8 f1 (qA)) env S=F [a] S1:=by
 simp only[qH,q8,qA,h1,Res.bind,Bd,Fj,Dx]
theorem E5 {f:DE}{env:qC}{S:Sto}{b:Ar}(h:f env S=.ok (.bl b) S1):dTr f env S=.ok b S1:=by
 unfold dTr;rw[h];rfl
theorem FC {f1 f2:DE}{env:qC}{S S2:Sto}{a b:D}(h1:f1 env S=.ok a S1)(h2:f2 env S1=.ok b S2):q8 f1 (q8 f2 (qA)) env S=.ok [a,b] S2:=by
 simp only[q8,qA,h1,h2,Res.bind]
theorem p6 {env:qC}{i:Ai}{d:D}{S:Sto}(h:env[i]? = Ab (Ab d)):q9 i env S=.ok d S:=by simp only[q9,h]
theorem oA {α:Type}(p:α->Ar)(l:Aa α) : wF (l.map λx=>D.bl (p x))=Ab (l.map p):=by
 induction l with
 |nil=>rfl
 |cons x l ih =>
  show (wF (l.map λx=>D.bl (p x))).map (p x::·)=_
  rw[ih];rfl
section
variable {β γ:Type}{env:qC}{S:Sto}
theorem qS {r:Res β}{k:β->Sto->Res γ}{Q:γ->Sto->Prop}(h:Ok r λd S1=>Ok (k d S1) Q):Ok (r.bind k) Q:=by
 obtain⟨d,S1,rfl,h⟩:=h;exact h
theorem zS {r:Res β}{d:β}(h:Ok r λd' S'=>d'=d/\S'=S):r=.ok d S:=by
 obtain⟨_,_,e,rfl,rfl⟩:=h;exact e
theorem zI {r:Res β}{Q Q':β->Sto->Prop}(h:Ok r Q)(k:∀ d S,Q d S->Q' d S):Ok r Q':=by
 obtain⟨d,S,e,q⟩:=h;exact⟨d,S,e,k d S q⟩
variable {Q:D->Sto->Prop}{f g:DE}{fa:DA}{o:G2}{i j:Ai}
theorem o_c {d:D}(h:Q d S):Ok (dC d env S) Q:=⟨_,_,rfl,h⟩
theorem o_v {d:D}(e:env[i]? = Ab (Ab d))(h:Q d S):Ok (q9 i env S) Q:=⟨_,_,p6 e,h⟩
theorem o_2 (h:Ok (f env S) λa S1=>Ok (g env S1) λb S2=>Ok (o a b S2) Q):Ok (d2 o f g env S) Q:=qS (zI h λ_ _=>qS)
theorem o_1 {u:D->Sto->Res D}(h:Ok (f env S) λa S1=>Ok (u a S1) Q):Ok (d1 u f env S) Q:=qS h
theorem iE {Q:Aa D->Sto->Prop}(h:Q [] S):Ok (qA env S) Q:=⟨_,_,rfl,h⟩
theorem gU {Q:Aa D->Sto->Prop}(h:Ok (f env S) λa S1=>Ok (fa env S1) λas S2=>Q (a::as) S2):Ok (q8 f fa env S) Q:=qS (zI h λ_ _ k=>qS (zI k λ_ _ q=>⟨_,_,rfl,q⟩))
theorem AE (h:Ok (fa env S) λas S1=>as.length<=lim/\Q (.tup as) S1):Ok (wW fa env S) Q:=qS (zI h λ_ _ k=>⟨_,_,Bp k.1,k.2⟩)
theorem R4 (h:Ok (fa env S) λas S1=>as.length<=lim/\Q (.lst as) S1):Ok (gL fa env S) Q:=qS (zI h λ_ _ k=>⟨_,_,Bp k.1,k.2⟩)
theorem CT (h:Ok (fa env S) λas S1=>as.length<=lim/\Q (.loc S1.length) (S1++[.lst as])):Ok (fD fa env S) Q:=qS (zI h λ_ _ k=>⟨_,_,Bp k.1,k.2⟩)
theorem A4 (h:Q (.loc S.length) (S++[.dct []])) : Ok (aI env S) Q:=⟨_,_,rfl,h⟩
theorem MZ (h:Ok (fa env S) λas S1=>as.length=n/\Ok (F as S1) Q):Ok (qH n F fa env S) Q:=qS (zI h λ_ _ k=>by rw[Bp k.1];exact k.2)
theorem A9 {as:Aa D}(h:Ok (F as S) Q):Ok (okO F as S) Q:=by
 obtain⟨d,S1,e,q⟩:=h;exact⟨d,S1,sM e,q⟩
theorem AM (h:Ok (fa env S) λas S1=>Ok (F as S1) Q):Ok (qU F fa env S) Q:=qS h
theorem A3 {a b:Ak}(h:Q (.int (a+b)) S):Ok (xA (.int a) (.int b) S) Q:=⟨_,_,rfl,h⟩
theorem sJ {a b:Aa D}(l:a.length+b.length<=lim)(h:Q (.tup (a++b)) S):Ok (xA (.tup a) (.tup b) S) Q:=⟨_,_,Bp l,h⟩
theorem MY {a b:Aa D}(l:a.length+b.length<=lim)(h:Q (.lst (a++b)) S):Ok (xA (.lst a) (.lst b) S) Q:=⟨_,_,Bp l,h⟩
theorem AC {a b:Ak}(h:Q (.int (a-b)) S):Ok (wB (.int a) (.int b) S) Q:=⟨_,_,rfl,h⟩
theorem A8 {a:Ak}(h:Q (.int (-a)) S):Ok (yT (.int a) S) Q:=⟨_,_,rfl,h⟩
theorem A7 {a b:Ak}(l : -(2 ^ 64)<a/\a<2 ^ 64)(h:Q (.int (a*b)) S):Ok (xF (.int a) (.int b) S) Q:=by
 refine⟨_,_,?_,h⟩;unfold xF i2;rw[dD];unfold dB;simp only[l,and_self,Jf,Zy,Dx]
theorem A6 {a b:Ak}(l:0<b)(h:Q (.int (a % b)) S):Ok (u9 (.int a) (.int b) S) Q:=by
 refine⟨_,_,?_,h⟩;unfold u9 i2;simp[l]
theorem A5 {a b:Ak}(l:0<b/\b<1073741824)(h:Q (.int (a/b)) S):Ok (bN (.int a) (.int b) S) Q:=by
 refine⟨_,_,?_,h⟩;unfold bN i2 F1;simp[l]
theorem AX {a b:Ak}(h:Q (.bl (decide (a<b))) S):Ok (gLt (.int a) (.int b) S) Q:=⟨_,_,rfl,h⟩
theorem AW {a b:Ak}(h:Q (.bl (decide (a<=b))) S):Ok (gLe (.int a) (.int b) S) Q:=⟨_,_,rfl,h⟩
theorem AV {a b:Ak}(h:Q (.bl (decide (b<a))) S):Ok (gGt (.int a) (.int b) S) Q:=⟨_,_,rfl,h⟩
theorem AS {a b:Ak}(h:Q (.bl (decide (b<=a))) S):Ok (gGe (.int a) (.int b) S) Q:=⟨_,_,rfl,h⟩
theorem AQ {a b:Ak}(h:Q (.bl (decide (a=b))) S):Ok (gEq (.int a) (.int b) S) Q:=⟨_,_,by kernel_rfl!,h⟩
theorem AY {a b:Ak}(h:Q (.bl (!decide (a=b))) S):Ok (gNe (.int a) (.int b) S) Q:=⟨_,_,by kernel_rfl!,h⟩
theorem kH {a:Aa D}{k:Ak}{d:D}(e:_L.atI a k=Ab d)(h:Q d S):Ok (gIx (.tup a) (.int k) S) Q:=⟨d,S,by show _D.yV (_L.atI a k) S=_;rw[e];rfl,h⟩
theorem iD {a:Aa D}{k:Ak}{d:D}(e:_L.atI a k=Ab d)(h:Q d S):Ok (gIx (.lst a) (.int k) S) Q:=⟨d,S,by show _D.yV (_L.atI a k) S=_;rw[e];rfl,h⟩
theorem CS {a:Aa D}(h:Q (.int a.length) S):Ok (xE [.tup a] S) Q:=⟨_,_,rfl,h⟩
theorem CQ {a:Aa D}(h:Q (.int a.length) S):Ok (xE [.lst a] S) Q:=⟨_,_,rfl,h⟩
theorem CW {a:Aa D}(h:Q (.tup a) S):Ok (v8 [.lst a] S) Q:=⟨_,_,rfl,h⟩
theorem lV (h:Ok (f env S) λd S1=>∃ b,d=.bl b/\(b=true->Ok (g env S1) Q)/\(b=false->Q (.bl false) S1)):Ok (gK f g env S) Q:=qS (zI h λd S1 ⟨b,e,k1,k2⟩=>by
 subst e;cases b with
 |true=>exact k1 rfl
 |false=>exact⟨_,_,rfl,k2 rfl⟩)
theorem IB {fl fh:DO}(h:Ok (f env S) λd S1=>Ok (fl env S1) λlo S2=>Ok (fh env S2) λhi S3=>Ok (gSl d lo hi S3) Q):Ok (dSl f fl fh env S) Q:=qS (zI h λ_ _ k=>qS (zI k λ_ _=>qS))
theorem AB {a:Aa D}(h:Q (.tup (xK a lo hi)) S):Ok (gSl (.tup a) lo hi S) Q:=⟨_,_,rfl,h⟩
theorem AA {a:Aa D}(h:Q (.lst (xK a lo hi)) S):Ok (gSl (.lst a) lo hi S) Q:=⟨_,_,rfl,h⟩
theorem AN {Q:Am Ak->Sto->Prop}(h:Q none S):Ok (xU env S) Q:=⟨_,_,rfl,h⟩
theorem AO {Q:Am Ak->Sto->Prop}(h:Ok (f env S) λd S1=>∃ k,d=.int k/\Q (Ab k) S1):Ok (x9 f env S) Q:=qS (zI h λ_ _ ⟨_,e,q⟩=>by subst e;exact⟨_,_,rfl,q⟩)
theorem AL {T:Et}{m:D->Aa D->Sto->Res D}(h:Ok (f env S) λa S1=>tyD a S1=Ab T/\Ok (fa env S1) λas S2=>Ok (m a as S2) Q):Ok (dBm T m f fa env S) Q:=qS (zI h λ_ _ k=>by rw[k.1,Bp (by simp)];exact qS k.2)
theorem SX {xs:Aa D}{d:D}(e:S[i]? = Ab (.lst xs))(l:xs.length<lim)(h:Q .non (S.set i (.lst (xs++[d])))):Ok (wR (.loc i) [d] S) Q:=by
 refine⟨_,_,?_,h⟩;show (match S[i]? with|some (.lst xs)=>(if xs.length<lim then Res.ok D.non (S.set i (.lst (xs++[d]))) else .bad)|_=>.bad)=_
 rw[e];exact Bp l
theorem HQ {t:DT}(h:Ok (t env S) λb S1=>(b=true->Ok (f env S1) Q)/\(b=false->Ok (g env S1) Q)):Ok (dIf t f g env S) Q:=qS (zI h λb S1 k=>by
 cases b with
 |true=>exact k.1 rfl
 |false=>exact k.2 rfl)
variable {Q:Ar->Sto->Prop}{t u:DT}
theorem IC (h:Ok (f env S) λd S1=>∃ b,xM d S1=Ab b/\Q b S1):Ok (dTr f env S) Q:=qS (zI h λd S1 ⟨b,e,k⟩=>by
 rw[e];exact⟨_,_,rfl,k⟩)
theorem CU (h:Ok (t env S) λb S1=>Q (!b) S1):Ok (xO t env S) Q:=qS (zI h λ_ _ k=>⟨_,_,rfl,k⟩)
theorem AF (h:Q true S):Ok (x8 env S) Q:=⟨_,_,rfl,h⟩
theorem kI (h:Ok (t env S) λb S1=>(b=true->Q true S1)/\(b=false->Ok (u env S1) Q)):Ok (u4 t u env S) Q:=qS (zI h λb S1 k=>by
 cases b with
 |true=>exact⟨_,_,rfl,k.1 rfl⟩
 |false=>exact k.2 rfl)
theorem sL (h:Ok (t env S) λb S1=>(b=true->Ok (u env S1) Q)/\(b=false->Q false S1)):Ok (xX t u env S) Q:=qS (zI h λb S1 k=>by
 cases b with
 |true=>exact k.1 rfl
 |false=>exact⟨_,_,rfl,k.2 rfl⟩)
theorem mJ {xs:Aa D}{a:Ai}(h:a<xs.length):_L.atI xs (a:Ak)=Ab xs[a]:=by
 have e:_L.ixN xs.length (a:Ak)=Ab a:=by simp[_L.ixN];lia
 simp[_L.atI,e,h]
theorem rX (S:Sto)(m:MO):(S++[m])[S.length]? = Ab m:=by simp
theorem UM {xs:Aa D}(h:S[j]? = Ab (.lst xs)):tyD (.loc j) S=Ab "list":=by
 show (match S[j]? with|some (.lst _)=>Ab "list" | some (.dct _)=>Ab "dict" | _=>none)=_
 rw[h]
theorem U3 {Q:D->Sto->Prop}{a:Aa D}{k:Ai}(h:k<a.length)(q:∀ d∈a,Q d S):Ok (gIx (.lst a) (.int (k:Ak)) S) Q:=iD (mJ h) (q _ (Qi h))
theorem CP {Q:Aa D->Sto->Prop}(h:Ok (f env S) λd S1=>∃ xs,d=.tup xs/\Q (y7 xs) S1):Ok (pD (q8 f qA) env S) Q:=qS (gU (zI h λ_ _ ⟨xs,e,q⟩=>iE ⟨_,_,by rw[e];rfl,q⟩))
theorem KU {Q:Aa D->Sto->Prop}(h:Ok (f env S) λd S1=>∃ ds,xB d=Ab ds/\Q ds S1):Ok (vZ f env S) Q:=qS (zI h λd S1 ⟨ds,e,k⟩=>⟨ds,S1,by rw[e];rfl,k⟩)
theorem iF {Q:Aa D->Sto->Prop}(h:Ok (fa env S) λas S1=>∃ ds,kO as=Ab ds/\Q ds S1):Ok (uY fa env S) Q:=qS (zI h λd S1 ⟨ds,e,k⟩=>⟨ds,S1,by rw[e];rfl,k⟩)
theorem UE (n:Ai)(h:n<=1000000):kO [.int (n:Ak)]=Ab ((Dd n).map λ(i:Ai)=>D.int (i:Ak)):=by
 unfold kO;have : -(2 ^ 62)<=(n:Ak)/\(n:Ak)<2 ^ 62:=⟨by lia,by lia⟩
 refine(Bp this).trans ?_;unfold xV;rw[Gx]
 congr 2
 funext i
 rw[sK]
theorem CV {Q:Aa D->Sto->Prop}(h:Ok (f env S) λd S1=>∃ k:Ak,d=.int k/\0<=k/\k<=1000000/\Q ((Dd k.toNat).map λ(i:Ai)=>D.int (i:Ak)) S1):Ok (uY (q8 f qA) env S) Q:=iF (gU (zI h λ_ _ ⟨k,e,h0,h1,q⟩=>iE ⟨_,by
 have:=UE k.toNat li;rw[Uq h0] at this;rw[e,this],q⟩))
theorem vR {Q:D->Sto->Prop}{xs:Aa D}{k:Ak}{d:D}(e:S[i]? = Ab (.lst xs))(e':_L.atI xs k=Ab d)(h:Q d S):Ok (gIx (.loc i) (.int k) S) Q:=by
 refine⟨d,S,?_,h⟩;show (match S[i]? with|some (.lst xs)=>_D.yV (_L.atI xs k) S|_=>.bad)=_
 rw[e];show _D.yV (_L.atI xs k) S=_;rw[e'];rfl
theorem Z2 {Q:D->Sto->Prop}{xs:Aa D}(e:S[i]? = Ab (.lst xs))(h:Q (.int xs.length) S):Ok (xE [.loc i] S) Q:=by
 refine⟨_,_,?_,h⟩;have e':i9 (.loc i) S=Ab xs.length:=by
  show (match S[i]? with|some (.lst xs)=>Ab xs.length|_=>none)=_
  rw[e]
 show (match i9 (.loc i) S with|some n=>Res.ok (D.int n) S|none=>.bad)=_
 rw[e']
theorem Z3 {Q:Su->Sto->Prop}{xs:Aa D}{d:D}{n:Ak}(e:S[i]? = Ab (.lst xs))(e':_L.ixN xs.length n=Ab j)(h:Q () (S.set i (.lst (xs.set j d)))):Ok (yY (.loc i) (.int n) d S) Q:=by
 refine⟨_,_,?_,h⟩;simp[yY,mZ,e,e']
theorem tB {xs:Aa D}(h:env[i]? = Ab (Ab (.tup xs))):dIt (q9 i) env S=.ok (none,xs) S:=by
 unfold dIt;rw[p6 h];rfl
theorem WM {xs:Aa D}(h:env[i]? = Ab (Ab (.lst xs))):dIt (q9 i) env S=.ok (none,xs) S:=by
 unfold dIt;rw[p6 h];rfl
theorem bL {α:Type}(f:α->β):∀ l:Aa α,l.flatMap (λx=>[f x])=l.map f
 |[]=>rfl
 |x::l=>by rw[Gy,bL f l];rfl
theorem w8 {α:Type}{enc:α->D}{o:Am (Ai × MO)}{cap:Aa (Am Ai)}{fi:DI2}{tg:DG}{fe:DE}{Q:D->Sto->Prop}(xs:Aa α)(val:α->D)(C:qC->Sto->Prop)(hi:fi env S=.ok (o,xs.map enc) S1)(h0:C (zR cap env) S1)(hl:xs.length<=lim)(hst:∀ env S,C env S->stn o S)
  (step:∀ x∈xs,∀ env S,C env S->Ok (tg (enc x) env S) λenv1 S1=>Ok (t env1 S1) λb S2=>b=true/\Ok (fe env1 S2) λd S3=>d=val x/\C env1 S3) (q:∀ env' S',C env' S'->Q (.lst (xs.map val)) S'):Ok (zB false cap fi tg t (zH fe) env S) Q:=by
 have fm:=bL val xs;obtain⟨env',S',e,c⟩:=goT (enc:=enc) (o:=o) (g:=tg) (t:=t) (k:=zH fe) (λx=>[val x]) C hst xs (zR cap env) S1 [] h0 (by rw[fm,Ao];simpa using hl) (λx hx env S acc hC hl=>by
  obtain⟨env1,S1,e1,b,S2,e2,rfl,d,S3,e3,rfl,c3⟩:=step x hx env S hC;exact⟨env1,S1,true,S2,e1,e2,.inr ⟨rfl,env1,S3,k9 e3 (by simp at hl;lia),c3⟩⟩)
 rw[fm,Jv] at e;exact⟨_,_,uO hi e,q env' S' c⟩
theorem MD {α:Type}{enc:α->D}{o:Am (Ai × MO)}{tg:DG}{fe:DE}(R:D->Prop)(C:qC->Sto->Prop)(hst:∀ env S,C env S->stn o S) :
  ∀ (xs:Aa α) (env:qC) (S:Sto) (acc:Aa D),C env S->acc.length+xs.length<=lim->(∀ x∈xs,∀ env S,C env S->Ok (tg (enc x) env S) λenv1 S1=>Ok (t env1 S1) λb S2=>b=true/\Ok (fe env1 S2) λd S3=>R d/\C env1 S3) ->
  ∃ env' S' ds,goL o tg t (zH fe) (xs.map enc) env S acc=.ok (env',acc++ds) S'/\C env' S'/\ds.length=xs.length/\∀ d∈ds,R d
 |[],env,S,acc,h,_,_=>⟨env,S,[],by simp[goL,w4.mpr (hst _ _ h)],h,rfl,λ_ h=>by cases h⟩
 |x::xs,env,S,acc,h,hl,step=>by
  obtain⟨env1,S1,e1,b,S2,e2,rfl,d,S3,e3,hr,c3⟩:=step x (Dl ..) env S h;rw[Bd] at hl;obtain⟨env',S',ds,e,c,l,hR⟩:=MD R C hst xs env1 S3 (acc++[d]) c3 (by rw[Ct];show _+1+_<=lim;lia) λy hy=>step y (Cg _ hy)
  refine⟨env',S',d::ds,?_,c,by rw[Bd,Bd,l],λz hz=>?_⟩
  .simp only[De,goL,w4.mpr (hst _ _ h),Dx,e1,e2,Res.bind,k9 e3 (show acc.length<lim by lia)]
   rw[e,Cc];rfl
  .rcases Ax.mp hz with rfl|hz
   .exact hr
   .exact hR z hz
theorem KS {α:Type}{enc:α->D}{o:Am (Ai × MO)}{cap:Aa (Am Ai)}{fi:DI2}{tg:DG}{fe:DE}{Q:D->Sto->Prop}(xs:Aa α)(R:D->Prop)(C:qC->Sto->Prop)(hi:fi env S=.ok (o,xs.map enc) S1)(h0:C (zR cap env) S1)(hl:xs.length<=lim)(hst:∀ env S,C env S->stn o S)
  (step:∀ x∈xs,∀ env S,C env S->Ok (tg (enc x) env S) λenv1 S1=>Ok (t env1 S1) λb S2=>b=true/\Ok (fe env1 S2) λd S3=>R d/\C env1 S3) (q:∀ ds env' S',ds.length=xs.length->(∀ d∈ds,R d)->C env' S'->Q (.lst ds) S'):Ok (zB false cap fi tg t (zH fe) env S) Q:=by
 obtain⟨env',S',ds,e,c,l,hR⟩:=MD (enc:=enc) (o:=o) (tg:=tg) (t:=t) (fe:=fe) R C hst xs (zR cap env) S1 [] h0 (by simpa using hl) step
 exact⟨_,_,uO hi e,q ds env' S' l hR c⟩
theorem fU {α:Type}{Q:D->Sto->Prop}{l:Aa α}{p:α->Ar}(h:Q (.bl (l.all p)) S):Ok (gP false [.lst (l.map λx=>.bl (p x))] S) Q:=by
 refine⟨_,_,?_,h⟩;show (match (xB (.lst (l.map λx=>D.bl (p x)))).bind wF with|some bs=>Res.ok (D.bl (bs.all id)) S|none=>.bad)=_
 rw[show (xB (.lst (l.map λx=>D.bl (p x)))).bind wF=Ab (l.map p) from oA p l]
 simp only[Kl];rfl
theorem IA {Q:qC->Sto->Prop}{h:G3}{d:D}(k:Ok (f env S) λa S1=>Ok (g env S1) λb S2=>Ok (h a b d S2) λ_ S3=>Q env S3):Ok (gSb f g h d env S) Q:=qS (zI k λ_ _ k=>qS (zI k λ_ _ k=>qS (zI k λ_ _ q=>⟨_,_,rfl,q⟩)))
variable {Q:qC->Sto->Prop}
theorem AZ {d:D}(h:Q (env.set i (Ab d)) S):Ok (gNm i d env S) Q:=⟨_,_,rfl,h⟩
theorem HR {xs:Aa D}(h:xs.length=n/\Ok (gs xs env S) Q):Ok (gTp n gs (.tup xs) env S) Q:=by
 obtain⟨d,S1,e,q⟩:=h.2;exact⟨d,S1,by show (if xs.length=n then gs xs env S else .bad)=_;rw[Bp h.1];exact e,q⟩
theorem AU (h:Q env S):Ok (wU [] env S) Q:=⟨_,_,rfl,h⟩
theorem AR {t:DG}{x:D}{xs:Aa D}(h:Ok (t x env S) λenv1 S1=>Ok (gs xs env1 S1) Q):Ok (zM t gs (x::xs) env S) Q:=qS h
def Wo (P:Out->Prop)(o:Out):Prop:=P o
def YX (g:DS)(P:Out->Prop):Out->Prop
 |.nx env S=>P (g env S)
 |o=>P o
noncomputable def cD (b:Ar)(f g:DS):DS:=match b with
 |true=>f
 |false=>g
def HG (Q:D->Sto->Prop):Out->Prop
 |.rt d S=>Q d S
 |.nx _ S=>Q .non S
 |_=>Fd
def lU {α:Type}(I:Aa α -> qC->Sto->Prop)(xs:Aa α)(P:Out->Prop):Out->Prop
 |.nx env S=>I xs env S
 |.ct env S=>I xs env S
 |.bk env S=>P (.nx env S)
 |o=>P o
variable {P:Out->Prop}{sf sg:DS}{fi:DI}{tg:DG}{d:D}
theorem AK (h:Wo (YX sg P) (sf env S)):Wo P (qT sf sg env S):=by
 unfold qT;unfold Wo at h ⊢;cases e:sf env S <;> rw[e] at h <;> exact h
theorem IE (h:Wo P (sg env S)):Wo (YX sg P) (.nx env S):=h
theorem IF (h:Wo P (.rt d S)):Wo (YX sg P) (.rt d S):=h
theorem CZ (h:Wo P (.nx env S)):Wo P (zO env S):=h
theorem kW {r:Res β}{k:β->Sto->Out}(h:Ok r λd S1=>Wo P (k d S1)):Wo P (r.toS env k):=by
 obtain⟨d,S1,rfl,h⟩:=h;exact h
theorem AG (h:Ok (f env S) λd S1=>Ok (tg d env S1) λenv' S2=>Wo P (.nx env' S2)):Wo P (zZ f tg env S):=kW (zI h λ_ _=>kW)
theorem CY (h:Ok (f env S) λ_ S1=>Wo P (.nx env S1)):Wo P (y9 f env S):=kW h
theorem AJ (h:Ok (f env S) λd S1=>Wo P (.rt d S1)):Wo P (qW f env S):=kW h
theorem AI (h:Ok (fa env S) λds S1=>∃ a b,ds=[a,b]/\Wo P (.nx ((env.set i (Ab a)).set j (Ab b)) S1)):Wo P (bU i j fa env S):=kW (zI h λ_ _ ⟨_,_,e,q⟩=>by subst e;exact q)
theorem ID (h:Ok (t env S) λb S1=>Wo P (cD b sf sg env S1)):Wo P (sIf t sf sg env S):=kW (zI h λb S1 q=>by cases b <;> exact q)
theorem w_t (h:Wo P (sf env S)):Wo P (cD true sf sg env S):=h
theorem w_f (h:Wo P (sg env S)):Wo P (cD false sf sg env S):=h
theorem AH {b:Ar}(h:Wo P (cD b sg sf env S)):Wo P (cD (!b) sf sg env S):=by cases b <;> exact h
theorem uU {p:Prop}[IQ p](h1:p->Wo P (sf env S))(h2:¬ p->Wo P (sg env S)):Wo P (cD (decide p) sf sg env S):=by
 by_cases h:p
 .rw[Cp h];exact h1 h
 .rw[Cy h];exact h2 h
theorem EA (h:Ok (fi env S) λds S1=>Wo P (vO tg sf ds env S1)):Wo P (kQ fi tg sf env S):=kW h
theorem vG {α:Type}{enc:α->D}(I:Aa α -> qC->Sto->Prop)(turn:∀ x xs env S,I (x::xs) env S->Ok (tg (enc x) env S) λenv1 S1=>Wo (lU I xs P) (sf env1 S1))(last:∀ env S,I [] env S->Wo P (.nx env S)) :
  ∀ {xs:Aa α} {env:qC} {S:Sto},I xs env S->Wo P (vO tg sf (xs.map enc) env S)
 |[],env,S,h=>last env S h
 |x::xs,env,S,h=>by
  obtain⟨env1,S1,e1,h1⟩:=turn x xs env S h;rw[De,vO];unfold Wo at h1 ⊢;simp only[e1,Res.toS];cases e2:sf env1 S1 with
  |nx env2 S2=>rw[e2] at h1;exact vG I turn last h1
  |ct env2 S2=>rw[e2] at h1;exact vG I turn last h1
  |bk env2 S2=>rw[e2] at h1;exact h1
  |rt d2 S2=>rw[e2] at h1;exact h1
  |ex c2 x2 env2 S2=>rw[e2] at h1;exact h1
  |bad=>rw[e2] at h1;exact h1
theorem BB (I:Aa D->qC->Sto->Prop)(turn:∀ x xs env S,I (x::xs) env S->Ok (tg x env S) λenv1 S1=>Wo (lU I xs P) (sf env1 S1))(last:∀ env S,I [] env S->Wo P (.nx env S)){xs:Aa D}{env:qC}{S:Sto}(h:I xs env S):Wo P (vO tg sf xs env S):=by
 have:=vG (enc:=id) I turn last h
 rwa [OR] at this
def whQ (I:Ai->qC->Sto->Prop)(n:Ai)(P:Out->Prop):Out->Prop
 |.nx env S=>∃ m,m<n/\I m env S
 |.ct env S=>∃ m,m<n/\I m env S
 |.bk env S=>P (.nx env S)
 |o=>P o
theorem BC (I:Ai->qC->Sto->Prop)(turn:∀ n env S,I n env S->Ok (t env S) λb S1=>(b=true->Wo (whQ I n P) (sf env S1))/\(b=false->Wo P (.nx env S1))){n:Ai}(hn:n<big)(h:I n env S):Wo P (m8 t sf env S):=by
 have key:∀ N n env S,n<N->I n env S->Wo P (vH t sf N env S):=by
  intro N
  induction N with
  |zero=>intro n env S h;lia
  |succ N ih =>
   intro n env S h hI;obtain⟨b,S1,e1,k1,k2⟩:=turn n env S hI;unfold vH;rw[e1];cases b with
   |false=>exact k2 rfl
   |true =>
    have k:=k1 rfl;unfold Wo at k ⊢;simp only[Res.toS,Dx];cases e2:sf env S1 with
    |nx env2 S2=>rw[e2] at k;obtain⟨m,hm,hI2⟩:=k;exact ih m env2 S2 li hI2
    |ct env2 S2=>rw[e2] at k;obtain⟨m,hm,hI2⟩:=k;exact ih m env2 S2 li hI2
    |bk env2 S2=>rw[e2] at k;exact k
    |rt d2 S2=>rw[e2] at k;exact k
    |ex c2 x2 env2 S2=>rw[e2] at k;exact k
    |bad=>rw[e2] at k;exact k
 exact key big n env S hn h
theorem D8 {I:Ai->qC->Sto->Prop}(m:Ai)(hm:m<n)(h:I m env S):Wo (whQ I n P) (.nx env S):=⟨m,hm,h⟩
theorem pS {α:Type}{I:Aa α -> qC->Sto->Prop}{xs:Aa α}(h:I xs env S):Wo (lU I xs P) (.nx env S):=h
theorem D7 {α:Type}{I:Aa α -> qC->Sto->Prop}{xs:Aa α}(h:Wo P (.rt d S)):Wo (lU I xs P) (.rt d S):=h
theorem qZ {ds:Aa D}{Q:D->Sto->Prop}(hs:vE n ds=env)(h:Wo (HG Q) (sf env S)):Ok (qQ n sf ds S) Q:=by
 subst hs;unfold qQ;unfold Wo at h;cases e:sf (vE n ds) S <;> rw[e] at h <;> first|exact⟨_,_,rfl,h⟩|exact Aq h
end
abbrev Pt:=Ak × Ak
variable {p:Pt}
noncomputable def ptD (p:Pt):D:=.tup [.int p.1,.int p.2]
noncomputable def xZ (l:Aa Pt):D:=.tup (l.map ptD)
noncomputable def kP (p:Pt):Aa Ak:=[p.1,p.2]
theorem sF (ps:Aa Pt):ps.map ptD=(ps.map kP).map tpD:=by
 rw[Do];rfl
noncomputable def ltP (p q:Pt):Ar:=_H.lexLt [p.1,p.2] [q.1,q.2]
abbrev Up (l:Aa Pt):Prop:=l.Pairwise λp q=>ltP p q=true
theorem dY {K:Type}(lt':K->K->Ar)(x:K):∀ l:Aa K,(_S.uA lt' x l).length<=l.length+1
 |[]=>by simp[_S.uA]
 |y::l=>by
  have:=dY lt' x l;unfold _S.uA
  split
  .simp
  .split <;> simp <;> omega
theorem n8 {K:Type}(lt':K->K->Ar):∀ l:Aa K,(_S.srt lt' l).length<=l.length
 |[]=>by simp[_S.srt]
 |x::l=>by
  have h1:=dY lt' x (_S.srt lt' l);have h2:=n8 lt' l;rw[_S.srt,Bd];omega
theorem I8 {Q:D->Sto->Prop}{S:Sto}(h:Q (.int p.1) S):Ok (gIx (ptD p) (.int 0) S) Q:=⟨_,_,rfl,h⟩
theorem I9 {Q:D->Sto->Prop}{S:Sto}(h:Q (.int p.2) S):Ok (gIx (ptD p) (.int 1) S) Q:=⟨_,_,rfl,h⟩
theorem AD {Q:qC->Sto->Prop}{env:qC}{S:Sto}(h:Ok (gs [.int p.1,.int p.2] env S) Q):Ok (gTp 2 gs (ptD p) env S) Q:=HR ⟨rfl,h⟩
def InB (B:Ak)(q:Pt):Prop:=-B<=q.1/\q.1<=B /\ -B<=q.2/\q.2<=B
instance (B:Ak)(q:Pt):IQ (InB B q):=by unfold InB;exact inferInstance
structure Lot (M:Ai)(l:Aa Pt):Prop where
 ne:l≠[]
 len:l.length<=M
 up:Up l
 box:∀ q∈l,InB 1000 q
theorem pR {l:Aa Pt}(h:Up l):l.Nodup:=h.imp λ{a b} h e=>by
 subst e;rw[show ltP a a=false from _S.sQ.irr _] at h
 cases h
def jO (S:Sto)(p:Ai):Prop:=∃ v f:Ak,S[p]? = Ab (.lst [.int v,.int f])
theorem tS {S S':Sto}{p:Ai}(h:jO S p)(e:S<+:S'):jO S' p:=by
 obtain⟨v0,f0,hp⟩:=h;obtain⟨r,rfl⟩:=e;exact⟨v0,f0,by rw[Bo (Bw.mp hp).1];exact hp⟩
structure Kp (p:Ai)(S S':Sto):Prop where
 pen:jO S' p
 len:S.length<=S'.length
 same:∀ m,m<S.length->m≠p->S'[m]? = S[m]?
theorem Kp.trans {p:Ai}{S S2:Sto}(a:Kp p S S1)(b:Kp p S1 S2):Kp p S S2:=⟨b.pen,Dh a.len b.len,λm hm hp=>(b.same m (Bc hm a.len) hp).trans (a.same m hm hp)⟩
end _D
local macro_rules|`(tactic|array_get_dec)=>`(tactic| first | (with_reducible first | apply _D.AK | apply _D.IE | apply _D.AG | apply _D.o_2 | apply _D.o_c | apply _D.gU | apply _D.iE | apply _D.A3 | apply _D.AC | apply _D.AE | apply _D.R4 | apply _D.MZ | apply _D.AM | apply _D.A9 | apply _D.IC | apply _D.CU | apply _D.ID | apply _D.w_t | apply _D.w_f | apply _D.AH | apply _D.CZ | apply _D.CY | apply _D.AJ | apply _D.IF | apply _D.AI | apply _D.EA | apply _D.AX | apply _D.AW | apply _D.AV | apply _D.AS | apply _D.AQ | apply _D.AY | apply _D.o_1 | apply _D.A8 | apply _D.CS | apply _D.CQ | apply _D.CW | apply _D.CT | apply _D.IB | apply _D.AB | apply _D.AA | apply _D.AN | apply _D.AO | apply _D.AL | apply _D.A4 | apply _D.HR | apply _D.AR | apply _D.AU | apply _D.AF | apply _D.I8 | apply _D.I9 | apply _D.AD | apply _D.IA | apply _D.CP | apply _D.KU | apply _D.CV) | ((with_reducible apply _D.o_v); exact rfl) | ((with_reducible apply _D.AZ); dsimp only [List.set_cons_succ, List.set_cons_zero]) | ((with_reducible (first | apply _D.A7 | apply _D.A6 | apply _D.A5)); omega) | ((with_reducible apply And.intro); (first | exact rfl | exact Nat.le_of_ble_eq_true rfl)) | ((with_reducible apply Exists.intro); (with_reducible apply And.intro); exact rfl) | ((with_reducible apply Exists.intro); (with_reducible apply Exists.intro); (with_reducible apply And.intro); exact rfl; dsimp only [List.set_cons_succ, List.set_cons_zero]) | ((with_reducible apply Exists.intro); (with_reducible apply Exists.intro); (with_reducible apply Exists.intro); (with_reducible apply And.intro); exact rfl; dsimp only [List.set_cons_succ, List.set_cons_zero]))
local macro_rules|`(tactic|rfl')=>`(tactic| repeat array_get_dec)
namespace _D
open PySem
variable {kvs:Aa (_L.Key × D)}{ks:Aa Ak}{xs:Aa D}{n:Ai}{i:D}{Q:D->Sto->Prop}{S:Sto}
def Pn (d:D):Prop:=∃ p,pyD d=Ab p
theorem pns:∀ {ps:Aa PyData},bT xs=Ab ps->∀ x∈xs,Pn x:=by
 induction xs with
 |nil=>intro ps _ x hx;cases hx
 |cons d ds ih =>
  intro ps h x hx;simp only[bT] at h;obtain⟨p,h1,h2⟩:=Er.mp h;obtain⟨ps',h3,_⟩:=Ha.mp h2;rcases Ax.mp hx with rfl|hx
  .exact⟨p,h1⟩
  .exact ih h3 x hx
theorem sS (h:Pn (.tup xs)):∀ x∈xs,Pn x:=by
 obtain⟨p,h⟩:=h;simp only[pyD] at h;obtain⟨ps,h1,_⟩:=Ha.mp h;exact pns h1
theorem Z8:∀ {xs:Aa D},(∀ x∈xs,Pn x)->∃ l,bT xs=Ab l
 |[],_=>⟨[],rfl⟩
 |x::xs,h=>by
  obtain⟨l,e⟩:=Z8 (xs:=xs) λy hy=>h y (Cg _ hy);obtain⟨q,e'⟩:=h x (Dl ..);refine⟨q::l,?_⟩;show (pyD x).bind (λx=>(bT xs).map (x::·))=_
  rw[e,e'];rfl
theorem NA (h:∀ x∈xs,Pn x):Pn (.tup xs):=by
 obtain⟨l,e⟩:=Z8 h;exact⟨.tuple l,by simp only[pyD,e,Rq]⟩
theorem RJ (q:Pt):Pn (ptD q):=⟨.tuple [.int q.1,.int q.2],rfl⟩
theorem sR (l:Aa Pt):Pn (xZ l):=NA λx hx=>by
 obtain⟨q,_,rfl⟩:=Aw.mp hx;exact RJ q
noncomputable def inR (a b:Ak):D->Ar
 |.int i=>decide (a<=i/\i<=b)
 |_=>false
noncomputable def isW:D->Ar
 |.int _=>true
 |_=>false
noncomputable def isT:D->Ar
 |.tup _=>true
 |_=>false
theorem i0 {d:D}(h:Pn d)(S:Sto):vI [d,.ty "tuple"] S=.ok (.bl (isT d)) S:=by
 obtain⟨p,h⟩:=h;cases d <;> first|kernel_rfl!|simp[pyD] at h
theorem tQ {fa fb fc:DE}{env:qC}{a b c:Ak}(h1:fa env S=.ok (.int a) S)(h2:fb env S=.ok (.int b) S)(h3:fc env S=.ok (.int c) S)(q:Q (.bl (decide (a<=b/\b<=c))) S):Ok (w6 gLe gLe fa fb fc env S) Q:=by
 refine⟨_,_,?_,q⟩;unfold w6;rw[h1,Res.bind_ok,h2,Res.bind_ok];show (match xM (.bl (decide (a<=b))) S with|some true=>(fc env S).bind λw S4=>gLe (.int b) w S4|some false=>Res.ok (.bl (decide (a<=b))) S|none=>.bad)=_
 by_cases h:a<=b
 .rw[Cp h]
  show (fc env S).bind _=_;rw[h3];simp only[h,true_and];rfl
 .rw[Cy h,Cy λz=>h z.1]
  rfl
noncomputable abbrev isI:D->Ar:=inR (-1000) 1000
noncomputable def wX:D->Ar
 |.tup [a,b]=>isI a&&isI b
 |_=>false
theorem K1 (q:Pt):wX (ptD q)=decide (InB 1000 q):=by
 show (decide (-1000<=q.1/\q.1<=1000)&&decide (-1000<=q.2/\q.2<=1000))=_;rw[<- Bool.decide_and];exact Xs.mpr ⟨λh=>⟨h.1.1,h.1.2,h.2.1,h.2.2⟩,λh=>⟨⟨h.1,h.2.1⟩,h.2.2.1,h.2.2.2⟩⟩
theorem MG (h:xs.length=2):wX (.tup xs)=xs.all isI:=by
 match xs,h with
 |[a,b],_=>simp[wX]
theorem MH (h:xs.length≠2):wX (.tup xs)=false:=by
 match xs,h with
 |[],_=>rfl
 |[_],_=>rfl
 |[_,_],h=>exact absurd rfl h
 |_::_::_::_,_=>rfl
theorem MI {d:D}(h:isT d=false):wX d=false:=by
 cases d <;> first|rfl|cases h
noncomputable def upB (ks:Aa (Aa Ak)):Ar:=(ks.zip (ks.drop 1)).all λp=>_H.lexLt p.1 p.2
noncomputable def lS:D->Ar
 |.tup xs=>decide (1<=xs.length/\xs.length<=40)&&xs.all wX&&(match w5 xs with|some ks=>upB ks|none=>false)
 |_=>false
theorem eK {a b:Ak}{d:D}(h:inR a b d=true):∃ i,d=.int i/\a<=i/\i<=b:=by
 cases d <;> first|exact⟨_,rfl,Cf h⟩|cases h
theorem WL {d:D}(h:wX d=true):∃ q,d=ptD q/\InB 1000 q:=by
 unfold wX at h
 split at h
 .rw[Bi] at h
  obtain⟨x,rfl,hx⟩:=eK h.1;obtain⟨y,rfl,hy⟩:=eK h.2;exact⟨(x,y),rfl,hx.1,hx.2,hy.1,hy.2⟩
 .cases h
theorem ZD:∀ {xs:Aa D},xs.all wX=true->∃ qs:Aa Pt,xs=qs.map ptD/\∀ q∈qs,InB 1000 q
 |[],_=>⟨[],rfl,λ_ h=>by cases h⟩
 |d::ds,h=>by
  rw[Nq,Bi] at h;obtain⟨qs,rfl,hq⟩:=ZD h.2;obtain⟨q,rfl,hb⟩:=WL h.1;refine⟨q::qs,rfl,λz hz=>?_⟩;rcases Ax.mp hz with rfl|hz
  .exact hb
  .exact hq z hz
theorem SR (a b:Aa Ak)(S:Sto):mY (tpD a) (tpD b) S=.ok (.bl (_H.lexLt a b)) S:=by
 unfold mY tpD;simp only[xP]
theorem ZV:∀ (ks:Aa (Aa Ak)),upB ks=true↔ks.Pairwise (λa b=>_H.lexLt a b=true)
 |[]=>by simp[upB]
 |[a]=>by simp[upB]
 |a::b::r=>by
  have ih:=ZV (b::r);have e:upB (a::b::r)=(_H.lexLt a b&&upB (b::r)):=by simp[upB]
  rw[e,Bi,ih,Ch (a:=a)];constructor
  .rintro⟨h1,h2⟩
   refine⟨λx hx=>?_,h2⟩;rcases Ax.mp hx with rfl|hx
   .exact h1
   .exact _S.sQ.tr h1 ((Ch.mp h2).1 x hx)
  .rintro⟨h1,h2⟩
   exact⟨h1 b (by simp),h2⟩
theorem DC (ks ms:Aa (Aa Ak)):wL (ks.map tpD) (ms.map tpD)=(ks.zip ms).map λp=>D.tup [tpD p.1,tpD p.2]:=by
 unfold wL
 induction ks generalizing ms with
 |nil=>rfl
 |cons k ks ih =>
  cases ms with
  |nil=>rfl
  |cons m ms=>exact congrArg (_::·) (ih ms)
theorem K0 {d:D}(h:isT d=false):lS d=false:=by
 cases d <;> first|rfl|cases h
theorem bP {M:Ai}(hM:M<=40){l:Aa Pt}(h:Lot M l):lS (xZ l)=true:=by
 show (decide (1<=(l.map ptD).length/\(l.map ptD).length<=40)&&(l.map ptD).all wX&&(match w5 (l.map ptD) with|some ks=>upB ks|none=>false))=true
 have h1:1<=(l.map ptD).length/\(l.map ptD).length<=40:=by
  rw[Ao];exact⟨Ow.mpr h.ne,by have:=h.len;lia⟩
 have h2:(l.map ptD).all wX=true:=by
  rw[Kl];exact Ca.mpr λq hq=>(K1 q).trans (Cp (h.box q hq))
 have h3:upB (l.map kP)=true:=by
  rw[ZV,Di];exact h.up
 rw[Cp h1,h2,sF,gZ];exact h3
theorem aH (xs:Aa D):xK xs (Ab 1) none=xs.drop 1:=by
 unfold xK;have h1:_H.sIx xs.length 0 (Ab 1)=min 1 xs.length:=rfl;have h2:_H.sIx xs.length xs.length none=xs.length:=rfl;rw[h1,h2];cases xs with
 |nil=>rfl
 |cons x r=>simp
theorem iS (n:Ai):_H.stepN n (-1)=n:=by
 unfold _H.stepN _H.stepLo _H.stepHi Gb Gc;simp
 split <;> lia
theorem T7 {a:Aa D}(l:a.length<=1000)(h:Q (.tup (_H.stepL a (-1))) S):Ok (lQ (.tup a) (.int (-1)) S) Q:=⟨_,_,Bp ⟨by lia,by lia,by rw[iS];unfold lim;lia⟩,h⟩
theorem dJ (xs:Aa D)(i:Ai):xK xs (Ab ((i:Ak)+1)) none=xs.drop (i+1):=by
 unfold xK;have e1:_H.sIx xs.length 0 (Ab ((i:Ak)+1))=min (i+1) xs.length:=by
  have:((i:Ak)+1)=((i+1:Ai):Ak):=by lia
  rw[this,_H.sIx_nat]
 rw[e1,_H.sIx_none];by_cases h:i+1<=xs.length
 .rw[Yl h,Hd (by simp)]
 .have:xs.drop (i+1)=[]:=Mz li
  rw[this,Xt li];simp
noncomputable def eL:Ai->Aa D->Aa D
 |_,[]=>[]
 |k,x::xs=>D.tup [.int (k:Ak),x]::eL (k+1) xs
theorem dP (xs:Aa D):y7 xs=eL 0 xs:=by
 have key:∀ (xs:Aa D) (k:Ai),(xs.mapIdx λi x=>D.tup [.int ((i+k:Ai):Ak),x])=eL k xs:=by
  intro xs
  induction xs with
  |nil=>intro k;rfl
  |cons x xs ih =>
   intro k;rw[List.mapIdx_cons];show _::_=D.tup [.int (k:Ak),x]::eL (k+1) xs
   congr 1
   .simp
   .rw[<- ih (k+1)]
    congr 1
    funext i y
    congr 4
    lia
 have:=key xs 0;simpa [y7] using this
noncomputable def far (p q:Pt):Ak:=(p.1-q.1)*(p.1-q.1)+(p.2-q.2)*(p.2-q.2)
noncomputable def zT:Aa Pt->Aa (Pt × Pt)
 |[]=>[]
 |p::ps=>ps.map (λq=>(p,q))++zT ps
noncomputable def zA (x:Pt × Pt):Ak:=far x.1 x.2
noncomputable def fars (l:Aa Pt):Aa Ak:=(zT l).map zA
noncomputable def prD (x:Pt × Pt):D:=.tup [ptD x.1,ptD x.2]
structure GI {β : Type}(key:β->Ak)(enc:β->D)(n:Ai)(prs:Aa β)(kvs:Aa (_L.Key × D))(S:Sto):Prop where
 dict:S[n]? = Ab (.dct kvs)
 lists:∀ kv∈kvs,∃ (f:Ak) (j:Ai),kv=(.inl f,.loc j)/\n<j/\S[j]? = Ab (.lst ((prs.filter λx=>key x == f).map enc))
 nd:(kvs.map (·.2)).Nodup
 keys:kvs.map (·.1)=((prs.map key).foldl Bb []).map Ir
set_option tactic.hygienic true in
theorem V3 {l:Aa Ak}{k x:Ak}:x∈Bb l k↔x∈l\/x=k:=by
 unfold Bb
 split
 .rename_i h
  simp at h;constructor
  .exact λz=>.inl z
  .rintro (z|rfl)
   .exact z
   .exact h
 .simp
theorem pQ {l:Aa Ak}{k:Ak}(h:k∈l):Bb l k=l:=by
 unfold Bb;rw[Bp (by simpa using h)]
theorem kT {l:Aa Ak}{k:Ak}(h:k ∉ l):Bb l k=l++[k]:=by
 unfold Bb;rw[Bj (by simpa using h)]
theorem u7:∀ {l:Aa Ak} {x:Ak},x∈ks.foldl Bb l↔x∈l\/x∈ks:=by
 induction ks with
 |nil=>intro l x;simp
 |cons k ks ih =>
  intro l x;rw[Li,ih,V3,Ax];constructor
  .rintro ((h|h)|h)
   .exact .inl h
   .exact .inr (.inl h)
   .exact .inr (.inr h)
  .rintro (h|h|h)
   .exact .inl (.inl h)
   .exact .inl (.inr h)
   .exact .inr h
theorem bM:∀ {l:Aa Ak},(ks.foldl Bb l).length<=l.length+ks.length:=by
 induction ks with
 |nil=>intro l;simp
 |cons k ks ih =>
  intro l;rw[Li];have h1:=ih (l:=Bb l k);have h2:(Bb l k).length<=l.length+1:=by
   unfold Bb
   split <;> simp
  rw[Bd]
  lia
theorem V7 {k:_L.Key}{d:D}(h:wC kvs k=Ab d):(k,d)∈kvs:=by
 unfold wC at h;obtain⟨kv,h1,rfl⟩:=Ha.mp h;have h2:=Ym h1;have h3:=Pq h1;have h4:kv.1=k:=by simpa using h2
 subst h4;exact h3
theorem V6 {k:_L.Key}(h:wC kvs k=none):∀ kv∈kvs,kv.1≠k:=by
 unfold wC at h;have h1:=Option.map_eq_none_iff.mp h;intro kv hk e;have:=Ly.mp h1 kv hk;simp[e] at this
theorem UG {x:D}{k:_L.Key}(hd:S[n]? = Ab (.dct kvs))(hk:yU i=Ab k):w9 (.loc n) [i,x] S=(match wC kvs k with|some d=>.ok d S|none=>if kvs.length<lim then .ok x (S.set n (.dct (yC kvs k x))) else .bad):=by
 show (match S[n]? with|some (.dct kvs)=>(match yU i with|some k=>(match wC kvs k with|some d=>Res.ok d S|none=>if kvs.length<lim then .ok x (S.set n (.dct (yC kvs k x))) else .bad)|none=>.bad)|_=>.bad)=_
 rw[hd,hk]
theorem PV {x d:D}{k:_L.Key}(hd:S[n]? = Ab (.dct kvs))(hk:yU i=Ab k)(hv:wC kvs k=Ab d):w9 (.loc n) [i,x] S=.ok d S:=by
 rw[UG hd hk,hv]
theorem PU {x:D}{k:_L.Key}(hd:S[n]? = Ab (.dct kvs))(hk:yU i=Ab k)(hv:wC kvs k=none)(hl:kvs.length<lim):w9 (.loc n) [i,x] S=.ok x (S.set n (.dct (yC kvs k x))):=by
 rw[UG hd hk,hv];exact Bp hl
theorem QY {β γ:Type}{l:Aa β}{f:β->γ}(nd:(l.map f).Nodup){x y:β}(hx:x∈l)(hy:y∈l)(e:f x=f y):x=y:=by
 obtain⟨a,ha,rfl⟩:=Cn.mp hx;obtain⟨b,hb,rfl⟩:=Cn.mp hy;have:a=b:=(Qe nd (h₀:=by simpa using ha) (h₁:=by simpa using hb)).mp (by simpa using e)
 subst this;rfl
set_option tactic.hygienic true in
theorem mV:∀ (ks l:Aa Ak),l.Nodup->(ks.foldl Bb l).Nodup:=by
 intro ks
 induction ks with
 |nil=>exact λl h=>h
 |cons k ks ih =>
  intro l h;rw[Li];apply ih;unfold Bb
  split
  .exact h
  .rename_i hn
   rw[Jx];refine⟨h,by simp,?_⟩
   intro a ha b hb hab;simp at hb hn;subst hb;subst hab;exact hn ha
theorem K8 (h:kvs.map (·.1)=(ks.foldl Bb []).map Ir):(kvs.map (·.1)).Nodup:=by
 rw[h,Uf,Di];exact(mV ks [] Iq).imp λhne e=>hne (Rz e)
theorem BZ {j:Ai}(h:S[j]? = Ab (.lst xs))(hl:xs.length<lim)(d:D):wR (.loc j) [d] S=.ok .non (S.set j (.lst (xs++[d]))):=zS (SX h hl ⟨rfl,rfl⟩)
theorem JV {β:Type}{key:β->Ak}{enc:β->D}{prs:Aa β}(I:GI key enc n prs kvs S)(x:β)(hl:prs.length<lim) :
  ∃ (j:Ai) (S1 S2:Sto) (kvs':Aa (_L.Key × D)),w9 (.loc n) [.int (key x),.loc S.length] (S++[.lst []]) = .ok (.loc j) S1/\tyD (.loc j) S1=Ab "list" /\ wR (.loc j) [enc x] S1=.ok .non S2/\GI key enc n (prs++[x]) kvs' S2/\∀ m,m<n->S2[m]? = S[m]?:=by
 have hnS:n<S.length:=(Bw.mp I.dict).1;have hd:(S++[MO.lst []])[n]? = Ab (.dct kvs):=by rw[Bo hnS];exact I.dict
 have hkl:kvs.length<=prs.length:=by
  have h1:kvs.length=(kvs.map (·.1)).length:=by simp
  rw[h1,I.keys,Ao];have:=bM (ks:=prs.map key) (l:=[]);simpa using this
 have hlim:kvs.length<lim:=by lia
 have jlt:∀ {f:Ak} {j:Ai},((Ir f:_L.Key),D.loc j)∈kvs->n<j/\j<S.length/\S[j]? = Ab (.lst ((prs.filter λx=>key x == f).map enc)):=by
  intro f j hm;obtain⟨f',j',e,h1,h2⟩:=I.lists _ hm;cases e;exact⟨h1,(Bw.mp h2).1,h2⟩
 cases hv:wC kvs (.inl (key x)) with
 |some d =>
  have hm:=V7 hv;obtain⟨f,j,e,h1,h2⟩:=I.lists _ hm;have e1:f=key x:=by
   have:=congrArg t0 e;exact(Rz this).symm
  have e2:d=.loc j:=congrArg Prod.snd e;subst e1;subst e2;have hjS:=(Bw.mp h2).1;have h2':(S++[MO.lst []])[j]? = Ab (.lst ((prs.filter λy=>key y == key x).map enc)):=by rw[Bo hjS];exact h2
  have hll:((prs.filter λy=>key y == key x).map enc).length<lim:=by
   rw[Ao];have:=Kh (λy=>key y == key x) prs
   lia
  refine⟨j,S++[MO.lst []],(S++[MO.lst []]).set j (.lst ((prs.filter λy=>key y == key x).map enc++[enc x])),kvs,?_,?_,?_,⟨?_,?_,I.nd,?_⟩,?_⟩
  .exact PV hd rfl hv
  .exact UM h2'
  .exact BZ h2' hll _
  .rw[Cs li];exact hd
  .intro kv hk
   obtain⟨f',j',rfl,h3,h4⟩:=I.lists kv hk;refine⟨f',j',rfl,h3,?_⟩;have hj':=(Bw.mp h4).1;by_cases hjj:j=j'
   .subst hjj
    have hff:f'=key x:=Rz (congrArg t0 (QY (f:=(·.2)) I.nd hk hm rfl))
    subst hff;rw[Ev (by simp;lia)]
    rw[Mb];simp
   .rw[Cs hjj,Bo hj',h4]
    have hne:(key x == f')=false:=by
     rw[Jc];rintro rfl;exact hjj (D.loc.inj (congrArg Prod.snd (QY (f:=(·.1)) (K8 I.keys) hm hk rfl)))
    rw[Mb];simp[hne]
  .rw[Fl,Wx]
   show _=(Bb ((prs.map key).foldl Bb []) (key x)).map Ir;have hin:key x∈(prs.map key).foldl Bb []:=by
    have:(Ir (key x):_L.Key)∈kvs.map (·.1):=Aw.mpr ⟨_,hm,rfl⟩
    rw[I.keys] at this;obtain⟨y,hy,e⟩:=Aw.mp this;cases e;exact hy
   rw[pQ hin];exact I.keys
  .intro m hm
   rw[Cs li,Bo li]
 |none =>
  have hno:=V6 hv;have hput:yC kvs (.inl (key x)) (.loc S.length)=kvs++[(.inl (key x),.loc S.length)]:=by
   unfold yC;rw[Bj];rw[List.any_eq_true];rintro⟨kv,hk,e⟩;exact hno kv hk (by simpa using e)
  have hfn:key x ∉ prs.map key:=by
   intro hin;have:(Ir (key x):_L.Key)∈kvs.map (·.1):=by
    rw[I.keys];exact Aw.mpr ⟨_,u7.mpr (.inr hin),rfl⟩
   obtain⟨kv,hk,e⟩:=Aw.mp this;exact hno kv hk e
  have hS1:((S++[MO.lst []]).set n (.dct (kvs++[(Ir (key x),.loc S.length)])))[S.length]? = Ab (.lst []):=by
   rw[Cs li];simp
  refine⟨S.length,(S++[MO.lst []]).set n (.dct (kvs++[(.inl (key x),.loc S.length)])),((S++[MO.lst []]).set n (.dct (kvs++[(.inl (key x),.loc S.length)]))).set S.length (.lst [enc x]),kvs++[(.inl (key x),.loc S.length)],?_,?_,?_,⟨?_,?_,?_,?_⟩,?_⟩
  .rw[<- hput]
   exact PU hd rfl hv hlim
  .exact UM hS1
  .have:(0:Ai)<lim:=by decide
   exact BZ hS1 this _
  .rw[Cs li,Ev (by simp;lia)]
  .intro kv hk
   rcases Ce.mp hk with hk|hk
   .obtain⟨f',j',rfl,h3,h4⟩:=I.lists kv hk
    have hj':=(Bw.mp h4).1;refine⟨f',j',rfl,h3,?_⟩;rw[Cs li,Cs li,Bo hj',h4];have hne:(key x == f')=false:=by
     rw[Jc];intro e;exact hno _ hk (by rw[e])
    rw[Mb];simp[hne]
   .have:kv=(.inl (key x),.loc S.length):=by simpa using hk
    subst this;refine⟨key x,S.length,rfl,hnS,?_⟩;rw[Ev (by simp)]
    have:(prs.filter λy=>key y == key x)=[]:=by
     rw[Rx];intro y hy e;exact hfn (by rw[<- (by simpa using e:key y=key x)];exact Aw.mpr ⟨y,hy,rfl⟩)
    rw[Mb,this];simp
  .rw[Fl,Jx]
   refine⟨I.nd,by simp,?_⟩
   intro a ha b hb hab;simp at hb;subst hb;subst hab;obtain⟨kv,hk,e⟩:=Aw.mp ha;obtain⟨f',j',rfl,h3,h4⟩:=I.lists kv hk;have hj':=(Bw.mp h4).1;have:j'=S.length:=D.loc.inj e
   lia
  .rw[Fl,I.keys,Fl,Wx]
   show _=(Bb ((prs.map key).foldl Bb []) (key x)).map Ir;have hin:key x ∉ (prs.map key).foldl Bb []:=by
    intro h;rcases u7.mp h with h|h
    .simp at h
    .exact hfn h
   rw[kT hin,Fl];rfl
  .intro m hm
   rw[Cs li,Cs li,Bo li]
theorem bC (l:Aa Pt):(zT l).length<=l.length*l.length:=by
 induction l with
 |nil=>simp[zT]
 |cons p l ih =>
  have e:(p::l).length*(p::l).length=l.length*l.length+l.length+l.length+1:=by
   simp only[Bd,So,Xu]
   lia
  rw[e];simp only[zT,Ct,Ao]
  lia
theorem ZC {S':Sto}(h:∀ m,m<S.length->S'[m]? = S[m]?):S<+:S':=by
 rw[List.prefix_iff_getElem?];intro i hi;rw[h i hi,An hi]
theorem SU {l:Aa Pt}(h:l.length<=41):(zT l).length<4000:=by
 have h1:=bC l;have h2:l.length*l.length<=41*41:=Jb h h
 lia
noncomputable def kys (fs:Aa Ak):Aa Ak:=fs.foldl Bb []
noncomputable def tbK (fs:Aa Ak):Aa (Aa Ak):=(kys fs).map λf=>[f,(fs.count f:Ak)]
noncomputable def tbl (fs:Aa Ak):Aa (Aa Ak):=_S.uG _H.lexLt (tbK fs)
theorem KE {fs:Aa Ak}{x:Ak}:x∈kys fs↔x∈fs:=by
 unfold kys;rw[u7];simp
theorem W9 (prs:Aa (Pt × Pt))(f:Ak):(prs.filter λx=>zA x == f).length=(prs.map zA).count f:=by
 rw[List.count,List.countP_map,List.countP_eq_length_filter];rfl
noncomputable def ctD (fs:Aa Ak)(k:_L.Key):D:=match k with
 |.inl f=>.tup [.int f,.int (fs.count f:Ak)]
 |.inr _=>.non
theorem B3 (ks:Aa (Aa Ak))(hl:ks.length<=100000)(he:∀ k∈ks,k≠[]):kS (ks.map tpD)=Ab ((_S.uG _H.lexLt ks).map tpD):=by
 unfold kS;cases ks with
 |nil =>
  have e1:_S.uG _S.ltI [] = []:=Vo;have e2:_S.uG _H.lexLt [] = []:=Vo;show (if ([] : Aa Ak).length<=100000 then Ab ((_S.uG _S.ltI []).map D.int) else none)=_
  rw[e1,e2,Bp (by simp)]
  rfl
 |cons k r =>
  have h0:zP ((k::r).map tpD)=none:=rfl;rw[h0,gZ];have h2:((k::r).all λk=>!k.isEmpty)=true:=Ca.mpr λq hq=>by
   have:=he q hq;cases q with
   |nil=>exact absurd rfl this
   |cons _ _=>rfl
  have h3:(decide ((k::r).length<=100000)&&(k::r).all λk=>!k.isEmpty)=true:=by rw[h2,Cp hl];rfl
  show (if (decide ((k::r).length<=100000)&&(k::r).all λk=>!k.isEmpty)=true then _ else _)=_
  rw[Bp h3]
end _D
namespace _K
open PySem PySem.Spec PyProof.Rows _L _D
noncomputable def top (i:Ai):Fx:=Pz.main.body.getD i (.Pass ⟨0,0,0,0⟩)
structure Cl where
 (FarError NoLot NoNumber NoMarks:Af)
noncomputable def aF (c:Cl):Aa Af:=[c.NoLot,c.NoNumber,c.NoMarks]
noncomputable def F2 (c:Cl):Aa Ac:=[.ref c.NoLot,.ref c.NoNumber,.ref c.NoMarks]
noncomputable abbrev clt (c:Cl):Aa (Av × Af):=[("FarError",c.FarError),("NoLot",c.NoLot),("NoNumber",c.NoNumber),("NoMarks",c.NoMarks)]
noncomputable abbrev plt (c:Cl):Aa (Av × Af):=[("NoLot",c.NoLot),("NoNumber",c.NoNumber),("NoMarks",c.NoMarks)]
noncomputable abbrev cst:Aa (Av × Ak):=[("LEAST_NUMBER",-1000),("MOST_NUMBER",1000),("MOST_POINTS",40),("MOST_MARKS",20),("MOST_MARK",1000),("MOST_SHORTEST",6)]
noncomputable abbrev bl:Aa Av:=["ValueError","all","bool","enumerate","int","isinstance","len","range","set","sorted","tuple","zip"]
noncomputable abbrev tab:Aa (Av × Ai × Aa Av):=[(("is_whole" : Av),(6:Ai),[("thing" : Av)]),(("is_within" : Av),(7:Ai),[("thing" : Av),("least" : Av),("most" : Av)]),(("is_rising" : Av),(8:Ai),[("some" : Av)]),(("need_within" : Av),(9:Ai),[("thing" : Av),("least" : Av),("most" : Av)]),(("is_point" : Av),(14:Ai),[("thing" : Av)]),(("is_lot" : Av),(15:Ai),[("thing" : Av)]),(("need_lot" : Av),(16:Ai),[("thing" : Av)]),(("far_between" : Av),(17:Ai),[("one" : Av),("other" : Av)]),(("pairs_by_far" : Av),(18:Ai),[("points" : Av)]),(("far_table" : Av),(19:Ai),[("lot" : Av)]),(("fars" : Av),(20:Ai),[("lot" : Av)]),(("first_like" : Av),(22:Ai),[("lot" : Av)]),(("are_marks" : Av),(27:Ai),[("thing" : Av)]),(("need_marks" : Av),(28:Ai),[("thing" : Av)]),(("differences" : Av),(29:Ai),[("marks" : Av)]),(("are_all_unlike" : Av),(30:Ai),[("numbers" : Av)]),(("gaps" : Av),(31:Ai),[("marks" : Av)]),(("is_even" : Av),(32:Ai),[("marks" : Av)]),(("first_twice" : Av),(33:Ai),[("marks" : Av)]),(("unlike_up_to" : Av),(34:Ai),[("n" : Av),("last" : Av)]),(("shortest_marks" : Av),(35:Ai),[("n" : Av)]),(("shortest" : Av),(36:Ai),[("n" : Av)]),(("unlike_by" : Av),(37:Ai),[("marks" : Av),("m" : Av)]),(("as_lot" : Av),(38:Ai),[("marks" : Av)]),(("_law_cell" : Av),(40:Ai),[("_law_script" : Av),("_law_k" : Av)]),(("_law_pen" : Av),(41:Ai),[("_law_cell_here" : Av)]),(("_law_draw" : Av),(42:Ai),[("_law_pen_here" : Av),("_law_many" : Av)]),(("_law_marks" : Av),(43:Ai),[("_law_pen_here" : Av),("_law_most" : Av)]),(("_law_right" : Av),(44:Ai),[("_law_marks_here" : Av),("_law_m" : Av)]),(("law" : Av),(45:Ai),[("_law_script" : Av)])]
abbrev Txt (K:Aj)(mg:Av->Am Ac)(c:Cl):Prop:=TxS K mg top tab bl (clt c) (plt c) (F2 c) (aF c) cst
noncomputable abbrev MS:Aa Av:=[]
@[reducible] def b_is_whole:DS:=qW (gK (qU vI (q8 (q9 0) (q8 (dC (.ty "int")) (qA)))) (XJ (qU vI (q8 (q9 0) (q8 (dC (.ty "bool")) (qA))))))
@[irreducible] def S_is_whole:DF:=sh (qQ 1 b_is_whole)
theorem kZ:S_is_whole=qQ 1 b_is_whole:=by delta S_is_whole;exact zK _
@[reducible] def b_is_within:DS:=qW (gK (qH 1 S_is_whole (q8 (q9 0) (qA))) (w6 gLe gLe (q9 1) (q9 0) (q9 2)))
@[irreducible] def S_is_within:DF:=sh (qQ 3 b_is_within)
theorem jD:S_is_within=qQ 3 b_is_within:=by delta S_is_within;exact zK _
@[reducible] def b_is_rising:DS:=qW (qU (gP false) (q8 (zB false [none,none] (xG (gM (q8 (q9 0) (q8 (dSl (q9 0) (x9 (dC (.int 1))) (xU)) (qA))))) (gTp 2 (zM (gNm 0) (zM (gNm 1) (wU)))) (x8) (zH (d2 mY (q9 0) (q9 1)))) (qA)))
@[irreducible] def S_is_rising:DF:=sh (qQ 1 b_is_rising)
theorem yS:S_is_rising=qQ 1 b_is_rising:=by delta S_is_rising;exact zK _
@[reducible] def b_need_within (c:Cl):DS:=sIf (xO (dTr (qH 3 S_is_within (q8 (q9 0) (q8 (q9 1) (q8 (q9 2) (qA))))))) (jK (.ref c.NoNumber) (q8 (aJ [dC (.str "a whole number from "),d1 mW (q9 1),dC (.str " to "),d1 mW (q9 2),dC (.str " is needed")]) (qA))) (zO)
@[irreducible] def S_need_within (c:Cl):DF:=sh (qQ 3 (b_need_within c))
theorem vX (c:Cl):S_need_within c=qQ 3 (b_need_within c):=by delta S_need_within;exact zK _
@[reducible] def b_is_point:DS:=qT (sIf (u4 (xO (dTr (qU vI (q8 (q9 0) (q8 (dC (.ty "tuple")) (qA)))))) (dTr (d2 gNe (qU xE (q8 (q9 0) (qA))) (dC (.int 2))))) (qW (dC (.bl false))) (zO)) (qW (qU (gP false) (q8 (zB false [none] (dIt (q9 0)) (gNm 0) (x8) (zH (qH 3 (okO S_is_within) (q8 (q9 0) (q8 (dC (.int (-1000))) (q8 (dC (.int (1000))) (qA))))))) (qA))))
@[irreducible] def S_is_point:DF:=sh (qQ 1 b_is_point)
theorem kY:S_is_point=qQ 1 b_is_point:=by delta S_is_point;exact zK _
@[reducible] def b_is_lot:DS:=qT (sIf (u4 (xO (dTr (qU vI (q8 (q9 0) (q8 (dC (.ty "tuple")) (qA)))))) (xO (dTr (w6 gLe gLe (dC (.int 1)) (qU xE (q8 (q9 0) (qA))) (dC (.int (40))))))) (qW (dC (.bl false))) (zO)) (qW (gK (qU (gP false) (q8 (zB false [none] (dIt (q9 0)) (gNm 0) (x8) (zH (qH 1 (okO S_is_point) (q8 (q9 0) (qA))))) (qA))) (qH 1 S_is_rising (q8 (q9 0) (qA)))))
@[irreducible] def S_is_lot:DF:=sh (qQ 1 b_is_lot)
theorem pX:S_is_lot=qQ 1 b_is_lot:=by delta S_is_lot;exact zK _
@[reducible] def b_need_lot (c:Cl):DS:=sIf (xO (dTr (qH 1 S_is_lot (q8 (q9 0) (qA))))) (jK (.ref c.NoLot) (q8 (dC (.str "a lot is needed")) (qA))) (zO)
@[irreducible] def S_need_lot (c:Cl):DF:=sh (qQ 1 (b_need_lot c))
theorem g9 (c:Cl):S_need_lot c=qQ 1 (b_need_lot c):=by delta S_need_lot;exact zK _
@[reducible] def b_far_between:DS:=qT (zZ (d2 wB (d2 gIx (q9 0) (dC (.int 0))) (d2 gIx (q9 1) (dC (.int 0)))) (gNm 2)) (qT (zZ (d2 wB (d2 gIx (q9 0) (dC (.int 1))) (d2 gIx (q9 1) (dC (.int 1)))) (gNm 3)) (qW (d2 xA (d2 xF (q9 2) (q9 2)) (d2 xF (q9 3) (q9 3)))))
@[irreducible] def S_far_between:DF:=sh (qQ 4 b_far_between)
theorem vV:S_far_between=qQ 4 b_far_between:=by delta S_far_between;exact zK _
@[reducible] def b_pairs_by_far:DS:=qT (zZ (aI) (gNm 1)) (qT (kQ (pD (q8 (q9 0) (qA))) (gTp 2 (zM (gNm 2) (zM (gNm 3) (wU)))) (kQ (vZ (dSl (q9 0) (x9 (d2 xA (q9 2) (dC (.int 1)))) (xU))) (gNm 4) (y9 (dBm "list" wR (dBm "dict" w9 (q9 1) (q8 (qH 2 S_far_between (q8 (q9 3) (q8 (q9 4) (qA)))) (q8 (fD (qA)) (qA)))) (q8 (wW (q8 (q9 3) (q8 (q9 4) (qA)))) (qA)))))) (qW (q9 1)))
@[irreducible] def S_pairs_by_far:DF:=sh (qQ 5 b_pairs_by_far)
theorem vJ:S_pairs_by_far=qQ 5 b_pairs_by_far:=by delta S_pairs_by_far;exact zK _
@[reducible] def b_far_table (c:Cl):DS:=qT (y9 (qH 1 (S_need_lot c) (q8 (q9 0) (qA)))) (qW (qU pH (q8 (zB false [none,none] (xG (fB (qH 1 S_pairs_by_far (q8 (q9 0) (qA))))) (gTp 2 (zM (gNm 0) (zM (gNm 1) (wU)))) (x8) (zH (wW (q8 (q9 0) (q8 (qU xE (q8 (q9 1) (qA))) (qA)))))) (qA))))
@[irreducible] def S_far_table (c:Cl):DF:=sh (qQ 1 (b_far_table c))
theorem jC (c:Cl):S_far_table c=qQ 1 (b_far_table c):=by delta S_far_table;exact zK _
@[reducible] def b_fars (c:Cl):DS:=qW (zB false [none,none] (dIt (qH 1 (S_far_table c) (q8 (q9 0) (qA)))) (gTp 2 (zM (gNm 0) (zM (gNm 1) (wU)))) (x8) (zH (q9 0)))
@[irreducible] def S_fars (c:Cl):DF:=sh (qQ 1 (b_fars c))
theorem nF (c:Cl):S_fars c=qQ 1 (b_fars c):=by delta S_fars;exact zK _
@[reducible] def b_first_like (c:Cl):DS:=qT (y9 (qH 1 (S_need_lot c) (q8 (q9 0) (qA)))) (qT (kQ (fG (qH 1 S_pairs_by_far (q8 (q9 0) (qA)))) (gNm 1) (sIf (dTr (d2 gGt (qU xE (q8 (q9 1) (qA))) (dC (.int 1)))) (qW (d2 xA (d2 gIx (q9 1) (dC (.int 0))) (d2 gIx (q9 1) (dC (.int 1))))) (zO))) (qW (dC .non)))
@[irreducible] def S_first_like (c:Cl):DF:=sh (qQ 2 (b_first_like c))
theorem uL (c:Cl):S_first_like c=qQ 2 (b_first_like c):=by delta S_first_like;exact zK _
@[reducible] def b_are_marks:DS:=qT (sIf (u4 (xO (dTr (qU vI (q8 (q9 0) (q8 (dC (.ty "tuple")) (qA)))))) (xO (dTr (w6 gLe gLe (dC (.int 1)) (qU xE (q8 (q9 0) (qA))) (dC (.int (20))))))) (qW (dC (.bl false))) (zO)) (qT (sIf (u4 (xO (dTr (qU (gP false) (q8 (zB false [none] (dIt (q9 0)) (gNm 0) (x8) (zH (qH 1 (okO S_is_whole) (q8 (q9 0) (qA))))) (qA))))) (xO (dTr (qH 1 S_is_rising (q8 (q9 0) (qA)))))) (qW (dC (.bl false))) (zO)) (qW (gK (d2 gEq (d2 gIx (q9 0) (dC (.int 0))) (dC (.int 0))) (d2 gLe (d2 gIx (q9 0) (d1 yT (dC (.int 1)))) (dC (.int (1000)))))))
@[irreducible] def S_are_marks:DF:=sh (qQ 1 b_are_marks)
theorem jB:S_are_marks=qQ 1 b_are_marks:=by delta S_are_marks;exact zK _
@[reducible] def b_need_marks (c:Cl):DS:=sIf (xO (dTr (qH 1 S_are_marks (q8 (q9 0) (qA))))) (jK (.ref c.NoMarks) (q8 (dC (.str "marks are needed")) (qA))) (zO)
@[irreducible] def S_need_marks (c:Cl):DF:=sh (qQ 1 (b_need_marks c))
theorem uM (c:Cl):S_need_marks c=qQ 1 (b_need_marks c):=by delta S_need_marks;exact zK _
@[reducible] def b_differences:DS:=qW (zB false [none,none,none,Ab 0] (xG (pD (q8 (q9 0) (qA)))) (gTp 2 (zM (gNm 0) (zM (gNm 1) (wU)))) (x8) (kIn (dIt (dSl (q9 3) (x9 (d2 xA (q9 0) (dC (.int 1)))) (xU))) (gNm 2) (x8) (zH (d2 wB (q9 2) (q9 1)))))
@[irreducible] def S_differences:DF:=sh (qQ 1 b_differences)
theorem vU:S_differences=qQ 1 b_differences:=by delta S_differences;exact zK _
@[reducible] def b_are_all_unlike:DS:=qW (d2 gEq (jU (q9 0)) (qU xE (q8 (q9 0) (qA))))
@[irreducible] def S_are_all_unlike:DF:=sh (qQ 1 b_are_all_unlike)
theorem yQ:S_are_all_unlike=qQ 1 b_are_all_unlike:=by delta S_are_all_unlike;exact zK _
@[reducible] def b_gaps (c:Cl):DS:=qT (y9 (qH 1 (S_need_marks c) (q8 (q9 0) (qA)))) (qW (v7 false (qH 1 S_differences (q8 (q9 0) (qA)))))
@[irreducible] def S_gaps (c:Cl):DF:=sh (qQ 1 (b_gaps c))
theorem nG (c:Cl):S_gaps c=qQ 1 (b_gaps c):=by delta S_gaps;exact zK _
@[reducible] def b_is_even (c:Cl):DS:=qT (y9 (qH 1 (S_need_marks c) (q8 (q9 0) (qA)))) (qW (d2 gLe (lN pF [none,none] (xG (gM (q8 (q9 0) (q8 (dSl (q9 0) (x9 (dC (.int 1))) (xU)) (qA))))) (gTp 2 (zM (gNm 0) (zM (gNm 1) (wU)))) (x8) (gR uV (d2 wB (q9 1) (q9 0)))) (dC (.int 1))))
@[irreducible] def S_is_even (c:Cl):DF:=sh (qQ 1 (b_is_even c))
theorem gG (c:Cl):S_is_even c=qQ 1 (b_is_even c):=by delta S_is_even;exact zK _
@[reducible] def b_as_lot (c:Cl):DS:=qT (y9 (qH 1 (S_need_marks c) (q8 (q9 0) (qA)))) (qW (qU v8 (q8 (zB false [none] (dIt (q9 0)) (gNm 0) (x8) (zH (wW (q8 (q9 0) (q8 (dC (.int 0)) (qA)))))) (qA))))
@[irreducible] def S_as_lot (c:Cl):DF:=sh (qQ 1 (b_as_lot c))
theorem pW (c:Cl):S_as_lot c=qQ 1 (b_as_lot c):=by delta S_as_lot;exact zK _
@[reducible] def b_first_twice (c:Cl):DS:=qT (zZ (qH 1 (S_first_like c) (q8 (qH 1 (S_as_lot c) (q8 (q9 0) (qA))) (qA))) (gNm 1)) (qW (dIf (dTr (d2 gIs (q9 1) (dC .non))) (dC .non) (qU v8 (q8 (zB false [none,none] (dIt (q9 1)) (gTp 2 (zM (gNm 0) (zM (gNm 1) (wU)))) (x8) (zH (q9 0))) (qA)))))
@[irreducible] def S_first_twice (c:Cl):DF:=sh (qQ 2 (b_first_twice c))
theorem vW (c:Cl):S_first_twice c=qQ 2 (b_first_twice c):=by delta S_first_twice;exact zK _
@[reducible] def b_unlike_up_to:DS:=qT (zZ (gL (q8 (wW (q8 (dC (.int 0)) (qA))) (qA))) (gNm 2)) (qT (kQ (uY (q8 (d2 wB (q9 0) (dC (.int 1))) (qA))) (gNm 3) (qT (zZ (zB false [none,none,Ab 1] (dIt (q9 2)) (gNm 0) (x8) (kIn (xG (uY (q8 (d2 xA (d2 gIx (q9 0) (d1 yT (dC (.int 1)))) (dC (.int 1))) (q8 (d2 xA (q9 2) (dC (.int 1))) (qA))))) (gNm 1) (x8) (zH (d2 xA (q9 0) (wW (q8 (q9 1) (qA))))))) (gNm 4)) (zZ (zB false [none] (dIt (q9 4)) (gNm 0) (xX (dTr (qH 1 (okO S_are_all_unlike) (q8 (qH 1 (okO S_differences) (q8 (q9 0) (qA))) (qA)))) (x8)) (zH (q9 0))) (gNm 2)))) (qW (q9 2)))
@[irreducible] def S_unlike_up_to:DF:=sh (qQ 5 b_unlike_up_to)
theorem vK:S_unlike_up_to=qQ 5 b_unlike_up_to:=by delta S_unlike_up_to;exact zK _
@[reducible] def b_shortest_marks (c:Cl):DS:=qT (y9 (qH 3 (S_need_within c) (q8 (q9 0) (q8 (dC (.int 1)) (q8 (dC (.int (6))) (qA)))))) (qT (zZ (d2 bN (d2 xF (q9 0) (d2 wB (q9 0) (dC (.int 1)))) (dC (.int 2))) (gNm 1)) (qT (zZ (qH 2 S_unlike_up_to (q8 (q9 0) (q8 (q9 1) (qA)))) (gNm 2)) (qT (m8 (xO (dTr (q9 2))) (qT (gW 1 fL (dC (.int 1))) (zZ (qH 2 S_unlike_up_to (q8 (q9 0) (q8 (q9 1) (qA)))) (gNm 2)))) (qW (q9 2)))))
@[irreducible] def S_shortest_marks (c:Cl):DF:=sh (qQ 3 (b_shortest_marks c))
theorem yR (c:Cl):S_shortest_marks c=qQ 3 (b_shortest_marks c):=by delta S_shortest_marks;exact zK _
@[reducible] def b_shortest (c:Cl):DS:=qW (d2 gIx (d2 gIx (qH 1 (S_shortest_marks c) (q8 (q9 0) (qA))) (dC (.int 0))) (d1 yT (dC (.int 1))))
@[irreducible] def S_shortest (c:Cl):DF:=sh (qQ 1 (b_shortest c))
theorem gA (c:Cl):S_shortest c=qQ 1 (b_shortest c):=by delta S_shortest;exact zK _
@[reducible] def b_unlike_by (c:Cl):DS:=qT (y9 (qH 1 (S_need_marks c) (q8 (q9 0) (qA)))) (qT (y9 (qH 3 (S_need_within c) (q8 (q9 1) (q8 (dC (.int 1)) (q8 (d2 aS (dC (.int 10)) (dC (.int 6))) (qA)))))) (qT (zZ (zB false [none,none,Ab 1,Ab 0] (dIt (q9 0)) (gNm 0) (x8) (kIn (dIt (q9 3)) (gNm 1) (xX (dTr (d2 gNe (q9 0) (q9 1))) (x8)) (zH (d2 u9 (d2 wB (q9 0) (q9 1)) (q9 2))))) (gNm 2)) (qW (gK (d2 v9 (dC (.int 0)) (q9 2)) (qH 1 S_are_all_unlike (q8 (q9 2) (qA)))))))
@[irreducible] def S_unlike_by (c:Cl):DF:=sh (qQ 3 (b_unlike_by c))
theorem jE (c:Cl):S_unlike_by c=qQ 3 (b_unlike_by c):=by delta S_unlike_by;exact zK _
@[reducible] def b__law_cell:DS:=qT (sIf (dTr (d2 gLt (q9 1) (qU xE (q8 (q9 0) (qA))))) (qW (d2 gIx (q9 0) (q9 1))) (zO)) (qW (dC (.int 0)))
@[irreducible] def S__law_cell:DF:=sh (qQ 2 b__law_cell)
theorem j9:S__law_cell=qQ 2 b__law_cell:=by delta S__law_cell;exact zK _
@[reducible] def b__law_pen:DS:=qW (fD (q8 (q9 0) (q8 (qU aQ (q8 (d2 gGe (q9 0) (d2 aS (dC (.int 10)) (dC (.int 18)))) (qA))) (qA))))
@[irreducible] def S__law_pen:DF:=sh (qQ 1 b__law_pen)
theorem kX:S__law_pen=qQ 1 b__law_pen:=by delta S__law_pen;exact zK _
@[reducible] def b__law_draw:DS:=qT (sIf (dTr (d2 gEq (d2 gIx (q9 0) (dC (.int 1))) (dC (.int 1)))) (qT (zZ (d2 u9 (d2 gIx (q9 0) (dC (.int 0))) (q9 1)) (gNm 2)) (qT (zZ (d2 bN (d2 gIx (q9 0) (dC (.int 0))) (q9 1)) (gSb (q9 0) (dC (.int 0)) yY)) (qW (q9 2)))) (zO)) (qT (zZ (d2 u9 (d2 xA (d2 xF (d2 u9 (d2 gIx (q9 0) (dC (.int 0))) (dC (.int 2147483629))) (dC (.int 48271))) (dC (.int 11))) (dC (.int 2147483629))) (gSb (q9 0) (dC (.int 0)) yY)) (qW (d2 u9 (d2 bN (d2 u9 (d2 xA (d2 xF (d2 gIx (q9 0) (dC (.int 0))) (d2 gIx (q9 0) (dC (.int 0)))) (d2 xF (dC (.int 40692)) (d2 gIx (q9 0) (dC (.int 0))))) (dC (.int 2147483647))) (dC (.int 8))) (q9 1))))
@[irreducible] def S__law_draw:DF:=sh (qQ 3 b__law_draw)
theorem jA:S__law_draw=qQ 3 b__law_draw:=by delta S__law_draw;exact zK _
@[reducible] def b__law_marks:DS:=qT (bU 2 3 (q8 (qH 2 S__law_draw (q8 (q9 0) (q8 (dC (.int 5)) (qA)))) (q8 (d2 xA (dC (.int 1)) (qH 2 S__law_draw (q8 (q9 0) (q8 (q9 1) (qA))))) (qA)))) (qT (zZ (wW (q8 (d2 xA (dC (.int 1)) (qH 2 S__law_draw (q8 (q9 0) (q8 (dC (.int 50)) (qA))))) (q8 (d2 gIx (gL (q8 (d2 xA (q9 3) (dC (.int 2))) (q8 (d2 xF (dC (.int 3)) (q9 3)) (q8 (dC (.int 1000)) (qA))))) (qH 2 S__law_draw (q8 (q9 0) (q8 (dC (.int 3)) (qA))))) (qA)))) (gTp 2 (zM (gNm 4) (zM (gNm 5) (wU))))) (qT (sIf (dTr (d2 gEq (q9 2) (dC (.int 0)))) (qW (qU v8 (q8 (zB false [none,Ab 4] (xG (uY (q8 (q9 3) (qA)))) (gNm 0) (x8) (zH (d2 xF (q9 0) (q9 1)))) (qA)))) (zO)) (qT (sIf (dTr (d2 gEq (q9 2) (dC (.int 1)))) (qT (zZ (gL (q8 (wW (q8 (dC (.int 0)) (q8 (dC (.int 1)) (q8 (dC (.int 4)) (q8 (dC (.int 6)) (qA)))))) (q8 (wW (q8 (dC (.int 0)) (q8 (dC (.int 1)) (q8 (dC (.int 4)) (q8 (dC (.int 9)) (q8 (dC (.int 11)) (qA))))))) (q8 (wW (q8 (dC (.int 0)) (q8 (dC (.int 2)) (q8 (dC (.int 5)) (q8 (dC (.int 6)) (qA)))))) (q8 (wW (q8 (dC (.int 0)) (q8 (dC (.int 1)) (q8 (dC (.int 3)) (q8 (dC (.int 9)) (qA)))))) (q8 (wW (q8 (dC (.int 0)) (q8 (dC (.int 1)) (q8 (dC (.int 4)) (q8 (dC (.int 14)) (q8 (dC (.int 16)) (qA))))))) (qA))))))) (gNm 6)) (qW (dSl (d2 gIx (q9 6) (d2 u9 (q9 4) (dC (.int 5)))) (xU) (x9 (q9 3))))) (zO)) (qT (zZ (v7 false (zB false [none,Ab 0,Ab 5] (xG (uY (q8 (q9 3) (qA)))) (gNm 0) (x8) (zH (d2 xA (dC (.int 1)) (qH 2 (okO S__law_draw) (q8 (q9 1) (q8 (q9 2) (qA)))))))) (gNm 7)) (qW (d2 xA (wW (q8 (dC (.int 0)) (qA))) (dSl (qU v8 (q8 (q9 7) (qA))) (xU) (x9 (d2 wB (q9 1) (dC (.int 1)))))))))))
@[irreducible] def S__law_marks:DF:=sh (qQ 8 b__law_marks)
theorem uJ:S__law_marks=qQ 8 b__law_marks:=by delta S__law_marks;exact zK _
@[reducible] def b__law_right (c:Cl):DS:=qT (bU 2 3 (q8 (qU xE (q8 (q9 0) (qA))) (q8 (qH 1 (S_gaps c) (q8 (q9 0) (qA))) (qA)))) (qT (sIf (u4 (dTr (d2 gLt (qU xE (q8 (q9 3) (qA))) (d2 wB (q9 2) (dC (.int 1))))) (dTr (d2 gNe (d2 gEq (qU xE (q8 (q9 3) (qA))) (d2 wB (q9 2) (dC (.int 1)))) (qH 1 (S_is_even c) (q8 (q9 0) (qA)))))) (qW (dC (.bl false))) (zO)) (qT (sIf (dTr (d2 gNe (d2 gEq (d2 xF (dC (.int 2)) (qU xE (q8 (q9 3) (qA)))) (d2 xF (q9 2) (d2 wB (q9 2) (dC (.int 1))))) (d2 gIs (qH 1 (S_first_twice c) (q8 (q9 0) (qA))) (dC .non)))) (qW (dC (.bl false))) (zO)) (qT (sIf (xX (dTr (qH 2 (S_unlike_by c) (q8 (q9 0) (q8 (q9 1) (qA))))) (u4 (dTr (d2 jG (qH 1 (S_first_twice c) (q8 (q9 0) (qA))) (dC .non))) (dTr (d2 gLe (q9 1) (d2 xF (q9 2) (d2 wB (q9 2) (dC (.int 1)))))))) (qW (dC (.bl false))) (zO)) (qT (sIf (dTr (d2 gNe (d2 gIs (qH 1 (S_first_twice c) (q8 (q9 0) (qA))) (dC .non)) (qH 2 (S_unlike_by c) (q8 (q9 0) (q8 (d2 xA (d2 xF (dC (.int 2)) (d2 gIx (q9 0) (d1 yT (dC (.int 1))))) (dC (.int 1))) (qA)))))) (qW (dC (.bl false))) (zO)) (qT (sIf (xO (dTr (d2 WB (qH 1 S_is_lot (q8 (qH 1 (S_as_lot c) (q8 (q9 0) (qA))) (qA))) (dC (.bl true))))) (qW (dC (.bl false))) (zO)) (qW (d2 gEq (qH 1 (S_fars c) (q8 (qH 1 (S_as_lot c) (q8 (q9 0) (qA))) (qA))) (zB false [none] (dIt (q9 3)) (gNm 0) (x8) (zH (d2 xF (q9 0) (q9 0)))))))))))
@[irreducible] def S__law_right (c:Cl):DF:=sh (qQ 4 (b__law_right c))
theorem uK (c:Cl):S__law_right c=qQ 4 (b__law_right c):=by delta S__law_right;exact zK _
@[reducible] def b_law (c:Cl):DS:=qT (kQ (vZ (d2 xA (gL (q8 (qH 2 S__law_cell (q8 (q9 0) (q8 (dC (.int 0)) (qA)))) (qA))) (dSl (q9 0) (x9 (dC (.int 1))) (x9 (dC (.int 6)))))) (gNm 1) (qT (zZ (qH 1 S__law_pen (q8 (q9 1) (qA))) (gNm 2)) (qT (bU 3 4 (q8 (qH 2 S__law_marks (q8 (q9 2) (q8 (dC (.int 12)) (qA)))) (q8 (d2 xA (dC (.int 1)) (qH 2 S__law_draw (q8 (q9 2) (q8 (dC (.int 6)) (qA))))) (qA)))) (qT (sIf (xO (dTr (qH 2 (S__law_right c) (q8 (q9 3) (q8 (d2 xA (dC (.int 1)) (qH 2 S__law_draw (q8 (q9 2) (q8 (dC (.int 300)) (qA))))) (qA)))))) (qW (dC (.bl false))) (zO)) (qT (zZ (wW (q8 (qH 1 (S_shortest_marks c) (q8 (q9 4) (qA))) (q8 (qH 1 (S_shortest c) (q8 (q9 4) (qA))) (qA)))) (gTp 2 (zM (gNm 5) (zM (gNm 6) (wU))))) (qT (kQ (vZ (q9 5)) (gNm 7) (qT (zZ (qU v8 (q8 (zB false [none,Ab 6] (dIt (fE (q9 7) (d1 yT (dC (.int 1))))) (gNm 0) (x8) (zH (d2 wB (q9 1) (q9 0)))) (qA))) (gNm 8)) (qT (sIf (dTr (d2 gNe (d2 gIx (q9 7) (d1 yT (dC (.int 1)))) (q9 6))) (qW (dC (.bl false))) (zO)) (qT (sIf (dTr (d2 v9 (q9 8) (q9 5))) (qW (dC (.bl false))) (zO)) (qT (sIf (dTr (d2 mX (qH 1 S_are_marks (q8 (q9 7) (qA))) (dC (.bl true)))) (qW (dC (.bl false))) (zO)) (qT (sIf (dTr (d2 gNe (qU xE (q8 (q9 7) (qA))) (q9 4))) (qW (dC (.bl false))) (zO)) (sIf (u4 (xO (dTr (qH 2 (S__law_right c) (q8 (q9 7) (q8 (d2 xA (dC (.int 1)) (qH 2 S__law_draw (q8 (q9 2) (q8 (dC (.int 60)) (qA))))) (qA)))))) (dTr (d2 jG (qH 1 (S_first_twice c) (q8 (q9 7) (qA))) (dC .non)))) (qW (dC (.bl false))) (zO)))))))) (sIf (xX (dTr (d2 gEq (q9 4) (qU xE (q8 (q9 3) (qA))))) (xX (dTr (d2 gIs (qH 1 (S_first_twice c) (q8 (q9 3) (qA))) (dC .non))) (dTr (d2 gLt (d2 gIx (q9 3) (d1 yT (dC (.int 1)))) (q9 6))))) (qW (dC (.bl false))) (zO)))))))) (qW (dC (.bl true)))
end _K
namespace _K
open PySem _D
variable {ms ns:Aa Ak}{M i n:Ai}{f:DE}{Q:D->Sto->Prop}{S:Sto}{env:qC}
theorem cE {d:D}(h:Pn d)(S:Sto):S_is_whole [d] S=.ok (.bl (isW d)) S:=by
 rw[kZ];obtain⟨p,h⟩:=h;cases d <;> first|kernel_rfl!|simp[pyD] at h
theorem sW {d:D}(h:Pn d)(a b:Ak)(S:Sto):S_is_within [d,.int a,.int b] S=.ok (.bl (inR a b d)) S:=by
 rw[jD];refine zS (qZ (env:=[Ab d,Ab (.int a),Ab (.int b)]) rfl ?_);rfl';refine lV ?_;rfl';refine qL (cE h S) ⟨_,rfl,λe=>?_,λe=>?_⟩
 .cases d with
  |int i=>exact tQ rfl rfl rfl ⟨rfl,rfl⟩
  |_=>cases e
 .cases d <;> first|exact⟨rfl,rfl⟩|cases e
theorem iL {d:D}(h:Pn d)(S:Sto):S_is_point [d] S=.ok (.bl (wX d)) S:=by
 rw[kY];refine zS (qZ (env:=[Ab d]) rfl ?_);rfl';refine kI ?_;rfl';refine qL (i0 h S) ?_;rfl';refine⟨λe=>?_,λe=>?_⟩
 .rfl'
  exact⟨by rw[MI (by simpa using e)],rfl⟩
 .cases d with
  |tup xs =>
   rfl';refine uU (λe=>?_) λe=>?_
   .rfl'
    refine w8 (enc:=id) (o:=none) xs (λx=>.bl (isI x)) (λenv S'=>S'=S/\∃ a,env=[a]) ((tB rfl).trans (by rw[OR])) ⟨rfl,none,rfl⟩ (by unfold lim;lia) (λ_ _ _=>trivial) (λx hx env S' ⟨e1,a,e2⟩=>?_) λenv S' ⟨e1,_⟩=>?_
    .subst e1 e2
     rfl';exact qL (sW (sS h x hx) _ _ _) ⟨rfl,rfl,_,rfl⟩
    .subst e1
     rfl';exact fU ⟨by rw[MG li],rfl⟩
   .rfl'
    exact⟨by rw[MH li],rfl⟩
  |_=>cases e
theorem YS (qs:Aa Pt)(hl:qs.length<=1000)(S:Sto):S_is_rising [xZ qs] S=.ok (.bl (upB (qs.map kP))) S:=by
 rw[yS];refine zS (qZ (env:=[Ab (.tup (qs.map ptD))]) rfl ?_);rfl';have hz:xG (gM (q8 (q9 0) (q8 (dSl (q9 0) (x9 (dC (.int 1))) (xU)) (qA)))) [Ab (.tup (qs.map ptD))] S=.ok (none,(((qs.map kP).zip ((qs.map kP).drop 1)).map λp=>D.tup [tpD p.1,tpD p.2])) S:=by
  show Res.ok (none,wL (qs.map ptD) (xK (qs.map ptD) (Ab 1) none)) S=_;rw[aH,sF,<- Lb,DC]
 refine w8 _ (λp=>.bl (_H.lexLt p.1 p.2)) (λenv S'=>S'=S/\∃ a b,env=[a,b]) hz ⟨rfl,none,none,rfl⟩ ?_ (λ_ _ _=>trivial) (λx hx env S' ⟨e1,a,b,e2⟩=>?_) λenv S' ⟨e1,_⟩=>?_
 .rw[Lo,Ao]
  unfold lim
  lia
 .subst e1 e2
  rfl';exact qL (SR _ _ _) ⟨rfl,rfl,_,_,rfl⟩
 .subst e1
  rfl';exact fU ⟨rfl,rfl⟩
theorem sU {d:D}(h:Pn d)(S:Sto):S_is_lot [d] S=.ok (.bl (lS d)) S:=by
 rw[pX];refine zS (qZ (env:=[Ab d]) rfl ?_);rfl';refine kI ?_;rfl';refine qL (i0 h S) ?_;rfl';refine⟨λe=>?_,λe=>?_⟩
 .rfl'
  exact⟨by rw[K0 (by simpa using e)],rfl⟩
 .cases d with
  |tup xs =>
   rfl';refine tQ (b:=(xs.length:Ak)) rfl rfl rfl ?_;rfl';refine uU (λz=>?_) λz=>?_
   .have hl:1<=xs.length/\xs.length<=40:=by lia
    rfl';refine lV ?_;rfl';refine w8 (enc:=id) (o:=none) xs (λx=>.bl (wX x)) (λenv S'=>S'=S/\∃ a,env=[a]) ((tB rfl).trans (by rw[OR])) ⟨rfl,none,rfl⟩ (by unfold lim;lia) (λ_ _ _=>trivial) (λx hx env S' ⟨e1,a,e2⟩=>?_) λenv S' ⟨e1,_⟩=>?_
    .subst e1 e2
     rfl';exact qL (iL (sS h x hx) _) ⟨rfl,rfl,_,rfl⟩
    .subst e1
     rfl';refine fU ⟨_,rfl,λha=>?_,λha=>?_⟩
     .obtain⟨qs,rfl,_⟩:=ZD ha
      rw[Ao] at hl;rfl';refine qL (YS qs li _) ⟨?_,rfl⟩;show _=D.bl (decide (1<=(qs.map ptD).length/\(qs.map ptD).length<=40)&&(qs.map ptD).all wX&&(match w5 (qs.map ptD) with|some ks=>upB ks|none=>false))
      rw[ha,Ao,Cp hl,sF,gZ];rfl
     .refine⟨?_,rfl⟩
      show _=D.bl (decide (1<=xs.length/\xs.length<=40)&&xs.all wX&&(match w5 xs with|some ks=>upB ks|none=>false))
      rw[ha,O9,Gu]
   .rfl'
    refine⟨?_,rfl⟩;show _=D.bl (decide (1<=xs.length/\xs.length<=40)&&xs.all wX&&(match w5 xs with|some ks=>upB ks|none=>false))
    rw[Cy li,Gu,Gu]
  |_=>cases e
theorem b0 (c:Cl){d:D}(S:Sto)(h:Pn d)(k:lS d=true):S_need_lot c [d] S=.ok .non S:=by
 rw[g9];refine zS (qZ (env:=[Ab d]) rfl ?_);rfl';refine qL (sU h S) ?_;rw[k];rfl';exact⟨rfl,rfl⟩
theorem vB {p:Ai}{m:Ak}(h:jO S p)(hm:0<m/\m<1073741824)(q:∀ (r:Ai) S1,Kp p S S1->(r:Ak)<m->Q (.int r) S1):Ok (S__law_draw [.loc p,.int m] S) Q:=by
 have fin:∀ r v f:Ak,0<=r->r<m->Q (.int r) (S.set p (.lst [.int v,.int f])):=λr v f h0 h1=>by
  obtain⟨r,rfl⟩:=Rc h0;obtain⟨v0,f0,e⟩:=h;have hpl:=(Bw.mp e).1;exact q r _ ⟨⟨v,f,by simp[hpl]⟩,by simp,λi hi hn=>Cs (Ft hn)⟩ h1
 obtain⟨v,f,e⟩:=h;have hpl:=(Bw.mp e).1;rw[jA];refine qZ (env:=[Ab (.loc p),Ab (.int m),none]) rfl ?_;rfl';refine vR e (d:=.int f) rfl ?_;rfl';refine uU (λz=>?_) λz=>?_
 .rfl'
  refine vR e (d:=.int v) rfl ?_;rfl';refine vR e (d:=.int v) rfl ?_;rfl';refine Z3 e rfl ?_;rfl';exact fin _ _ _ (IN _ om) (Hs _ hm.1)
 .rfl'
  refine vR e (d:=.int v) rfl ?_;have hv:=IN v (show (2147483629:Ak)≠0 by omega)
  have hv':=Hs v (show (0:Ak)<2147483629 by omega)
  rfl';have hw:=IN (v % 2147483629*48271+11) (show (2147483629:Ak)≠0 by omega)
  have hw':=Hs (v % 2147483629*48271+11) (show (0:Ak)<2147483629 by omega)
  generalize (v % 2147483629*48271+11) % 2147483629=w at hw hw';refine Z3 e rfl ?_;have e2:(S.set p (MO.lst [.int w,.int f]))[p]? = Ab (.lst [.int w,.int f]):=by simp[hpl]
  rfl';refine vR e2 (d:=.int w) rfl ?_;rfl';refine vR e2 (d:=.int w) rfl ?_;rfl';refine vR e2 (d:=.int w) rfl ?_;rfl';exact fin _ _ _ (IN _ om) (Hs _ hm.1)
theorem R5 {x:Ak}(q:∀ p S1,jO S1 p->Q (.loc p) S1):Ok (S__law_pen [.int x] S) Q:=by
 rw[kX];refine qZ (env:=[Ab (.int x)]) rfl ?_;rfl';refine qL (d:=.int 1000000000000000000) rfl ?_;rfl';refine qL (d:=.int (b01 (decide (1000000000000000000<=x)))) rfl ?_;rfl';exact q _ _ ⟨_,_,rX _ _⟩
theorem PL (ns:Aa Ak)(hl:ns.length<=63)(k:Ak){Q:Aa D->Sto->Prop}{env:qC}{S:Sto}(h0:env[0]? = Ab (Ab (.lst (ns.map D.int))))(q:∀ ms:Aa Ak,Q (ms.map D.int) S):Ok (vZ (d2 xA (gL (q8 (qH 2 S__law_cell (q8 (q9 0) (q8 (dC (.int 0)) (qA)))) (qA))) (dSl (q9 0) (x9 (dC (.int 1))) (x9 (dC (.int k))))) env S) Q:=by
 have hc:∃ x:Ak,S__law_cell [.lst (ns.map D.int),.int 0] S=.ok (.int x) S:=by
  rw[j9];cases ns with
  |nil=>exact⟨0,zS (qZ (env:=[Ab (.lst []),Ab (.int 0)]) rfl (by rfl';exact⟨rfl,rfl⟩))⟩
  |cons n ns =>
   refine⟨n,zS (qZ (env:=[Ab (.lst ((n::ns).map D.int)),Ab (.int 0)]) rfl ?_)⟩;rfl';refine uU (λ_=>?_) λe=>absurd (by rw[Ao,Bd];omega) e
   rfl';exact iD (mJ (a:=0) (by simp)) ⟨rfl,rfl⟩
 obtain⟨x,hx⟩:=hc;refine KU (o_2 (R4 (gU (MZ (gU (o_v h0 ?_))))));rfl';refine qL hx ?_;rfl';refine o_v h0 ?_;rfl';have hm:xK (ns.map D.int) (Ab 1) (Ab k)=((ns.drop (_H.sIx (ns.map D.int).length 0 (Ab 1))).take (_H.sIx (ns.map D.int).length (ns.map D.int).length (Ab k)-_H.sIx (ns.map D.int).length 0 (Ab 1))).map D.int:=by
  unfold xK;rw[Ur,Lb]
 rw[hm];refine MY ?_ ⟨_,rfl,q (x::_)⟩;rw[Ao,Fc,Ko];show 1+_<=lim;unfold lim;omega
theorem hX (c:Cl){i a b:Ak}(S:Sto)(h:a<=i/\i<=b):S_need_within c [.int i,.int a,.int b] S=.ok .non S:=by
 rw[vX];refine zS (qZ (env:=[Ab (.int i),Ab (.int a),Ab (.int b)]) rfl ?_);rfl';refine qL (sW ⟨.int i,rfl⟩ a b S) ?_;rw[show inR a b (.int i)=true from Cp h]
 rfl';exact⟨rfl,rfl⟩
noncomputable def mkD (ms:Aa Ak):D:=.tup (ms.map D.int)
noncomputable def upI (ns:Aa Ak):Ar:=(ns.zip (ns.drop 1)).all λp=>decide (p.1<p.2)
theorem nD:∀ (ks:Aa Ak),upI ks=true↔ks.Pairwise (· < ·)
 |[]=>by simp[upI]
 |[a]=>by simp[upI]
 |a::b::r=>by
  have ih:=nD (b::r);have e:upI (a::b::r)=(decide (a<b)&&upI (b::r)):=by simp[upI]
  rw[e,Bi,ih,Ch (a:=a),Cb];constructor
  .rintro⟨h1,h2⟩
   refine⟨λx hx=>?_,h2⟩;rcases Ax.mp hx with rfl|hx
   .exact h1
   .exact Int.lt_trans h1 ((Ch.mp h2).1 x hx)
  .rintro⟨h1,h2⟩
   exact⟨h1 b (by simp),h2⟩
theorem cP (ks ms:Aa Ak):wL (ks.map D.int) (ms.map D.int)=(ks.zip ms).map λp=>D.tup [.int p.1,.int p.2]:=by
 unfold wL
 induction ks generalizing ms with
 |nil=>rfl
 |cons k ks ih =>
  cases ms with
  |nil=>rfl
  |cons m ms=>exact congrArg (_::·) (ih ms)
theorem LG (ns:Aa Ak)(hl:ns.length<=1000)(S:Sto):S_is_rising [mkD ns] S=.ok (.bl (upI ns)) S:=by
 rw[yS];refine zS (qZ (env:=[Ab (.tup (ns.map D.int))]) rfl ?_);rfl';have hz:xG (gM (q8 (q9 0) (q8 (dSl (q9 0) (x9 (dC (.int 1))) (xU)) (qA)))) [Ab (.tup (ns.map D.int))] S=.ok (none,((ns.zip (ns.drop 1)).map λp=>D.tup [.int p.1,.int p.2])) S:=by
  show Res.ok (none,wL (ns.map D.int) (xK (ns.map D.int) (Ab 1) none)) S=_;rw[aH,<- Lb,cP]
 refine w8 (ns.zip (ns.drop 1)) (λp:Ak × Ak=>.bl (decide (p.1<p.2))) (λenv S'=>S'=S/\∃ a b,env=[a,b]) hz ⟨rfl,none,none,rfl⟩ ?_ (λ_ _ _=>trivial) (λx hx env S' ⟨e1,a,b,e2⟩=>?_) λenv S' ⟨e1,_⟩=>?_
 .rw[Lo]
  unfold lim
  lia
 .subst e1 e2
  rfl';exact qL (d:=.bl (decide (x.1<x.2))) rfl ⟨rfl,rfl,_,_,rfl⟩
 .subst e1
  rfl';exact fU ⟨rfl,rfl⟩
theorem VG {xs:Aa D}(h:xs≠[]):_L.atI xs (-1)=Ab (xs.getLast h):=by
 have hp:=Ow.mpr h;have e:_L.ixN xs.length (-1)=Ab (xs.length-1):=by
  unfold _L.ixN;simp
  lia
 unfold _L.atI;rw[e];show xs[xs.length-1]? = _;rw[List.getLast_eq_getElem,An li]
noncomputable def dZ:D->Ar
 |.tup xs=>decide (1<=xs.length/\xs.length<=20)&&(xs.all isW&&match zP xs with
  |some ns=>upI ns&&(decide (ns.headD 1=0)&&decide (ns.getLastD 0<=1000))
  |none=>false)
 |_=>false
theorem MF {d:D}(h:isT d=false):dZ d=false:=by
 cases d <;> first|rfl|cases h
theorem eO:∀ {xs:Aa D},xs.all isW=true->∃ ns:Aa Ak,xs=ns.map D.int
 |[],_=>⟨[],rfl⟩
 |d::ds,h=>by
  rw[Nq,Bi] at h;obtain⟨ns,rfl⟩:=eO h.2;cases d with
  |int i=>exact⟨i::ns,rfl⟩
  |_=>cases h.1
theorem cC {d:D}(h:Pn d)(S:Sto):S_are_marks [d] S=.ok (.bl (dZ d)) S:=by
 rw[jB];refine zS (qZ (env:=[Ab d]) rfl ?_);rfl';refine kI ?_;rfl';refine qL (i0 h S) ?_;rfl';refine⟨λe=>?_,λe=>?_⟩
 .rfl'
  exact⟨by rw[MF (by simpa using e)],rfl⟩
 .cases d with
  |tup xs =>
   rfl';refine tQ (b:=(xs.length:Ak)) rfl rfl rfl ?_;rfl';refine uU (λz=>?_) λz=>?_
   .have hl:1<=xs.length/\xs.length<=20:=by lia
    rfl';refine kI ?_;rfl';refine w8 (enc:=id) (o:=none) xs (λx=>.bl (isW x)) (λenv S'=>S'=S/\∃ a,env=[a]) ((tB rfl).trans (by rw[OR])) ⟨rfl,none,rfl⟩ (by unfold lim;lia) (λ_ _ _=>trivial) (λx hx env S' ⟨e1,a,e2⟩=>?_) λenv S' ⟨e1,_⟩=>?_
    .subst e1 e2
     rfl';exact qL (cE (sS h x hx) _) ⟨rfl,rfl,_,rfl⟩
    .subst e1
     rfl';refine fU ?_;rfl';refine⟨λha=>?_,λha=>?_⟩
     .rfl'
      refine⟨?_,rfl⟩;have ha:xs.all isW=false:=by simpa using ha
      show _=D.bl (decide (1<=xs.length/\xs.length<=20)&&(xs.all isW&&match zP xs with|some ns=>upI ns&&(decide (ns.headD 1=0)&&decide (ns.getLastD 0<=1000))|none=>false))
      rw[ha,Gu,O9]
     .have ha:xs.all isW=true:=by simpa using ha
      obtain⟨ns,rfl⟩:=eO ha;rw[Ao] at hl;rfl';refine qL (LG ns li _) ?_;have hd:dZ (.tup (ns.map D.int))=(upI ns&&(decide (ns.headD 1=0)&&decide (ns.getLastD 0<=1000))):=by
       show (decide (1<=(ns.map D.int).length/\(ns.map D.int).length<=20)&&((ns.map D.int).all isW&&match zP (ns.map D.int) with|some ns=>upI ns&&(decide (ns.headD 1=0)&&decide (ns.getLastD 0<=1000))|none=>false))=_
       rw[Ao,Cp hl,ha,xP,Hn,Hn]
      rw[hd];cases hu:upI ns with
      |false =>
       rfl';exact⟨rfl,rfl⟩
      |true =>
       rfl';refine lV ?_;rfl';obtain⟨a,r,rfl⟩:∃ a r,ns=a::r:=by
        cases ns with
        |nil=>simp at hl
        |cons a r=>exact⟨a,r,rfl⟩
       refine kH (d:=.int a) (mJ (a:=0) (by simp)) ?_
       rfl';refine⟨λea=>?_,λea=>?_⟩
       .rfl'
        refine kH (VG (by simp)) ?_
        rw[Xv];rfl';refine⟨?_,rfl⟩;rw[Hn,show decide ((a::r).headD 1=0)=true from ea,Hn,Hu]
        congr 2
        rw[Ja]
       .refine⟨?_,rfl⟩
        rw[Hn,show decide ((a::r).headD 1=0)=false from ea,Gu]
   .rfl'
    refine⟨?_,rfl⟩;show _=D.bl (decide (1<=xs.length/\xs.length<=20)&&(xs.all isW&&match zP xs with|some ns=>upI ns&&(decide (ns.headD 1=0)&&decide (ns.getLastD 0<=1000))|none=>false))
    rw[Cy li,Gu]
  |_=>cases e
structure Mk (M:Ai)(ms:Aa Ak):Prop where
 hd:ms.head? = Ab 0
 len:ms.length<=M
 up:ms.Pairwise (· < ·)
 le:∀ x∈ms,x<=1000
theorem Mk.ne (h:Mk M ms):ms≠[]:=λe=>by
 have:=h.hd;rw[e] at this;cases this
theorem Mk.ge (h:Mk M ms):∀ x∈ms,0<=x:=λx hx=>by
 cases ms with
 |nil=>cases hx
 |cons a r =>
  have:a=0:=by simpa using h.hd
  subst this;rcases Ax.mp hx with rfl|hx
  .lia
  .have:=(Ch.mp h.up).1 x hx
   lia
theorem mD:∀ {ns:Aa Ak} {x:Ak},ns.Pairwise (· < ·) -> x∈ns->x<=ns.getLastD 0
 |[],x,_,h=>by cases h
 |[a],x,_,h=>by
  have:x=a:=by simpa using h
  subst this;exact Lm _
 |a::b::r,x,u,h=>by
  rw[Hu];have u2:=Ch.mp u;have e:(b::r).getLastD a=(b::r).getLastD 0:=by rw[Hu,Hu]
  rw[e];rcases Ax.mp h with rfl|h
  .have:=mD u2.2 (.head _)
   have:=u2.1 b (.head _)
   lia
  .exact mD u2.2 h
theorem WK (ns:Aa Ak):dZ (mkD ns)=(decide (1<=ns.length/\ns.length<=20)&&(upI ns&&(decide (ns.headD 1=0)&&decide (ns.getLastD 0<=1000)))):=by
 show (decide (1<=(ns.map D.int).length/\(ns.map D.int).length<=20)&&((ns.map D.int).all isW&&match zP (ns.map D.int) with|some ns=>upI ns&&(decide (ns.headD 1=0)&&decide (ns.getLastD 0<=1000))|none=>false))=_
 have ha:(ns.map D.int).all isW=true:=by
  rw[Kl];exact Ca.mpr λ_ _=>rfl
 rw[Ao,ha,xP,Hn]
theorem eQ (hM:M<=20){ms:Aa Ak}(h:Mk M ms):dZ (mkD ms)=true:=by
 have h1:=Ow.mpr h.ne;have h2:=h.len;rw[WK,Cp ⟨h1,by lia⟩,(nD ms).mpr h.up,Hn,Hn,Bi,Cb,Cb]
 refine⟨?_,?_⟩
 .have:=h.hd
  cases ms with
  |nil=>cases this
  |cons a r=>simpa using this
 .refine h.le _ ?_
  cases ms with
  |nil=>exact absurd rfl h.ne
  |cons a r =>
   rw[Hu,<- Ja (by simp)]
   exact Xw _
theorem U7 (ms:Aa Ak):Pn (mkD ms):=NA λx hx=>by
 obtain⟨i,_,rfl⟩:=Aw.mp hx;exact⟨.int i,rfl⟩
theorem vQ (c:Cl){M:Ai}(hM:M<=20){ms:Aa Ak}(h:Mk M ms)(S:Sto):S_need_marks c [mkD ms] S=.ok .non S:=by
 rw[uM];refine zS (qZ (env:=[Ab (mkD ms)]) rfl ?_);rfl';refine qL (cC (U7 ms) S) ?_;rw[eQ hM h];rfl';exact⟨rfl,rfl⟩
theorem SZ {p q:Pt}(hp:InB 1000 p)(hq:InB 1000 q)(h:Q (.int (far p q)) S):Ok (S_far_between [ptD p,ptD q] S) Q:=by
 unfold InB at hp hq;rw[vV];refine qZ (env:=[Ab (ptD p),Ab (ptD q),none,none]) rfl ?_;rfl';exact h
theorem c6 {l:Aa Pt}(hb:∀ p∈l,InB 1000 p)(hl:l.length<=41)(q:∀ kvs S',GI zA prD S.length (zT l) kvs S'->(∀ m,m<S.length->S'[m]? = S[m]?)->Q (.loc S.length) S'):Ok (S_pairs_by_far [xZ l] S) Q:=by
 rw[vJ];refine qZ (env:=[Ab (.tup (l.map ptD)),none,none,none,none]) rfl ?_;rfl';refine BB (λds env S'=>∃ i e2 e3 e4 done kvs,env=[Ab (.tup (l.map ptD)),Ab (.loc S.length),e2,e3,e4]/\ds=eL i ((l.drop i).map ptD)/\GI zA prD S.length done kvs S'/\done++zT (l.drop i)=zT l/\∀ m,m<S.length->S'[m]? = S[m]?) ?_ ?_ ⟨0,_,_,_,[],[],rfl,dP _,⟨rX _ _,λ_ h=>(by cases h),Iq,rfl⟩,rfl,λm hm=>Bo hm⟩
 .rintro d ds _ S' ⟨i,e2,e3,e4,done,kvs,rfl,hds,G,hall,hpre⟩
  cases hdr:l.drop i with
  |nil=>rw[hdr] at hds;cases hds
  |cons p qJ =>
   rw[hdr] at hds hall;injection hds with h1 h2
   subst h1 h2;have hrest:l.drop (i+1)=qJ:=by
    have:=congrArg List.tail hdr;simpa [Zc] using this
   have hmem:∀ z∈p::qJ,z∈l:=λz hz=>Tl (hdr▸hz);rfl';rw[dJ,<- Lb,hrest];refine vG (λr env S'=>∃ e4 done kvs,env=[Ab (.tup (l.map ptD)),Ab (.loc S.length),Ab (.int (i:Ak)),Ab (ptD p),e4]/\(∀ z∈r,z∈l)/\GI zA prD S.length done kvs S'/\done++(r.map (λz=>(p,z))++zT qJ)=zT l/\∀ m,m<S.length->S'[m]? = S[m]?) ?_ ?_ ⟨_,done,kvs,rfl,λz hz=>hmem z (Cg _ hz),G,hall,hpre⟩
   .rintro z r _ S' ⟨e4,done,kvs,rfl,hr,G,hall,hpre⟩
    have hdl:done.length<lim:=by
     have:=congrArg OI hall;have h3:=SU hl;simp only[Ct] at this;unfold lim
     lia
    obtain⟨j,S1,S2,kvs',f1,f2,f3,G',hp'⟩:=JV G (p,z) hdl;rfl';refine⟨rF G.dict,?_⟩;rfl';refine SZ (hb p (hmem p (Dl ..))) (hb z (hr z (Dl ..))) ?_;rfl';refine qL f1 ⟨f2,?_⟩;rfl';refine qL f3 ?_;exact pS ⟨_,done++[(p,z)],kvs',rfl,λy hy=>hr y (Cg _ hy),G',by rw[<- hall];simp,λm hm=>(hp' m hm).trans (hpre m hm)⟩
   .rintro _ S' ⟨e4,done,kvs,rfl,hr,G,hall,hpre⟩
    exact pS ⟨i+1,_,_,_,done,kvs,rfl,by rw[hrest],G,by rw[hrest];simpa using hall,hpre⟩
 .rintro _ S' ⟨i,e2,e3,e4,done,kvs,rfl,hds,G,hall,hpre⟩
  rfl';refine q kvs S' ?_ hpre;cases hdr:l.drop i with
  |cons _ _=>rw[hdr] at hds;cases hds
  |nil =>
   rw[hdr] at hall;have:done=zT l:=by simpa [zT] using hall
   rw[<- this];exact G
abbrev PP:=Pt × Pt
noncomputable def fl:Aa PP->Am (PP × PP)
 |[]=>none
 |x::xs=>match xs.find? (λy=>zA y == zA x) with
  |some y=>Ab (x,y)
  |none=>fl xs
noncomputable def ded (ks:Aa Ak):Aa Ak:=ks.foldl Bb []
theorem uP (k:Ak):∀ (ks l:Aa Ak),ks.foldl Bb (k::l)=k::(ks.filter λx=>x != k).foldl Bb l
 |[],l=>rfl
 |x::ks,l=>by
  show ks.foldl Bb (Bb (k::l) x)=_;by_cases hx:x=k
  .subst hx
   rw[pQ (.head _),uP x ks l];simp
  .have e:((x::ks).filter λx=>x != k)=x::ks.filter λx=>x != k:=by simp[hx]
   rw[e];show _=k::(ks.filter λx=>x != k).foldl Bb (Bb l x);by_cases hl:x∈l
   .rw[pQ (.tail _ hl),pQ hl,uP k ks l]
   .rw[kT (by simp[hx,hl]),kT hl]
    exact uP k ks (l++[x])
theorem XR (k:Ak)(ks:Aa Ak):ded (k::ks)=k::ded (ks.filter λx=>x != k):=by
 show ks.foldl Bb (Bb [] k)=_;rw[kT (by simp)]
 exact uP k ks []
noncomputable def two (g:Aa PP):Am (PP × PP):=match g with
 |a::b::_=>Ab (a,b)
 |_=>none
theorem dX {α β:Type}{f g:α->Am β} : ∀ {l:Aa α},(∀ x∈l,f x=g x)->l.findSome? f=l.findSome? g
 |[],_=>rfl
 |x::l,h=>by
  rw[Lc,Lc,h x (.head _),dX λy hy=>h y (.tail _ hy)]
theorem eI:∀ xs:Aa PP,(ded (xs.map zA)).findSome? (λf=>two (xs.filter λx=>zA x == f))=fl xs
 |[]=>rfl
 |x::xs=>by
  rw[De,XR,Lc];have e1:((x::xs).filter λz=>zA z == zA x)=x::xs.filter λz=>zA z == zA x:=by simp
  rw[e1];unfold fl;cases q:xs.find? (λy=>zA y == zA x) with
  |some y =>
   have:∃ t,(xs.filter λz=>zA z == zA x)=y::t:=by
    rw[<- List.head?_filter] at q;cases z:(xs.filter λz=>zA z == zA x) with
    |nil=>rw[z] at q;cases q
    |cons a t=>rw[z] at q;cases q;exact⟨t,rfl⟩
   obtain⟨t,ht⟩:=this;rw[ht];rfl
  |none =>
   have hn:∀ y∈xs,zA y≠zA x:=λy hy e=>by
    have:=Ly.mp q y hy;exact this (by simpa using e)
   have e2:(xs.filter λz=>zA z == zA x)=[]:=Rx.mpr λz hz=>by simpa using hn z hz
   have e3:((xs.map zA).filter λz=>z != zA x)=xs.map zA:=Jg.mpr λz hz=>by
    obtain⟨y,hy,rfl⟩:=Aw.mp hz;simpa using hn y hy
   rw[e2,e3];show (ded (xs.map zA)).findSome? _=fl xs;rw[<- eI xs];refine dX λf hf=>?_;have hf':f∈xs.map zA:=by
    rcases u7.mp hf with h|h
    .cases h
    .exact h
   obtain⟨y,hy,rfl⟩:=Aw.mp hf';have:(zA x == zA y)=false:=Jc.mpr (Ft (hn y hy));rw[Xn,this];rfl
noncomputable def qD (z:PP × PP):D:=.tup [ptD z.1.1,ptD z.1.2,ptD z.2.1,ptD z.2.2]
noncomputable def flD:Am (PP × PP)->D
 |some z=>qD z
 |none=>.non
theorem T6 (c:Cl){l:Aa Pt}{M:Ai}(hM:M<=40)(h:Lot M l){S:Sto}(q:∀ S',S<+:S'->Q (flD (fl (zT l))) S'):Ok (S_first_like c [xZ l] S) Q:=by
 have hll:=h.len;obtain⟨_,S1,e1,rfl,kvs,G,hp⟩:=c6 (S:=S) (Q:=λd S'=>d=.loc S.length/\∃ kvs,GI zA prD S.length (zT l) kvs S'/\∀ m,m<S.length->S'[m]? = S[m]?) h.box li λkvs S' G hp=>⟨rfl,kvs,G,hp⟩;have hv:fG (qH 1 S_pairs_by_far (q8 (q9 0) (qA))) [Ab (xZ l),none] S=.ok (kvs.map (·.2)) (S1.set S.length .dead):=by
  unfold fG;rw[(f6 (f1:=q9 0) (env:=[Ab (xZ l),none]) (S:=S) rfl).trans e1,Res.bind_ok];show (match S1[S.length]? with|some (.dct kvs)=>Res.ok (kvs.map λkv:_L.Key × D=>kv.2) (S1.set S.length .dead)|_=>.bad)=_
  rw[G.dict]
 have hpre:S<+:S1.set S.length .dead:=ZC λm hm=>by rw[Cs li];exact hp m hm
 rw[uL];refine qZ (env:=[Ab (xZ l),none]) rfl ?_;array_get_dec;array_get_dec;array_get_dec;array_get_dec;array_get_dec;array_get_dec;array_get_dec;refine qL (b0 c S (sR l) (bP hM h)) ?_;array_get_dec;array_get_dec;array_get_dec;refine qL hv ?_;refine vG (λr env S'=>S'=S1.set S.length .dead/\∃ (e:Am D) (ks:Aa Ak),env=[Ab (xZ l),e]/\(∀ kv∈r,kv∈kvs)/\r.map (·.1)=ks.map Ir/\ks.findSome? (λf=>two ((zT l).filter λx=>zA x == f))=fl (zT l)) ?_ ?_ ⟨rfl,_,_,rfl,λ_ h=>h,G.keys,eI _⟩
 .rintro kv r _ S' ⟨rfl,e,ks,rfl,hm,hk,hf⟩
  obtain⟨f,j,rfl,h1,h2⟩:=G.lists kv (hm kv (.head _));have h3:(S1.set S.length .dead)[j]? = Ab (.lst (((zT l).filter λx=>zA x == f).map prD)):=by rw[Cs li];exact h2
  cases ks with
  |nil=>cases hk
  |cons f' ks =>
   rw[De,De] at hk;injection hk with k1 k2
   injection k1 with k1
   subst k1;rw[Lc] at hf;rfl';refine Z2 h3 ?_;rfl';rw[Ao];refine uU (λz=>?_) λz=>?_
   .cases hg:(zT l).filter λx=>zA x == f with
    |nil=>rw[hg] at z;simp at z
    |cons a g =>
     cases g with
     |nil=>rw[hg] at z;simp at z
     |cons b g =>
      rw[hg] at hf h3;have hf:fl (zT l)=Ab (a,b):=hf.symm;rfl';refine vR h3 (d:=prD a) (mJ (a:=0) (by simp)) ?_
      rfl';refine vR h3 (d:=prD b) (mJ (a:=1) (by simp)) ?_
      refine sJ (Sr rfl) ?_;refine D7 ?_;rfl';have:=q _ hpre;rw[hf] at this;exact this
   .have ht:two ((zT l).filter λx=>zA x == f)=none:=by
     cases hg:(zT l).filter λx=>zA x == f with
     |nil=>rfl
     |cons a g =>
      cases g with
      |nil=>rfl
      |cons b g=>rw[hg] at z;exact absurd (by simp only[Bd];lia) z
    rw[ht] at hf;rfl';exact pS ⟨rfl,_,ks,rfl,λkv hk=>hm kv (.tail _ hk),k2,hf⟩
 .rintro _ S' ⟨rfl,e,ks,rfl,hm,hk,hf⟩
  cases ks with
  |cons _ _=>cases hk
  |nil =>
   rfl';have:=q _ hpre;rw[<- hf] at this;exact this
noncomputable def mkL (ms:Aa Ak):Aa Pt:=ms.map λm=>(m,0)
theorem sD (h:Mk M ms):Lot M (mkL ms):=by
 refine⟨λe=>h.ne (List.map_eq_nil_iff.mp e),by unfold mkL;rw[Ao];exact h.len,?_,λq hq=>?_⟩
 .unfold mkL Up
  rw[Di];refine h.up.imp λ{a b} hab=>?_;unfold ltP;simp[_H.lexLt,hab]
  lia
 .obtain⟨m,hm,rfl⟩:=Aw.mp hq
  have:=h.ge m hm;have:=h.le m hm;exact⟨by show -1000<=m;lia,by show m<=1000;lia,by show (-1000:Ak)<=0;lia,by show (0:Ak)<=1000;lia⟩
noncomputable def pr:Aa Ak->Aa Pt
 |[]=>[]
 |a::r=>r.map (λb=>(a,b))++pr r
noncomputable def em (p:Pt):PP:=((p.1,0),(p.2,0))
theorem mH:∀ ms:Aa Ak,zT (mkL ms)=(pr ms).map em
 |[]=>rfl
 |a::r=>by
  show (mkL r).map (λq=>((a,0),q))++zT (mkL r)=_;rw[mH r];show _=(r.map (λb=>(a,b))++pr r).map em;unfold mkL;rw[Fl,Do,Do];rfl
theorem vD:∀ {ms:Aa Ak} {p:Pt},ms.Pairwise (· < ·) -> p∈pr ms->p.1<p.2/\p.1∈ms/\p.2∈ms
 |[],p,_,h=>by cases h
 |a::r,p,u,h=>by
  obtain⟨u1,u2⟩:=Ch.mp u;rcases Ce.mp h with h|h
  .obtain⟨b,hb,rfl⟩:=Aw.mp h
   exact⟨u1 b hb,.head _,.tail _ hb⟩
  .obtain⟨h1,h2,h3⟩:=vD u2 h
   exact⟨h1,.tail _ h2,.tail _ h3⟩
theorem U8:∀ {ms:Aa Ak},ms.Pairwise (· < ·) -> Up (pr ms)
 |[],_=>.nil
 |a::r,u=>by
  obtain⟨u1,u2⟩:=Ch.mp u;unfold Up pr;rw[Ds];refine⟨?_,U8 u2,λx hx y hy=>?_⟩
  .rw[Di]
   refine u2.imp λ{b c} hbc=>?_;unfold ltP;simp[_H.lexLt,hbc]
   lia
  .obtain⟨b,hb,rfl⟩:=Aw.mp hx
   have:=u1 y.1 (vD u2 hy).2.1;unfold ltP;simp[_H.lexLt,this]
   lia
noncomputable def gap (p:Pt):Ak:=p.2-p.1
noncomputable def tw:Aa Pt->Am (Pt × Pt)
 |[]=>none
 |x::xs=>match xs.find? (λy=>gap y == gap x) with
  |some y=>Ab (x,y)
  |none=>tw xs
theorem M8 {x y:Pt}(hx:x.1<x.2)(hy:y.1<y.2):(zA (em y) == zA (em x))=(gap y == gap x):=by
 obtain⟨a,b⟩:=x;obtain⟨c,d⟩:=y;rw[Lh,Qh,Qh];show (c-d)*(c-d)+(0-0)*(0-0)=(a-b)*(a-b)+(0-0)*(0-0)↔d-c=b-a;have hx:a<b:=hx;have hy:c<d:=hy;constructor
 .intro h
  have:(d-c-(b-a))*(d-c+(b-a))=0:=by grind
  rcases Int.mul_eq_zero.mp this with h|h <;> lia
 .intro h
  have:c-d=a-b:=by lia
  rw[this]
theorem VR:∀ (xs:Aa Pt),(∀ x∈xs,x.1<x.2)->fl (xs.map em)=(tw xs).map λz=>(em z.1,em z.2)
 |[],_=>rfl
 |x::xs,h=>by
  have ih:=VR xs λy hy=>h y (.tail _ hy);rw[De];unfold fl tw;have e:(xs.map em).find? (λy=>zA y == zA (em x))=(xs.find? λy=>gap y == gap x).map em:=by
   rw[List.find?_map]
   congr 1
   clear ih
   induction xs with
   |nil=>rfl
   |cons y ys ihh =>
    rw[Hz,Hz];have:((λy=>zA y == zA (em x))∘em) y=(gap y == gap x):=M8 (h x (.head _)) (h y (.tail _ (.head _)));rw[this,ihh λz hz=>by
     rcases Ax.mp hz with rfl|hz
     .exact h z (.head _)
     .exact h z (.tail _ (.tail _ hz))]
  rw[e];cases xs.find? λy=>gap y == gap x with
  |some y=>rfl
  |none=>exact ih
noncomputable def twD:Am (Pt × Pt)->D
 |some z=>.tup [.int z.1.1,.int z.1.2,.int z.2.1,.int z.2.2]
 |none=>.non
theorem tV (c:Cl){M:Ai}(hM:M<=20){ms:Aa Ak}(h:Mk M ms)(S:Sto):S_as_lot c [mkD ms] S=.ok (xZ (mkL ms)) S:=by
 have hl:=h.len;rw[pW];refine zS (qZ (env:=[Ab (.tup (ms.map D.int))]) rfl ?_);rfl';refine qL (vQ c hM h S) ?_;rfl';refine w8 (enc:=D.int) (o:=none) ms (λx=>ptD (x,0)) (λenv S'=>S'=S/\∃ a,env=[a]) (tB rfl) ⟨rfl,none,rfl⟩ (by unfold lim;lia) (λ_ _ _=>trivial) (λx hx env S' ⟨e1,a,e2⟩=>?_) λenv S' ⟨e1,_⟩=>?_
 .subst e1 e2
  rfl';exact⟨_,rfl⟩
 .subst e1
  rfl';refine⟨?_,rfl⟩;unfold xZ mkL;rw[Do];rfl
theorem jI (c:Cl){ms:Aa Ak}(h:Mk 20 ms){S:Sto}(q:∀ S',S<+:S'->Q (twD (tw (pr ms))) S'):Ok (S_first_twice c [mkD ms] S) Q:=by
 have hf:fl (zT (mkL ms))=(tw (pr ms)).map λz=>(em z.1,em z.2):=by
  rw[mH,VR _ λx hx=>(vD h.up hx).1]
 rw[vW];refine qZ (env:=[Ab (mkD ms),none]) rfl ?_;rfl';refine qL (tV c (As _) h S) ?_;rfl';refine T6 c li (sD h) λS1 p1=>?_;rw[hf];rfl';refine HQ ?_;rfl';cases ht:tw (pr ms) with
 |none =>
  refine qL (d:=.bl true) (S:=S1) rfl ?_;rfl';refine⟨λ_=>?_,λe=>by cases e⟩
  rfl';have:=q _ p1;rw[ht] at this;exact this
 |some z =>
  refine qL (d:=.bl false) (S:=S1) rfl ?_;rfl';refine⟨λe=>(by cases e),λ_=>?_⟩
  rfl';refine w8 (enc:=ptD) (o:=none) [((z.1.1,0):Pt),(z.1.2,0),(z.2.1,0),(z.2.2,0)] (λp=>.int p.1) (λenv S'=>S'=S1/\∃ a b,env=[a,b]) rfl ⟨rfl,none,none,rfl⟩ (Sr rfl) (λ_ _ _=>trivial) (λx hx env S' ⟨e1,a,b,e2⟩=>?_) λenv S' ⟨e1,_⟩=>?_
  .subst e1 e2
   rfl';exact⟨_,_,rfl⟩
  .subst e1
   rfl';have:=q _ p1;rw[ht] at this;exact this
noncomputable def df:Aa Ak->Aa Ak
 |[]=>[]
 |a::r=>r.map (λb=>b-a)++df r
theorem gN:∀ r:Aa Ak,(df r).length<=r.length*r.length
 |[]=>As _
 |a::r=>by
  have:=gN r;show (r.map (λb=>b-a)++df r).length<=_;rw[Ct,Ao,Bd,So,Xu]
  lia
noncomputable def en:Ai->Aa Ak->Aa (Ai × Ak)
 |_,[]=>[]
 |k,x::xs=>(k,x)::en (k+1) xs
theorem VM:∀ (l:Aa Ak) (k:Ai),eL k (l.map D.int)=(en k l).map λp=>D.tup [.int (p.1:Ak),.int p.2]
 |[],_=>rfl
 |x::l,k=>by
  show D.tup [.int (k:Ak),.int x]::eL (k+1) (l.map D.int)=_;rw[VM l (k+1)];rfl
theorem VL (r:Aa Ak):∀ (l:Aa Ak) (k:Ai),r.drop k=l->((en k l).flatMap λp=>(r.drop (p.1+1)).map λy=>D.int (y-p.2))=(df l).map D.int
 |[],_,_=>rfl
 |x::l,k,h=>by
  have hl:r.drop (k+1)=l:=by
   have:=congrArg List.tail h;simpa [Zc] using this
  show (r.drop (k+1)).map (λy=>D.int (y-x))++((en (k+1) l).flatMap λp=>(r.drop (p.1+1)).map λy=>D.int (y-p.2))=((l.map λb=>b-x)++df l).map D.int;rw[VL r l (k+1) hl,hl,Fl,Do];rfl
theorem ZK (r:Aa Ak)(hr:r.length<=50)(S:Sto):S_differences [tpD r] S=.ok (.lst ((df r).map D.int)) S:=by
 have hl:=gN r;have h2:r.length*r.length<=50*50:=Jb hr hr;rw[vU];refine zS (qZ (env:=[Ab (.tup (r.map D.int))]) rfl ?_);rfl';have e:=VL r r 0 rfl;have hi:xG (pD (q8 (q9 0) (qA))) [Ab (.tup (r.map D.int))] S=.ok (none,(en 0 r).map λp=>D.tup [.int (p.1:Ak),.int p.2]) S:=by
  rw[<- VM,<- dP];rfl
 refine qL (mM (xs:=en 0 r) (enc:=λp=>D.tup [.int (p.1:Ak),.int p.2]) (enc2:=D.int) (o:=none) (o2:=none) hi trivial trivial (λp=>r.drop (p.1+1)) (λ_ _=>true) (λp y=>.int (y-p.2)) (λenv=>∃ a b c,env=[a,b,c,Ab (.tup (r.map D.int))]) (λp env=>∃ c,env=[Ab (.int (p.1:Ak)),Ab (.int p.2),c,Ab (.tup (r.map D.int))]) ⟨none,none,none,rfl⟩ (λp env ⟨c,e⟩=>⟨_,_,_,e⟩) ?_ (λp hp env ⟨a,b,c,e⟩=>?_) λp hp y hy env ⟨c,e⟩=>?_) ?_
 .simp only[Jg.mpr λ_ _=>rfl]
  rw[e,Ao];unfold lim
  lia
 .subst e
  refine⟨_,rfl,⟨_,rfl⟩,rfl,?_⟩;show Res.ok (none,xK (r.map D.int) (Ab ((p.1:Ak)+1)) none) S=_;rw[dJ,Lb]
 .subst e
  exact⟨_,rfl,⟨_,rfl⟩,rfl,λ_=>rfl⟩
 .simp only[Jg.mpr λ_ _=>rfl]
  rw[e];rfl';exact⟨rfl,rfl⟩
theorem R0 (h:Ok (f env S) λd S1=>∃ ns:Aa Ak,iA d S1=Ab (ns.map D.int)/\ns.length<4000/\Q (.int (bJ ns:Ai)) S1):Ok (jU f env S) Q:=qS (zI h λd S1 ⟨ns,e,l,q⟩=>⟨_,_,by rw[e,Qo,xP];exact Bp l,q⟩)
theorem rQ (ns:Aa Ak)(l:ns.length<=1000):uF (ns.map D.int)=Ab ((_S.srt _S.ltI ns).map D.int):=by
 unfold uF;rw[xP];exact Bp (Dh (n8 _ _) l)
theorem U4 (h:Ok (f env S) λd S1=>∃ ns:Aa Ak,r8 d S1=Ab (ns.map D.int)/\ns.length<=1000/\Q (.lst ((_S.srt _S.ltI ns).map D.int)) S1):Ok (v7 false f env S) Q:=qS (zI h λd S1 ⟨ns,e,l,q⟩=>⟨_,_,by rw[e,Qo,rQ ns l];rfl,q⟩)
theorem n9 {α:Type}[Nd α](w:α->Ai):∀ (L G:Aa α),L.Nodup->(∀ s∈L,w s≠0->s∈G)->(L.map w).sum<=(G.map w).sum
 |[],G,_,_=>Gj _
 |s::L,G,nd,h=>by
  obtain⟨n1,n2⟩:=Hy.mp nd;rw[De,Us];by_cases z:w s=0
  .rw[z,Gs]
   exact n9 w L G n2 λx hx=>h x (.tail _ hx)
  .have hm:=h s (.head _) z
   have ih:=n9 w L (G.erase s) n2 λx hx hz=>(Ny (λ(e:x=s)=>n1 (e▸hx))).mpr (h x (.tail _ hx) hz);have:=((List.perm_cons_erase hm).map w).sum_nat;rw[De,Us] at this
   lia
theorem goP {α:Type}{enc:α->D}{o:Am (Ai × MO)}{g:DG}{t:DT}{k:DK}(out:α->Aa D)(C:qC->Sto->Prop)(A:Aa D->Prop)(hC:∀ env S,C env S->stn o S) :
  ∀ (xs:Aa α) (env:qC) (S:Sto) (acc:Aa D),C env S->A acc ->
  (∀ x∈xs,∀ env S acc,C env S->A acc->∃ env1 S1,g (enc x) env S=.ok env1 S1/\t env1 S1=.ok true S1/\∃ env3 S3,k env1 S1 acc=.ok (env3,acc++out x) S3/\C env3 S3/\A (acc++out x)) ->
  ∃ env' S',goL o g t k (xs.map enc) env S acc=.ok (env',acc++xs.flatMap out) S'/\C env' S'/\A (acc++xs.flatMap out)
 |[],env,S,acc,h,ha,_=>⟨env,S,by simp[goL,w4.mpr (hC _ _ h)],h,by simpa using ha⟩
 |x::xs,env,S,acc,h,ha,step=>by
  obtain⟨env1,S1,e1,e2,env3,S3,e3,h3,a3⟩:=step x (Dl ..) env S acc h ha;obtain⟨env',S',e,c,a⟩:=goP out C A hC xs env3 S3 (acc++out x) h3 a3 λy hy=>step y (Cg _ hy);rw[Cc] at e a;refine⟨env',S',?_,c,a⟩;simp only[De,goL,w4.mpr (hC _ _ h),Dx,e1,e2,Res.bind,e3,Gy];exact e
theorem yL {α:Type}[Nd α] : ∀ {L G:Aa α},L.Nodup->(∀ s∈L,s∈G)->L.length<=G.length
 |L,G,nd,h=>by
  have:=n9 (λ_:α=>1) L G nd λs hs _=>h s hs;have e:∀ l:Aa α,(l.map λ_=>1).sum=l.length:=λl=>by
   induction l with
   |nil=>rfl
   |cons a l ih=>rw[De,Us,ih,Bd,Qx]
  rwa [e,e] at this
theorem T4 (c:Cl){ms:Aa Ak}(h:Mk 20 ms){S:Sto}(q:Q (.lst ((_S.srt _S.ltI (df ms)).map D.int)) S):Ok (S_gaps c [mkD ms] S) Q:=by
 have hl:=h.len;have hd:=gN ms;have h2:ms.length*ms.length<=20*20:=Jb hl hl;rw[nG];refine qZ (env:=[Ab (mkD ms)]) rfl ?_;rfl';refine qL (vQ c (As _) h S) ?_;rfl';refine U4 ?_;rfl';refine qL (ZK ms li S) ⟨df ms,rfl,by lia,?_⟩
 rfl';exact q
noncomputable def stp (ms:Aa Ak):Aa Ak:=(ms.zip (ms.drop 1)).map λp=>p.2-p.1
noncomputable def pI (p:Ak × Ak):D:=.tup [.int p.1,.int p.2]
theorem BN (ms:Aa Ak){env:qC}{S:Sto}(e:env[0]? = Ab (Ab (.tup (ms.map D.int)))):xG (gM (q8 (q9 0) (q8 (dSl (q9 0) (x9 (dC (.int 1))) (xU)) (qA)))) env S=.ok (none,(ms.zip (ms.drop 1)).map pI) S:=by
 have h:q9 0 env S=.ok (.tup (ms.map D.int)) S:=p6 e;have h2:dSl (q9 0) (x9 (dC (.int 1))) (xU) env S=.ok (.tup ((ms.drop 1).map D.int)) S:=by
  unfold dSl;rw[h];show Res.ok (D.tup (xK (ms.map D.int) (Ab 1) none)) S=_;rw[aH,Lb]
 unfold xG gM;rw[FC h h2];show Res.ok (none,wL (ms.map D.int) ((ms.drop 1).map D.int)) S=_;rw[cP];rfl
theorem B5 (ms:Aa Ak):(stp ms).length<=ms.length:=by
 unfold stp;rw[Ao,Lo]
 lia
def Sx (ms:Aa Ak)(acc:Aa D):Prop:=∃ ns:Aa Ak,acc=ns.map D.int/\∀ z∈ns,z∈stp ms
theorem B4 (h:∀ z∈ns,z∈stp ms):(_S.srt _S.ltI ns).length<=ms.length:=Dh (yL (G:=stp ms) ((_S.wZ _S.zY _).imp λ{a b} k e=>by
  subst e;rw[_S.zY.irr] at k;cases k) λk hk=>h k ((_S.zE _S.zY _ _).mp hk)) (B5 ms)
theorem rZ (hl:ms.length<=20)(h:∀ z∈ns,z∈stp ms):uV (ns.map D.int)=true:=by
 unfold uV;rw[xP];have:=B4 h;exact Cp li
theorem T1 (c:Cl){ms:Aa Ak}(h:Mk 20 ms){S:Sto}(q:Q (.bl (decide (((_S.srt _S.ltI (stp ms)).length:Ak)<=1))) S):Ok (S_is_even c [mkD ms] S) Q:=by
 have hl:=h.len;rw[gG];refine qZ (env:=[Ab (.tup (ms.map D.int))]) rfl ?_;rfl';refine qL (vQ c (As _) h S) ?_;rfl';obtain⟨env',S',e,⟨_,h2⟩,_⟩:=goP (enc:=pI) (o:=none) (g:=gTp 2 (zM (gNm 0) (zM (gNm 1) (wU)))) (t:=x8) (k:=gR uV (d2 _D.wB (q9 1) (q9 0))) (λp=>[.int (p.2-p.1)]) (λenv S'=>(∃ a b,env=[a,b])/\S'=S) (Sx ms) (λ_ _ _=>trivial) (ms.zip (ms.drop 1)) [none,none] S [] ⟨⟨_,_,rfl⟩,rfl⟩ ⟨[],rfl,λ_ h=>by cases h⟩ λp hp env S' acc ⟨⟨a,b,h1⟩,h2⟩ ⟨ns,ea,hn⟩=>by
  subst h1 h2 ea;have hm:∀ z∈ns++[p.2-p.1],z∈stp ms:=λz hz=>by
   rcases Ce.mp hz with hz|hz
   .exact hn z hz
   .rw[Cw.mp hz]
    exact Aw.mpr ⟨p,hp,rfl⟩
  have e3:ns.map D.int++[.int (p.2-p.1)]=(ns++[p.2-p.1]).map D.int:=by rw[Fl];rfl
  refine⟨_,S',rfl,rfl,[Ab (.int p.1),Ab (.int p.2)],S',?_,⟨⟨_,_,rfl⟩,rfl⟩,ns++[p.2-p.1],e3,hm⟩;show (if uV (ns.map D.int++[.int (p.2-p.1)])=true then Res.ok ([Ab (D.int p.1),Ab (D.int p.2)],ns.map D.int++[D.int (p.2-p.1)]) S' else .bad)=_
  rw[Bp (by rw[e3];exact rZ hl hm)]
 rw[h2] at e;have ef:(ms.zip (ms.drop 1)).flatMap (λp=>[D.int (p.2-p.1)])=(stp ms).map D.int:=by
  rw[bL];unfold stp;rw[Do];rfl
 rw[Jv,ef] at e;refine qS (qL (BN ms rfl) ?_);show Ok (aL pF (goL none _ x8 _ ((ms.zip (ms.drop 1)).map pI) [none,none] S [])) _;rw[e];refine qL (d:=.int ((_S.srt _S.ltI (stp ms)).length:Ai)) (S:=S) ?_ ?_
 .show (if uV ((stp ms).map D.int)=true then (match zP ((stp ms).map D.int) with|some ns=>Res.ok (D.int ((_S.srt _S.ltI ns).length:Ai)) S|none=>.bad) else .bad)=_
  rw[Bp (rZ hl λ_ h=>h),xP]
 .rfl'
  exact q
theorem eD (ns:Aa Ak):bJ ns=(_S.srt _S.ltI ns).length:=by
 unfold bJ;refine bV (mV ns [] Iq) ((_S.wZ _S.zY ns).imp λ{a b} h z=>?_) λx=>?_
 .subst z
  rw[_S.zY.irr] at h;cases h
 .rw[u7,_S.zE _S.zY]
  simp
theorem rV {b:Ar}(h:f env S=.ok (.bl b) S):xX (dTr f) x8 env S=.ok b S:=by
 unfold xX;rw[E5 h];cases b <;> rfl
noncomputable def rs (ms:Aa Ak)(m:Ak):Aa Ak:=ms.flatMap λx=>(ms.filter λy=>x != y).map λy=>(x-y) % m
noncomputable def ub (ms:Aa Ak)(m:Ak):Ar:=!(rs ms m).contains 0&&decide (((bJ (rs ms m):Ai):Ak)=((rs ms m).length:Ak))
theorem LL (ms:Aa Ak)(m:Ak)(hl:ms.length<=20):(rs ms m).length<=400:=by
 have:∀ l:Aa Ak,(l.flatMap λx=>(ms.filter λy=>x != y).map λy=>(x-y) % m).length<=l.length*20:=by
  intro l
  induction l with
  |nil=>simp
  |cons x l ih =>
   rw[Gy,Ct,Ao,Bd];have:=Kh (λy=>x != y) ms
   lia
 have h:=this ms;unfold rs
 lia
theorem N9 (ns:Aa Ak):(ns.map D.int).all (pl zU)=true:=by
 rw[Kl];exact Ca.mpr λ_ _=>rfl
theorem KR (ns:Aa Ak)(S:Sto):v9 (.int 0) (.lst (ns.map D.int)) S=.ok (.bl (!ns.contains 0)) S:=by
 have e:inI (.int 0) (.lst (ns.map D.int))=Ab (ns.contains 0):=by
  show (if ((ns.map D.int).all (pl zU)&&pl zU (.int 0))=true then Ab ((ns.map D.int).any λx=>eqD x (.int 0)) else none)=_
  rw[N9,show (true&&pl zU (D.int 0))=true from rfl,Bp rfl]
  congr 1
  rw[Qt]
  induction ns with
  |nil=>rfl
  |cons n ns ih =>
   rw[IU,ih,List.contains_cons]
   congr 1
   show (n == 0)=(0 == n);exact BEq.comm
 unfold v9;rw[e]
theorem UB (ns:Aa Ak)(hl:ns.length<4000)(S:Sto):S_are_all_unlike [.lst (ns.map D.int)] S=.ok (.bl (decide (((bJ ns:Ai):Ak)=(ns.length:Ak)))) S:=by
 rw[yQ];refine zS (qZ (env:=[Ab (.lst (ns.map D.int))]) rfl ?_);array_get_dec;array_get_dec;refine R0 ?_;refine o_v rfl ⟨ns,rfl,hl,?_⟩;rfl';rw[Ao];exact⟨rfl,rfl⟩
theorem ZL (c:Cl){ms:Aa Ak}(h:Mk 20 ms){m:Ak}(hm:1<=m/\m<=1000000)(S:Sto):S_unlike_by c [mkD ms,.int m] S=.ok (.bl (ub ms m)) S:=by
 have hl:=LL ms m h.len;rw[jE];refine zS (qZ (env:=[Ab (.tup (ms.map D.int)),Ab (.int m),none]) rfl ?_);rfl';refine qL (vQ c (As _) h S) ?_;rfl';refine qL (d:=.int 1000000) rfl ?_;rfl';refine qL (hX c S hm) ?_;rfl';refine qL (mM (xs:=ms) (enc:=D.int) (enc2:=D.int) (o:=none) (o2:=none) (tB rfl) trivial trivial (λ_=>ms) (λx y=>x != y) (λx y=>.int ((x-y) % m)) (λenv=>∃ a b,env=[a,b,Ab (.int m),Ab (.tup (ms.map D.int))]) (λx env=>∃ b,env=[Ab (.int x),b,Ab (.int m),Ab (.tup (ms.map D.int))]) ⟨none,none,rfl⟩ (λx env ⟨b,e⟩=>⟨_,_,e⟩) ?_ (λx hx env ⟨a,b,e⟩=>?_) λx hx y hy env ⟨b,e⟩=>?_) ?_
 .have:(ms.flatMap λx=>(ms.filter λy=>x != y).map λy=>D.int ((x-y) % m)).length=(rs ms m).length:=by
   unfold rs;simp only[List.length_flatMap,Ao]
  rw[this];unfold lim
  lia
 .subst e
  exact⟨_,rfl,⟨_,rfl⟩,rfl,tB rfl⟩
 .subst e
  refine⟨_,rfl,⟨_,rfl⟩,rV (zS ?_),λ_=>zS ?_⟩
  .rfl'
   exact rfl
  .rfl'
   exact rfl
 .have e:(ms.flatMap λx=>(ms.filter λy=>x != y).map λy=>D.int ((x-y) % m))=(rs ms m).map D.int:=by
   unfold rs;rw[Xx];simp only[Do];rfl
  rw[e];rfl';refine lV ?_;rfl';refine qL (KR _ S) ?_;refine⟨_,rfl,λz=>?_,λz=>?_⟩
  .rfl'
   refine qL (UB _ li S) ⟨?_,rfl⟩;unfold ub;rw[z,Hn]
  .unfold ub
   rw[z,Gu];exact⟨rfl,rfl⟩
theorem SN (e:env[i]? = Ab (Ab (.int (n:Ak))))(h:n<=1000000):xG (uY (q8 (q9 i) qA)) env S=.ok (none,(Dd n).map λ(i:Ai)=>D.int (i:Ak)) S:=zS (qS (iF (gU (o_v e (iE ⟨_,UE n h,_,_,rfl,rfl,rfl⟩)))))
theorem VX {k:Ak}(e:env[i]? = Ab (Ab (.int k)))(h:0<=k/\k<=1000000):xG (uY (q8 (q9 i) qA)) env S=.ok (none,(Dd k.toNat).map λ(i:Ai)=>D.int (i:Ak)) S:=SN (by rw[Uq h.1];exact e) li
theorem KO {k:Ak}(hn:n+1<=M)(hM:M<=20)(hk:1<=k/\k<=50):Mk M ((Dd (n+1)).map λ(i:Ai)=>(i:Ak)*k):=by
 have hb:∀ i:Ai,i<20->(i:Ak)*k<=1000:=λi hi=>by
  have:=Int.mul_le_mul (show (i:Ak)<=19 by lia) hk.2 li li
  lia
 refine⟨?_,by simpa using hn,?_,λx hx=>?_⟩
 .rw[Jq,De]
  simp
 .rw[Di]
  refine Ro.imp λ{a b} h=>?_;have h1:(a:Ak)+1<=b:=by lia
  have h2:=Int.mul_le_mul_of_nonneg_right h1 (show 0<=k by lia)
  rw[Int.add_mul] at h2
  lia
 .obtain⟨i,hi,rfl⟩:=Aw.mp hx
  exact hb i (by have:=Dt.mp hi;lia)
noncomputable def LW:Aa (Aa Ak):=[[0,1,4,6],[0,1,4,9,11],[0,2,5,6],[0,1,3,9],[0,1,4,14,16]]
noncomputable def mkB (ms:Aa Ak):Ar:=decide (ms.head? = Ab 0)&&upI ms&&ms.all λx=>decide (x<=1000)
theorem hW (h:mkB ms=true)(hn:1<=n/\n<=M):Mk M (ms.take n):=by
 unfold mkB at h;simp only[Bi,Cb,Ca] at h;obtain⟨⟨h1,h2⟩,h3⟩:=h;refine⟨?_,by rw[Fc];lia,((nD _).mp h2).sublist (OX _ _),λx hx=>h3 x (Nz hx)⟩
 cases ms with
 |nil=>cases h1
 |cons a r =>
  obtain⟨m,rfl⟩:∃ m,n=m+1:=⟨n-1,by lia⟩
  exact h1
theorem oJ (xs:Aa D)(n:Ai):xK xs none (Ab (n:Ak))=xs.take n:=by
 unfold xK;have h1:_H.sIx xs.length 0 none=0:=rfl;have h2:_H.sIx xs.length xs.length (Ab (n:Ak))=min n xs.length:=by
  show (if (n:Ak)<0 then ((n:Ak)+(xs.length:Ak)).toNat else min (n:Ak).toNat xs.length)=_
  rw[Bj li,Gx]
 rw[h1,h2,Nat.sub_zero,List.drop_zero];rcases Nat.le_total n xs.length with h|h
 .rw[Yl h]
 .rw[Xt h,Hd h,Hd (As _)]
theorem Y1 (h:∀ x∈ns,1<=x/\x<=1000)(hM:1<=M):Mk M (0::(_S.srt _S.ltI ns).take (M-1)):=by
 have hm:∀ x∈(_S.srt _S.ltI ns).take (M-1),1<=x/\x<=1000:=λx hx=>h x ((_S.zE _S.zY x ns).mp (Nz hx));refine⟨rfl,by rw[Bd,Fc];lia,Ch.mpr ⟨λx hx=>by have:=hm x hx;lia,?_⟩,λx hx=>?_⟩
 .refine((_S.wZ _S.zY ns).imp λ{a b} h=>?_).sublist (OX _ _)
  exact Cf h
 .rcases Ax.mp hx with rfl|hx
  .lia
  .exact(hm x hx).2
theorem KW {p:Ai}(hM:1<=M/\M<=20){S:Sto}(h:jO S p)(q:∀ ms S1,Kp p S S1->Mk M ms->Q (mkD ms) S1):Ok (S__law_marks [.loc p,.int (M:Ak)] S) Q:=by
 rw[uJ];refine qZ (env:=[Ab (.loc p),Ab (.int (M:Ak)),none,none,none,none,none,none]) rfl ?_;rfl';refine vB h li λway S1 k1 h1=>?_;rfl';refine vB k1.pen li λn S2 k2 h2=>?_;rfl';generalize hN:(1:Ak)+(n:Ak)=N;refine vB k2.pen li λst S3 k3 h3=>?_;rfl';refine vB k3.pen li λw S4 k4 h4=>?_;rfl';refine U3 (show w<3 by lia) λd hd=>?_
 obtain⟨wd,rfl,hw⟩:∃ wd:Ak,d=.int wd/\1<=wd/\wd<=1000:=by
  simp only[Ax,Eh,IM] at hd;rcases hd with rfl|rfl|rfl
  .exact⟨_,rfl,by lia,by lia⟩
  .exact⟨_,rfl,by lia,by lia⟩
  .exact⟨_,rfl,by lia,by lia⟩
 have K4:=((k1.trans k2).trans k3).trans k4;rfl';by_cases e:(way:Ak)=0
 .rw[Cp e]
  rfl';refine w8 (enc:=λ(i:Ai)=>D.int (i:Ak)) (o:=none) (Dd N.toNat) (λi=>.int ((i:Ak)*(1+(st:Ak)))) (λenv S'=>S'=S4/\∃ a,env=[a,Ab (.int (1+(st:Ak)))]) (VX (k:=N) rfl li) ⟨rfl,none,rfl⟩ (by rw[Gf];unfold lim;lia) (λ_ _ _=>trivial) (λx hx env S' ⟨e1,a,e2⟩=>?_) λenv S' ⟨e1,_⟩=>?_
  .subst e1 e2
   have:=Dt.mp hx;rfl';exact⟨_,rfl⟩
  .subst e1
   rfl';have:=q ((Dd N.toNat).map λ(i:Ai)=>(i:Ak)*(1+(st:Ak))) S' K4 (by
    rw[show N.toNat=n+1 by lia]
    exact KO li hM.2 li)
   unfold mkD at this;rw[Do] at this;exact this
 .rw[Cy e]
  rfl';by_cases e:(way:Ak)=1
  .rw[Cp e]
   rfl';obtain⟨j,hj⟩:=Rc (IN (1+(st:Ak)) (show (5:Ak)≠0 by lia))
   have hj5:=Hs (1+(st:Ak)) (show (0:Ak)<5 by lia)
   rw[hj];refine U3 (show j<5 by lia) λd hd=>?_
   obtain⟨t,ht,rfl⟩:=Aw.mp (show d∈LW.map mkD from hd)
   have hb:mkB t=true:=Ca.mp (show LW.all mkB=true from kd) t ht
   unfold mkD;rfl';rw[show N=((n+1:Ai):Ak) by lia,oJ,<- Ur]
   exact q (t.take (n+1)) S4 K4 (hW hb li)
  .rw[Cy e]
   rfl';refine U4 ?_;refine KS (enc:=λ(i:Ai)=>D.int (i:Ak)) (o:=none) (Dd N.toNat) (λd=>∃ x:Ak,d=.int x/\1<=x/\x<=1000) (λenv S'=>Kp p S S'/\∃ a,env=[a,Ab (.loc p),Ab (.int wd)]) (VX (k:=N) rfl li) ⟨K4,none,rfl⟩ (by rw[Gf];unfold lim;lia) (λ_ _ _=>trivial) (λx hx env S' ⟨K,a,e2⟩=>?_) λds env S' hl hR ⟨K,_⟩=>?_
   .subst e2
    rfl';refine vB K.pen li λr S6 k6 h6=>?_;rfl';exact⟨⟨_,rfl,by lia,by lia⟩,K.trans k6,_,rfl⟩
   .obtain⟨ns,rfl,hn⟩:∃ ns:Aa Ak,ds=ns.map D.int/\∀ x∈ns,1<=x/\x<=1000:=by
     clear hl
     induction ds with
     |nil=>exact⟨[],rfl,λ_ h=>by cases h⟩
     |cons d ds ih =>
      obtain⟨ns,rfl,h1⟩:=ih λd hd=>hR d (.tail _ hd);obtain⟨x,rfl,h2⟩:=hR d (.head _);exact⟨x::ns,rfl,λy hy=>by
       rcases Ax.mp hy with rfl|hy
       .exact h2
       .exact h1 y hy⟩
    rw[Ao,Gf] at hl;refine⟨ns,rfl,by lia,?_⟩
    rfl';rw[show (M:Ak)-1=((M-1:Ai):Ak) by lia,oJ,<- Ur]
    have hlen:((_S.srt _S.ltI ns).take (M-1)).length<=20:=by rw[Fc];lia
    refine sJ (by rw[Ao];unfold lim;show 1+_<=_;lia) ?_
    exact q (0::(_S.srt _S.ltI ns).take (M-1)) S' K (Y1 hn hM.1)
noncomputable def unl (r:Aa Ak):Ar:=decide (((bJ (df r):Ai):Ak)=((df r).length:Ak))
theorem LH (r:Aa Ak)(hr:r.length<=50)(S:Sto){env:qC}{i:Ai}(h:env[i]? = Ab (Ab (tpD r))):qH 1 (okO S_are_all_unlike) (q8 (qH 1 (okO S_differences) (q8 (q9 i) (qA))) (qA)) env S=.ok (.bl (unl r)) S:=by
 have hl:=gN r;have h2:r.length*r.length<=50*50:=Jb hr hr;exact(f6 (a:=.lst ((df r).map D.int)) ((f6 (a:=tpD r) (p6 h)).trans (sM (ZK r hr S)))).trans (sM (UB (df r) li S))
noncomputable def kN (a b:Ak):Aa Ak:=(Dd (b-a).toNat).map λ(i:Ai)=>a+(i:Ak)
noncomputable def ext (last:Ak)(rows:Aa (Aa Ak)):Aa (Aa Ak):=rows.flatMap λr=>(kN (r.getLastD 0+1) (last+1)).map λm=>r++[m]
noncomputable def uu:Ai->Ak->Aa (Aa Ak)
 |0,_=>[[0]]
 |k+1,last=>(ext last (uu k last)).filter unl
theorem mU {last:Ak}(h:last<=17):∀ {rows:Aa (Aa Ak)},(∀ r∈rows,0<=r.getLastD 0)->(ext last rows).length<=17*rows.length
 |[],_=>As _
 |r::rows,hr=>by
  have ih:=mU h λr hm=>hr r (.tail _ hm);have h0:=hr r (.head _);show ((kN (r.getLastD 0+1) (last+1)).map (λm=>r++[m])++ext last rows).length<=_;unfold kN;rw[Ct,Ao,Ao,Gf,Bd]
  lia
theorem UP {last:Ak}(h:last<=17):∀ k,(uu k last).length<=17 ^ k/\∀ r∈uu k last,r.length=k+1/\0<=r.getLastD 0/\r.getLastD 0<=17
 |0=>⟨As _,show ∀ r∈[[(0:Ak)]],r.length=0+1/\0<=r.getLastD 0/\r.getLastD 0<=17 by decide⟩
 |k+1=>by
  obtain⟨h1,h2⟩:=UP h k;refine⟨?_,λr hr=>?_⟩
  .have:=mU h λr hr=>(h2 r hr).2.1
   have l:=Kh unl (ext last (uu k last));show ((ext last (uu k last)).filter unl).length<=_;rw[Nat.pow_succ]
   lia
  .obtain⟨r0,hm,hx⟩:=Kt.mp (Fv.mp hr).1
   obtain⟨m,hm2,rfl⟩:=Aw.mp hx;obtain⟨i,hi,rfl⟩:=Aw.mp hm2;have hi:=Dt.mp hi;obtain⟨a,b,_⟩:=h2 r0 hm;refine⟨by rw[Ct,a];rfl,?_⟩
   rw[List.getLastD_concat]
   lia
theorem LJ {a b:Ak}(h : -1000<=a/\a<=1000 /\ -1000<=b/\b<=1000):kO [.int a,.int b]=Ab ((kN a b).map D.int):=by
 rw[UD];show (if -(2 ^ 62)<=a/\a<2 ^ 62 /\ -(2 ^ 62)<=b/\b<2 ^ 62 then Ab (xV a (b-a).toNat) else none)=_
 rw[Bp li];unfold xV kN;rw[Do];rfl
theorem bE (r:Aa Ak)(h:r≠[]):_L.atI (r.map D.int) (-1)=Ab (.int (r.getLastD 0)):=by
 rw[VG (by simpa using h),Xv,List.getLastD_eq_getLast?,List.getLast?_eq_some_getLast h]
 rfl
theorem LI (k:Ai)(hk:k<=5){last:Ak}(hl:0<=last/\last<=17)(S:Sto):S_unlike_up_to [.int ((k:Ak)+1),.int last] S=.ok (.lst ((uu k last).map tpD)) S:=by
 rw[vK];refine zS (qZ (env:=[Ab (.int ((k:Ak)+1)),Ab (.int last),none,none,none]) rfl ?_);rfl';refine⟨by lia,by lia,?_⟩
 refine vG (λr env S'=>∃ e3 e4 i,env=[Ab (.int ((k:Ak)+1)),Ab (.int last),Ab (.lst ((uu i last).map tpD)),e3,e4]/\i+r.length=k/\S'=S) ?_ ?_ ⟨_,_,0,rfl,by rw[Gf];lia,rfl⟩
 .rintro x r _ S' ⟨e3,e4,i,rfl,hi,rfl⟩
  obtain⟨u1,u2⟩:=UP hl.2 i;have hx:=mU hl.2 λr hr=>(u2 r hr).2.1;have hx2:17*(uu i last).length<=17*17 ^ 4:=Nat.mul_le_mul_left _ (Dh u1 (Nat.pow_le_pow_right li (by rw[Bd] at hi;lia)))
  have hlim:(ext last (uu i last)).length<=lim:=by unfold lim;lia
  have hfl:(ext last (uu i last)).map tpD=(uu i last).flatMap λr=>(kN (r.getLastD 0+1) (last+1)).map λm=>tpD (r++[m]):=by
   unfold ext;rw[Xx]
   congr 1
   funext r
   rw[Do];rfl
  rfl';refine qL (mM (xs:=uu i last) (enc:=tpD) (enc2:=D.int) (o:=none) (o2:=none) (WM rfl) trivial trivial (λr=>kN (r.getLastD 0+1) (last+1)) (λ_ _=>true) (λr m=>tpD (r++[m])) (λenv=>∃ a b,env=[a,b,Ab (.int last)]) (λr env=>∃ b,env=[Ab (tpD r),b,Ab (.int last)]) ⟨none,none,rfl⟩ (λp env ⟨b,e⟩=>⟨_,_,e⟩) ?_ (λr hr env ⟨a,b,e⟩=>?_) λr hr y hy env ⟨b,e⟩=>?_) ?_
  .simp only[Jg.mpr λ_ _=>rfl]
   rw[<- hfl,Ao];exact hlim
  .subst e
   refine⟨_,rfl,⟨_,rfl⟩,rfl,zS (qS (iF ?_))⟩;obtain⟨a1,a2,a3⟩:=u2 r hr;rfl';refine kH (bE r λz=>by rw[z] at a1;cases a1) ?_
   rfl';exact⟨_,LJ li,_,_,rfl,rfl,rfl⟩
  .subst e
   refine⟨_,rfl,⟨_,rfl⟩,rfl,λ_=>zS ?_⟩;rfl';refine sJ (by
    rw[Ao,(u2 r hr).1];unfold lim;rw[Bd] at hi;simp only[Bd,Fj]
    lia) ⟨?_,rfl⟩
   show D.tup (r.map D.int++[.int y])=D.tup ((r++[y]).map D.int);rw[Fl];rfl
  .simp only[Jg.mpr λ_ _=>rfl]
   rw[<- hfl];rfl';refine qL (UU (xs:=ext last (uu i last)) (enc:=tpD) (o:=none) (WM rfl) trivial unl tpD (λenv=>∃ a,env=[a]) ⟨none,rfl⟩ hlim λr hr env ⟨a,e⟩=>?_) ?_
   .subst e
    refine⟨_,rfl,⟨_,rfl⟩,rV (LH r ?_ S' rfl),λ_=>rfl⟩;obtain⟨r0,hm,hx⟩:=Kt.mp hr;obtain⟨m,_,rfl⟩:=Aw.mp hx;rw[Ct,(u2 r0 hm).1,Iy];rw[Bd] at hi
    lia
   .rfl'
    exact pS ⟨_,_,i+1,rfl,by rw[Bd] at hi;lia,rfl⟩
 .rintro _ S' ⟨e3,e4,i,rfl,hi,rfl⟩
  have hi:i=k:=by simpa using hi
  subst hi;rfl';exact⟨rfl,rfl⟩
noncomputable def Lk (k:Ai):Ak:=[0,1,3,6,11,17].getD k 0
noncomputable def ts (k:Ai):Aa (Aa Ak):=[[[0]],[[0,1]],[[0,1,3],[0,2,3]],[[0,1,4,6],[0,2,5,6]],[[0,1,4,9,11],[0,2,7,8,11],[0,2,7,10,11],[0,3,4,9,11]],[[0,1,4,10,12,17],[0,1,4,10,15,17],[0,1,8,11,13,17],[0,1,8,12,14,17],[0,2,7,13,16,17],[0,3,5,9,16,17],[0,4,6,9,16,17],[0,5,7,13,16,17]]].getD k []
noncomputable def sta (k:Ai):Ak:=((k:Ak)+1)*((k:Ak)+1-1)/2
noncomputable def D5 (k:Ai):Ar:=((kN (sta k) (Lk k)).all λl=>(uu k l).isEmpty)&&decide (uu k (Lk k)=ts k)&&decide (0<=sta k/\sta k<=Lk k/\Lk k<=17)
theorem E9:((Dd 5).all D5)=true:=kd
theorem CD:uu 5 15=[]:=kd
theorem CF:uu 5 16=[]:=kd
theorem CG:uu 5 17=ts 5:=kd
theorem sG {a b x:Ak}(h:a<=x/\x<b):x∈kN a b:=Aw.mpr ⟨(x-a).toNat,Dt.mpr om,by omega⟩
structure UpK (k:Ai):Prop where
 none:∀ l,sta k<=l->l<Lk k->uu k l=[]
 Ab:uu k (Lk k)=ts k
 rg:0<=sta k/\sta k<=Lk k/\Lk k<=17
theorem upT {k:Ai}(h:k<=5):UpK k:=by
 rcases Nat.lt_or_eq_of_le h with h|rfl
 .have:=Ca.mp E9 k (Dt.mpr h)
  unfold D5 at this;simp only[Bi,Cb,Ca,List.isEmpty_iff] at this;exact⟨λl h1 h2=>this.1.1 l (sG ⟨h1,h2⟩),this.1.2,this.2⟩
 .refine⟨λl h1 h2=>?_,CG,by decide⟩
  have h1:15<=l:=h1;have h2:l<17:=h2;rcases (show l=15\/l=16 by omega) with rfl|rfl
  .exact CD
  .exact CF
theorem UK:∀ k<6,(ts k).isEmpty=false/\(((ts k).headD []).getLastD 0=Lk k)/\(ts k).length<=8/\∀ r∈ts k,r.length=k+1:=kd
theorem D6 {P:Out->Prop}{a b:Ak}(e:env[i]? = Ab (Ab (.int a)))(h:Wo P (.nx (env.set i (Ab (.int (a+b)))) S)):Wo P (gW i fL (dC (.int b)) env S):=by
 have:gW i fL (dC (.int b)) env S=.nx (env.set i (Ab (.int (a+b)))) S:=by
  unfold gW;rw[e];rfl
 rw[this];exact h
theorem sV (c:Cl)(k:Ai)(hk:k<=5)(S:Sto):S_shortest_marks c [.int ((k:Ak)+1)] S=.ok (.lst ((ts k).map tpD)) S:=by
 obtain⟨u1,u2,u3⟩:=upT hk;rw[yR];refine zS (qZ (env:=[Ab (.int ((k:Ak)+1)),none,none]) rfl ?_);rfl';refine qL (hX c S om) ?_;rfl';refine qL (LI k hk (show 0<=sta k/\sta k<=17 by omega) S) ?_
 rfl';refine BC (λn env S'=>∃ last,env=[Ab (.int ((k:Ak)+1)),Ab (.int last),Ab (.lst ((uu k last).map tpD))]/\n=(Lk k-last).toNat/\(sta k<=last/\last<=Lk k)/\S'=S) ?_ (n:=(Lk k-sta k).toNat) (by rw[F0];omega) ⟨sta k,rfl,rfl,by omega,rfl⟩
 rintro n _ S' ⟨last,rfl,rfl,hl,rfl⟩;rfl';refine⟨λhb=>?_,λhb=>?_⟩
 .have hlt:last<Lk k:=by
   rcases Int.lt_or_eq_of_le hl.2 with h|z
   .exact h
   rw[z,u2] at hb;have:=(UK k om).1;simp[this] at hb
  array_get_dec;refine D6 rfl ?_;rfl';refine qL (LI k hk om S') ?_;rfl';refine D8 (Lk k-(last+1)).toNat ?_ ⟨last+1,rfl,rfl,by omega,rfl⟩
  omega
 .have hlt:last=Lk k:=by
   refine Int.le_antisymm hl.2 (Ou.mp λz=>?_);rw[u1 last hl.1 z] at hb;cases hb
  subst hlt;rw[u2];rfl';exact⟨rfl,rfl⟩
theorem PM (c:Cl)(k:Ai)(hk:k<=5)(S:Sto):S_shortest c [.int ((k:Ak)+1)] S=.ok (.int (Lk k)) S:=by
 obtain⟨t1,t2,t3,t4⟩:=UK k om;rw[gA];refine zS (qZ (env:=[Ab (.int ((k:Ak)+1))]) rfl ?_);rfl';refine qL (sV c k hk S) ?_;rfl';cases hx:ts k with
 |nil=>rw[hx] at t1;cases t1
 |cons r rs =>
  rw[hx] at t2 t4;refine iD (d:=tpD r) (by rw[De];exact mJ (a:=0) (by simp)) ?_
  rfl';refine kH (bE r λz=>?_) ?_
  .have:=t4 r (.head _)
   rw[z] at this;cases this
  .rw[show r.getLastD 0=Lk k from t2]
   rfl';exact⟨rfl,rfl⟩
theorem KY (c:Cl){l:Aa Pt}{M:Ai}(hM:M<=20)(h:Lot M l){S:Sto}(q:∀ S',S<+:S'->Q (.lst ((tbl (fars l)).map tpD)) S'):Ok (S_far_table c [xZ l] S) Q:=by
 have hll:=h.len;have h400:(zT l).length<=400:=Dh (bC l) (Jb (show l.length<=20 by lia) (show l.length<=20 by lia))
 obtain⟨_,S1,e1,rfl,kvs,G,hp⟩:=c6 (S:=S) (Q:=λd S'=>d=.loc S.length/\∃ kvs,GI zA prD S.length (zT l) kvs S'/\∀ m,m<S.length->S'[m]? = S[m]?) h.box li λkvs S' G hp=>⟨rfl,kvs,G,hp⟩;have hi:xG (fB (qH 1 S_pairs_by_far (q8 (q9 0) (qA)))) [Ab (xZ l)] S=.ok (none,kvs.map λp=>D.tup [kD p.1,p.2]) (S1.set S.length .dead):=by
  unfold xG fB;rw[(f6 (f1:=q9 0) (env:=[Ab (xZ l)]) (S:=S) rfl).trans e1];simp only[Res.bind,G.dict];rfl
 have hek:kvs.map (·.1)=(kys (fars l)).map Ir:=G.keys
 have hkl:(kys (fars l)).length<=400:=by
  have:=bM (ks:=fars l) (l:=[]);have h3:(fars l).length=(zT l).length:=Ao _;unfold kys;simp only[Fj] at this
  lia
 have hkv:kvs.length<=400:=by
  have:=congrArg OI hek;rw[Ao,Ao] at this
  lia
 have ev:(kvs.map λp=>ctD (fars l) p.1)=(tbK (fars l)).map tpD:=by
  rw[show (kvs.map λp=>ctD (fars l) p.1)=(kvs.map (·.1)).map (ctD (fars l)) by rw[Do];rfl,hek]
  unfold tbK;rw[Do,Do];rfl
 have hs:pH [.lst ((tbK (fars l)).map tpD)] (S1.set S.length .dead)=.ok (.lst ((tbl (fars l)).map tpD)) (S1.set S.length .dead):=by
  show (match (Ab ((tbK (fars l)).map tpD)).bind kS with|some ys=>Res.ok (D.lst ys) (S1.set S.length .dead)|none=>.bad)=_
  rw[Qo,B3 (tbK (fars l)) (by unfold tbK;rw[Ao];lia) λk hk=>by
   obtain⟨f,_,rfl⟩:=Aw.mp hk;intro z;cases z]
  rfl
 rw[jC];refine qZ (env:=[Ab (xZ l)]) rfl ?_;rfl';refine qL (b0 c S (sR l) (bP li h)) ?_;rfl';refine w8 kvs (λp=>ctD (fars l) p.1) (λenv S'=>S'=S1.set S.length .dead/\∃ a b,env=[a,b]) hi ⟨rfl,none,none,rfl⟩ (by unfold lim;lia) (λ_ _ _=>trivial) (λp hk env S' ⟨z1,a,b,z2⟩=>?_) λenv S' ⟨z1,_⟩=>?_
 .subst z1 z2
  obtain⟨f,j,rfl,h1,h2⟩:=G.lists p hk;rfl';refine Z2 (xs:=((zT l).filter λx=>zA x == f).map prD) (by rw[Cs li];exact h2) ?_
  rw[Ao,W9];rfl';exact⟨_,_,rfl⟩
 .subst z1
  rw[ev];rfl';exact qL hs (q _ (ZC λm hm=>by rw[Cs li];exact hp m hm))
theorem T3 (c:Cl){l:Aa Pt}{M:Ai}(hM:M<=20)(h:Lot M l){S:Sto}(q:∀ S',S<+:S'->Q (.lst (((tbl (fars l)).map λk=>k.headD 0).map D.int)) S'):Ok (S_fars c [xZ l] S) Q:=by
 have hll:=h.len;obtain⟨_,S1,e1,rfl,hp⟩:=KY (S:=S) (Q:=λd S'=>d=.lst ((tbl (fars l)).map tpD)/\S<+:S') c hM h λS' p=>⟨rfl,p⟩;have hi:dIt (qH 1 (S_far_table c) (q8 (q9 0) (qA))) [Ab (xZ l)] S=.ok (none,(tbl (fars l)).map tpD) S1:=by
  unfold dIt;rw[(f6 (f1:=q9 0) (env:=[Ab (xZ l)]) (S:=S) rfl).trans e1];rfl
 have hlen:(tbl (fars l)).length<=400:=by
  have h1:(tbl (fars l)).length=(kys (fars l)).length:=(_S.yH _).length_eq.trans (Ao _);have h2:=bM (ks:=fars l) (l:=[]);have h3:(fars l).length=(zT l).length:=Ao _;have h4:(zT l).length<=400:=Dh (bC l) (Jb (show l.length<=20 by lia) (show l.length<=20 by lia))
  unfold kys at h1;simp only[Fj] at h2
  lia
 rw[nF];refine qZ (env:=[Ab (xZ l)]) rfl ?_;rfl';refine w8 (enc:=tpD) (o:=none) (tbl (fars l)) (λk=>.int (k.headD 0)) (λenv S'=>S'=S1/\∃ a b,env=[a,b]) hi ⟨rfl,none,none,rfl⟩ (by unfold lim;lia) (λ_ _ _=>trivial) (λk hk env S' ⟨z1,a,b,z2⟩=>?_) λenv S' ⟨z1,_⟩=>?_
 .subst z1 z2
  obtain⟨f,_,rfl⟩:=Aw.mp ((_S.yH _).mem_iff.mp hk);exact⟨_,_,rfl,_,_,rfl,rfl,_,_,rfl,rfl,rfl,_,_,rfl⟩
 .subst z1
  rfl';have:=q S' hp;rw[Do] at this;exact this
theorem c9 (ns:Aa Ak):pl zU (.lst (ns.map D.int))=true:=by
 show ((ns.map D.int).all (pl 29))=true;rw[Kl];exact Ca.mpr λ_ _=>rfl
theorem eF:∀ (a b:Aa Ak),zX (a.map D.int) (b.map D.int)=decide (a=b)
 |[],[]=>rfl
 |[],_::_=>by simp[zX]
 |_::_,[]=>by simp[zX]
 |x::a,y::b=>by
  show ((x == y)&&zX (a.map D.int) (b.map D.int))=_;rw[eF a b,Lh];simp
theorem SY {a b:Aa Ak}(h:Q (.bl (decide (a=b))) S):Ok (gEq (.lst (a.map D.int)) (.lst (b.map D.int)) S) Q:=by
 refine⟨_,_,?_,h⟩;unfold gEq;rw[c9,c9];show Res.ok (D.bl (zX (a.map D.int) (b.map D.int))) S=_;rw[eF]
theorem U1 {α:Type}[Nd α] : ∀ {l L:Aa α},L.Nodup->(∀ x∈L,x∈l)->L.length=l.length->l.Nodup
 |[],L,_,_,_=>Iq
 |x::l,L,nd,hs,hl=>by
  have hx:x ∉ l:=λhx=>by
   have:=yL (G:=l) nd λs hm=>by
    rcases Ax.mp (hs s hm) with rfl|h
    .exact hx
    .exact h
   rw[Bd] at hl
   lia
  have h2:∀ s∈L.erase x,s∈l:=λs hm=>by
   rcases Ax.mp (hs s (List.mem_of_mem_erase hm)) with rfl|h
   .exact absurd hm nd.not_mem_erase
   .exact h
  have h3:=yL (nd.erase x) h2;have h4:L.length<=(L.erase x).length+1:=by rw[List.length_erase];split <;> lia
  rw[Bd] at hl;exact Hy.mpr ⟨hx,U1 (nd.erase x) h2 li⟩
theorem ZS {α:Type}[Nd α]{L G:Aa α}(nd:L.Nodup)(h:∀ x∈L,x∈G)(hl:L.length=G.length):∀ x∈G,x∈L:=λx hx=>Decidable.byContradiction λz=>by
 have:=yL (G:=G) (Hy.mpr ⟨z,nd⟩) λs hs=>by
  rcases Ax.mp hs with rfl|hs
  .exact hx
  .exact h s hs
 rw[Bd] at this
 lia
theorem pR {l:Aa Ak}(h:l.Pairwise (· < ·)) : l.Nodup:=h.imp λh e=>by lia
theorem mB (l:Aa Ak):(_S.srt _S.ltI l).Nodup:=(_S.wZ _S.zY _).imp λ{a b} h e=>by
 subst e;rw[_S.zY.irr] at h;cases h
theorem tI (l:Aa Ak):(_S.srt _S.ltI l).length=l.length↔l.Nodup:=
 ⟨λh=>U1 (mB l) (λx hx=>(_S.zE _S.zY x l).mp hx) h,λh=>bV (mB l) h λx=>_S.zE _S.zY x l⟩
theorem VU {r:Aa Ak}:∀ s∈r,s∈df (0::r):=λs hs=>Cj _ (Aw.mpr ⟨s,hs,by lia⟩)
theorem VT {r:Aa Ak}(h:(0::r).Pairwise (· < ·)) : r.length<=(_S.srt _S.ltI (df (0::r))).length:=yL (pR (Ch.mp h).2) λs hs=>(_S.zE _S.zY _ _).mpr (VU s hs)
theorem X2:∀ (x:Ak) (t:Aa Ak),(x::t).zip t=((x::t).dropLast).zip t
 |x,[]=>rfl
 |x,y::t=>by
  show (x,y)::(y::t).zip t=(x,y)::((y::t).dropLast).zip t;rw[X2 y t]
theorem cQ (a:Ak):∀ t:Aa Ak,(t.map λx=>x-a).zip t=t.map λx=>(x-a,x)
 |[]=>rfl
 |x::t=>congrArg ((x-a,x)::·) (cQ a t)
theorem JP {r:Aa Ak}(h:(0::r).Pairwise (· < ·))(e:(_S.srt _S.ltI (df (0::r))).length=r.length):(_S.srt _S.ltI (stp (0::r))).length<=1:=by
 cases r with
 |nil=>exact Gj _
 |cons a t =>
  obtain⟨h1,h2⟩:=Ch.mp h;obtain⟨h3,h4⟩:=Ch.mp h2;have ha:=h1 a (.head _);have hin:∀ d∈df (0::a::t),d∈a::t:=λd hd=>ZS (pR h2) (λs hs=>(_S.zE _S.zY _ _).mpr (VU s hs)) e.symm d ((_S.zE _S.zY _ _).mpr hd);have hdl:(a::t).dropLast++[(a::t).getLast (by simp)]=a::t:=List.dropLast_concat_getLast _
  have hud:(a::t).dropLast.Pairwise (· < ·):=h2.sublist (List.dropLast_sublist _)
  have hum:(t.map λx=>x-a).Pairwise (· < ·):=by
   rw[Di];exact h4.imp λh=>by lia
  have hlast:∀ x∈a::t,x<=(a::t).getLast (by simp):=λx hx=>by
   have:=mD h2 hx;rw[Hu] at this;rw[Ja];exact this
  have s1:∀ x∈t.map (λx=>x-a),x∈(a::t).dropLast:=λx hx=>by
   obtain⟨y,hy,rfl⟩:=Aw.mp hx;have m:y-a∈a::t:=hin _ (Bq _ (Cj _ (Aw.mpr ⟨y,hy,rfl⟩)));have hy2:=hlast y (.tail _ hy);rw[<- hdl] at m;rcases Ce.mp m with m|m
   .exact m
   .have:=Cw.mp m
    lia
  have hl:(t.map λx=>x-a).length=(a::t).dropLast.length:=by
   rw[Ao,List.length_dropLast];rfl
  have he:(t.map λx=>x-a)=(a::t).dropLast:=_S.jL _S.zY (hum.imp λh=>Cp h) (hud.imp λh=>Cp h) λx=>⟨s1 x,ZS (pR hum) s1 hl x⟩;have hs:∀ s∈stp (0::a::t),s=a:=λs hs=>by
   rcases Ax.mp (show s∈(a-0)::((a::t).zip t).map λp=>p.2-p.1 from hs) with rfl|hs
   .lia
   .obtain⟨p,hp,rfl⟩:=Aw.mp hs
    rw[X2,<- he,cQ] at hp;obtain⟨x,_,rfl⟩:=Aw.mp hp;show x-(x-a)=a
    lia
  exact yL (G:=[a]) (mB _) λs hm=>Cw.mpr (hs s ((_S.zE _S.zY _ _).mp hm))
theorem apQ {a:Ak}:∀ (t:Aa Ak) (h:Ak),(∀ p∈(h::t).zip t,p.2-p.1=a)->(∀ i:Ai,i<t.length->h+((i:Ak)+1)*a∈t)/\(∀ x∈t,∃ i:Ai,i<t.length/\x=h+((i:Ak)+1)*a)/\∀ d∈df (h::t),∃ i:Ai,i<t.length/\d=((i:Ak)+1)*a
 |[],h,_=>⟨λi hi=>absurd hi (Nat.not_lt_zero _),λx hx=>(by cases hx),λd hd=>by simp[df] at hd⟩
 |y::t,h,hp=>by
  have hy:y-h=a:=hp (h,y) (.head _);obtain⟨i1,i2,i3⟩:=apQ t y λp hm=>hp p (.tail _ hm);have k2:∀ x∈y::t,∃ i:Ai,i<(y::t).length/\x=h+((i:Ak)+1)*a:=λx hx=>by
   rcases Ax.mp hx with rfl|hx
   .exact⟨0,Me _,by grind⟩
   .obtain⟨i,hi,rfl⟩:=i2 x hx
    exact⟨i+1,Nat.succ_lt_succ hi,by grind⟩
  refine⟨λi hi=>?_,k2,λd hd=>?_⟩
  .cases i with
   |zero =>
    have:h+(((0:Ai):Ak)+1)*a=y:=by grind
    rw[this];exact .head _
   |succ i =>
    have:h+(((i+1:Ai):Ak)+1)*a=y+((i:Ak)+1)*a:=by grind
    rw[this];exact .tail _ (i1 i (Nat.lt_of_succ_lt_succ hi))
  .rcases Ce.mp (show d∈(y::t).map (λb=>b-h)++df (y::t) from hd) with hd|hd
   .obtain⟨x,hx,rfl⟩:=Aw.mp hd
    obtain⟨i,hi,rfl⟩:=k2 x hx;exact⟨i,hi,by lia⟩
   .obtain⟨i,hi,e⟩:=i3 d hd
    exact⟨i,Mv hi,e⟩
theorem G7 {r:Aa Ak}(h:(0::r).Pairwise (· < ·))(e:(_S.srt _S.ltI (stp (0::r))).length<=1):(_S.srt _S.ltI (df (0::r))).length=r.length:=by
 refine Oh (yL (mB _) λd hd=>?_) (VT h);have hd:=(_S.zE _S.zY _ _).mp hd;cases r with
 |nil=>simp[df] at hd
 |cons a t =>
  have hs:∀ s∈stp (0::a::t),s=a:=λs hs=>by
   have m1:=(_S.zE _S.zY s _).mpr hs;have m2:=(_S.zE _S.zY a (stp (0::a::t))).mpr (Aw.mpr ⟨(0,a),.head _,by show a-0=a;lia⟩)
   match hq:_S.srt _S.ltI (stp (0::a::t)),e,m1,m2 with
   |[],_,m1,_=>cases m1
   |[z],_,m1,m2=>rw[Cw.mp m1,Cw.mp m2]
   |_::_::_,e,_,_=>simp at e
  obtain⟨i1,_,i3⟩:=apQ (a:=a) (a::t) 0 λp hp=>hs _ (Aw.mpr ⟨p,hp,rfl⟩);obtain⟨i,hi,rfl⟩:=i3 d hd;have:=i1 i hi
  rwa [sK] at this
theorem JO (h:Mk M ms):decide (((_S.srt _S.ltI (df ms)).length:Ak)=(ms.length:Ak)-1)=decide (((_S.srt _S.ltI (stp ms)).length:Ak)<=1)/\¬ ((_S.srt _S.ltI (df ms)).length:Ak)<(ms.length:Ak)-1:=by
 cases ms with
 |nil=>exact absurd rfl h.ne
 |cons a r =>
  have:a=0:=by simpa using h.hd
  subst this;have g:=VT h.up;rw[Bd];refine⟨?_,by lia⟩
  rw[Xs];constructor
  .intro e
   have:=JP h.up li
   lia
  .intro e
   have:=G7 h.up li
   lia
theorem pE:∀ ms:Aa Ak,df ms=(pr ms).map gap
 |[]=>rfl
 |a::r=>by
  show r.map (λb=>b-a)++df r=(r.map (λb=>(a,b))++pr r).map gap;rw[Fl,Do,pE r];rfl
theorem mC:∀ l:Aa Pt,tw l=none↔(l.map gap).Nodup
 |[]=>by simp[tw]
 |x::l=>by
  rw[De,Hy,<- mC l];show (match l.find? (λy=>gap y == gap x) with|some y=>Ab (x,y)|none=>tw l)=none↔_
  cases q:l.find? (λy=>gap y == gap x) with
  |some y =>
   have hy:=Ym q;refine⟨λh=>(by cases h),λh=>absurd (Aw.mpr ⟨y,Pq q,by simpa using hy⟩) h.1⟩
  |none =>
   refine⟨λh=>⟨λhm=>?_,h⟩,λh=>h.2⟩;obtain⟨y,hy,e⟩:=Aw.mp hm;exact Ly.mp q y hy (by simpa using e)
theorem UL (ms:Aa Ak):tw (pr ms)=none↔(df ms).Nodup:=by rw[pE,mC]
theorem fH:∀ ms:Aa Ak,2*(df ms).length+ms.length=ms.length*ms.length
 |[]=>rfl
 |a::r=>by
  have:=fH r;show 2*(r.map (λb=>b-a)++df r).length+(r.length+1)=(r.length+1)*(r.length+1);rw[Ct,Ao,So,Xu]
  lia
theorem oH (ms:Aa Ak):(ms.length:Ak)*((ms.length:Ak)-1)=2*((df ms).length:Ak):=by
 have:((2*(df ms).length+ms.length:Ai):Ak)=((ms.length*ms.length:Ai):Ak):=congrArg _ (fH ms);rw[Int.natCast_mul] at this;rw[Int.mul_sub]
 lia
theorem D0 (ms:Aa Ak):decide (2*((_S.srt _S.ltI (df ms)).length:Ak)=(ms.length:Ak)*((ms.length:Ak)-1))=(tw (pr ms)).isNone:=by
 rw[oH,Lh,Cb,Ld,UL,<- tI]
 lia
theorem sT {α:Type}{R:α->α->Prop}(sy:∀ {a b},R a b->R b a):∀ {l:Aa α},l.Pairwise R->∀ {a b},a∈l->b∈l->a≠b->R a b
 |[],_,a,b,h,_,_=>by cases h
 |x::l,h,a,b,ha,hb,ne=>by
  obtain⟨h1,h2⟩:=Ch.mp h;rcases Ax.mp ha with rfl|ha2
  .rcases Ax.mp hb with rfl|hb2
   .exact absurd rfl ne
   .exact h1 b hb2
  .rcases Ax.mp hb with rfl|hb2
   .exact sy (h1 a ha2)
   .exact sT sy h2 ha2 hb2 ne
theorem iJ:∀ {ms:Aa Ak} {a b:Ak},ms.Pairwise (· < ·) -> a∈ms->b∈ms->a<b->(a,b)∈pr ms
 |[],a,b,_,h,_,_=>by cases h
 |x::r,a,b,u,ha,hb,l=>by
  obtain⟨u1,u2⟩:=Ch.mp u;rcases Ax.mp ha with rfl|ha2
  .rcases Ax.mp hb with rfl|hb2
   .lia
   .exact Cj _ (Aw.mpr ⟨b,hb2,rfl⟩)
  .rcases Ax.mp hb with rfl|hb2
   .have:=u1 a ha2
    lia
   .exact Bq _ (iJ u2 ha2 hb2 l)
theorem UO (u:ms.Pairwise (· < ·))(nd:tw (pr ms)=none){a b c d:Ak}(ha:a∈ms)(hb:b∈ms)(hc:c∈ms)(hd:d∈ms)(h1:a<b)(h2:c<d)(e:b-a=d-c):a=c:=by
 have h:=Di.mp ((mC _).mp nd);by_cases z:((a,b):Pt)=(c,d)
 .exact congrArg t0 z
 .exact absurd e (sT (λh=>Ft h) h (iJ u ha hb h1) (iJ u hc hd h2) z)
theorem rG (ms:Aa Ak)(m:Ak):ub ms m=true↔0 ∉ rs ms m/\(rs ms m).Nodup:=by
 unfold ub;rw[Bi,Cb,eD,<- tI,Int.natCast_inj];simp
theorem UN {m:Ak}(u:ms.Pairwise (· < ·))(h:(rs ms m).Nodup):tw (pr ms)=none:=by
 have hp:=(Ss.mp h).2;refine(mC _).mpr (Di.mpr ((U8 u).imp_of_mem λ{x y} hx hy l e=>?_));obtain⟨x1,x2,x3⟩:=vD u hx;obtain⟨y1,y2,y3⟩:=vD u hy;have e:x.2-x.1=y.2-y.1:=e;have ne:x.2≠y.2:=λz=>by
  have:x=y:=Yb li z;subst this;have l:_H.lexLt (kP x) (kP x)=true:=l;rw[_S.sQ.irr] at l;cases l
 refine sT (λ{a b} h v hv w hw e=>h w hw v hv e.symm) hp x3 y3 ne ((x.2-x.1) % m) (Aw.mpr ⟨x.1,Fv.mpr ⟨x2,?_⟩,rfl⟩) ((y.2-y.1) % m) (Aw.mpr ⟨y.1,Fv.mpr ⟨y2,?_⟩,rfl⟩) (by rw[e])
 .rw[Qj]
  lia
 .rw[Qj]
  lia
theorem dW {α β:Type}{f:α->Aa β}{k:Ai}:∀ {l:Aa α},(∀ x∈l,(f x).length=k)->(l.flatMap f).length=l.length*k
 |[],_=>(Nat.zero_mul _).symm
 |x::l,h=>by
  rw[Gy,Ct,h x (.head _),dW λy hy=>h y (.tail _ hy),Bd,So]
  lia
theorem LK (nd:ms.Nodup)(m:Ak):(rs ms m).length=ms.length*(ms.length-1):=dW λx hx=>by
 have:(ms.filter λy=>x != y)=ms.erase x:=by
  rw[nd.erase_eq_filter]
  congr 1
  funext y
  exact bne_comm
 rw[Ao,this,Lu hx]
theorem D2 {m:Ak}(u:ms.Pairwise (· < ·))(hm:1<=m)(h0:0 ∉ rs ms m)(h:(rs ms m).Nodup):¬ m<=(ms.length:Ak)*((ms.length:Ak)-1):=by
 have:=yL (G:=(Dd (m-1).toNat).map λ(i:Ai)=>(i:Ak)+1) h λs hs=>by
  have hz:s≠0:=λz=>h0 (z▸hs);obtain⟨x,_,hx⟩:=Kt.mp hs;obtain⟨y,_,rfl⟩:=Aw.mp hx;have h1:=IN (x-y) (show m≠0 by lia)
  have h2:=Hs (x-y) (show 0<m by lia)
  exact Aw.mpr ⟨((x-y) % m-1).toNat,Dt.mpr li,by lia⟩
 rw[LK (pR u),Ao,Gf,Nat.mul_sub] at this;have c:=fH ms;rw[oH]
 lia
theorem mdQ {k x M:Ak}(e:M=2*k+1)(h : -k<=x/\x<=k):x % M=if 0<=x then x else x+M:=by
 split
 .exact Wy li li
 .rw[<- Int.add_emod_right]
  exact Wy li li
theorem E6 {k:Ak}(u:ms.Pairwise (· < ·))(hk:∀ x∈ms,0<=x/\x<=k)(nd:tw (pr ms)=none):ub ms (2*k+1)=true:=by
 have inj:∀ {x y x' y':Ak},x∈ms->y∈ms->x'∈ms->y'∈ms->(x-y) % (2*k+1)=(x'-y') % (2*k+1)->x-y=x'-y':=λ{x y x' y'} h1 h2 h3 h4 e=>by
  have:=hk x h1;have:=hk y h2;have:=hk x' h3;have:=hk y' h4;rw[mdQ rfl li,mdQ rfl li] at e
  split at e <;> split at e <;> lia
 refine(rG _ _).mpr ⟨λh0=>?_,Ss.mpr ⟨λx hx=>?_,?_⟩⟩
 .obtain⟨x,hx,h0⟩:=Kt.mp h0
  obtain⟨y,hy,e⟩:=Aw.mp h0;obtain⟨hy,ne⟩:=Fv.mp hy;have:=inj hx hy hx hx (by rw[e,Int.sub_self,Int.zero_emod])
  rw[Qj] at ne
  lia
 .refine Di.mpr (((pR u).filter _).imp_of_mem λ{y z} hy hz ne e=>ne ?_)
  have:=inj hx (Fv.mp hy).1 hx (Fv.mp hz).1 e
  lia
 .refine u.imp_of_mem λ{x x'} hx hx' l v hv w hw e=>?_
  obtain⟨y,hy,rfl⟩:=Aw.mp hv;obtain⟨y',hy',rfl⟩:=Aw.mp hw;obtain⟨hy,n1⟩:=Fv.mp hy;obtain⟨hy',n2⟩:=Fv.mp hy';rw[Qj] at n1 n2;have e:=inj hx hy hx' hy' e;rcases Vp n1 with z|z
  .have:=UO u nd hx hy hx' hy' z li li
   lia
  .have:=UO u nd hy hx hy' hx' z li li
   lia
theorem WG (fs:Aa Ak):((tbl fs).map λk=>k.headD 0).Pairwise λa b=>_S.ltI a b=true:=by
 have p:(tbl fs).Perm (tbK fs):=_S.yH _;have nd:((tbl fs).map λk=>k.headD 0).Nodup:=by
  rw[(p.map λk=>k.headD 0).nodup_iff];unfold tbK;rw[Do];show ((kys fs).map λf=>f).Nodup;rw[List.map_id'];exact mV _ _ Iq
 have s:(tbl fs).Pairwise λa b=>_H.lexLt b a=false:=_S.cM _S.sQ _;rw[Di];refine(s.and (Di.mp nd)).imp_of_mem λ{a b} ha hb h=>?_;obtain⟨f,_,rfl⟩:=Aw.mp (p.mem_iff.mp ha);obtain⟨g,_,rfl⟩:=Aw.mp (p.mem_iff.mp hb);obtain⟨h1,h2⟩:=h;have h2:f≠g:=h2;refine Cp (show f<g from ?_)
 rcases Vp h2 with z|z
 .exact z
 .simp[_H.lexLt,z] at h1
  exact absurd h1.1.symm h2
theorem JT (u:ms.Pairwise (· < ·)) : ((tbl (fars (mkL ms))).map λk=>k.headD 0)=(_S.srt _S.ltI (df ms)).map λg=>g*g:=by
 have pos:∀ g∈df ms,0<g:=λg hg=>by
  rw[pE] at hg;obtain⟨p,hp,rfl⟩:=Aw.mp hg;have:=(vD u hp).1;show 0<p.2-p.1
  lia
 refine _S.jL _S.zY (WG _) ?_ λx=>?_
 .rw[Di]
  refine(_S.wZ _S.zY _).imp_of_mem λ{a b} ha hb h=>?_;have h:a<b:=Cf h;have ha:=pos a ((_S.zE _S.zY _ _).mp ha);have h1:=Int.mul_lt_mul_of_pos_left h ha;have h2:=Int.mul_lt_mul_of_pos_right h (show 0<b by lia)
  exact Cp (show a*a<b*b by lia)
 .have e1:x∈((tbl (fars (mkL ms))).map λk=>k.headD 0)↔x∈fars (mkL ms):=by
   rw[<- KE (fs:=fars (mkL ms))];constructor
   .intro h
    obtain⟨k,hk,rfl⟩:=Aw.mp h;obtain⟨f,hf,rfl⟩:=Aw.mp ((_S.yH _).mem_iff.mp hk);exact hf
   .intro h
    exact Aw.mpr ⟨_,(_S.yH _).mem_iff.mpr (Aw.mpr ⟨x,h,rfl⟩),rfl⟩
  have e2:fars (mkL ms)=(df ms).map λg=>g*g:=by
   unfold fars;rw[mH,pE,Do,Do];refine Ov λp _=>?_;show (p.1-p.2)*(p.1-p.2)+(0-0)*(0-0)=(p.2-p.1)*(p.2-p.1)
   grind
  rw[e1,e2,Aw,Aw];simp only[_S.zE _S.zY]
theorem eC (m:Ak):∀ r:Aa Ak,(df (r++[m])).Perm (df r++r.map λx=>m-x)
 |[]=>.refl _
 |a::r=>by
  show ((r++[m]).map (λb=>b-a)++df (r++[m])).Perm (r.map (λb=>b-a)++df r++((m-a)::r.map λx=>m-x));rw[Fl,Cc,Cc];refine Ho _ ?_;show ((m-a)::df (r++[m])).Perm _;exact((eC m r).cons _).trans List.perm_middle.symm
theorem pL {r:Aa Ak}(h:r≠[]):r.getLastD 0∈r:=by
 cases r with
 |nil=>exact absurd rfl h
 |cons a r =>
  rw[Hu,<- Ja (by simp)]
  exact Xw _
theorem ZW {L:Ak}:∀ (k:Ai) (ms:Aa Ak),ms.length=k+1->ms.head? = Ab 0->ms.Pairwise (· < ·) -> (∀ x∈ms,x<=L)->(df ms).Nodup->ms∈uu k L
 |0,ms,hl,hh,_,_,_=>by
  match ms,hl with
  |[a],_ =>
   have:a=0:=by simpa using hh
   subst this;exact .head _
 |k+1,ms,hl,hh,hu,hL,nd=>by
  obtain⟨r,m,rfl⟩:∃ r m,ms=r++[m]:=by
   rcases List.eq_nil_or_concat ms with z|⟨l',z,e⟩
   .rw[z] at hl;cases hl
   .exact⟨l',z,by rw[e,List.concat_eq_append]⟩
  rw[Ct,Iy] at hl;have hr:r≠[]:=λz=>by rw[z] at hl;simp at hl
  obtain⟨u1,_,u3⟩:=Ds.mp hu;have ih:=ZW (L:=L) k r li (by cases r with|nil=>exact absurd rfl hr|cons a r=>exact hh) u1 (λx hx=>hL x (Cj _ hx)) (Jx.mp ((eC m r).nodup_iff.mp nd)).1
  have h1:=u3 _ (pL hr) m (.head _);have h2:=hL m (Bq _ (.head _));refine Fv.mpr ⟨Kt.mpr ⟨r,ih,Aw.mpr ⟨m,sG ⟨by lia,by lia⟩,rfl⟩⟩,?_⟩
  unfold unl;rw[eD,(tI _).mpr nd];exact Cp rfl
theorem V0 {k:Ai}(hk:k<=5){ms:Aa Ak}(h:Mk M ms)(hl:ms.length=k+1)(nd:tw (pr ms)=none):Lk k<=ms.getLastD 0:=by
 refine Ou.mp λlt=>?_;have nd2:=(UL ms).mp nd;have hx:∀ x∈ms,x<=ms.getLastD 0:=λx hx=>mD h.up hx;have hc:=fH ms;have hn:=yL (G:=(Dd (ms.getLastD 0).toNat).map λ(i:Ai)=>(i:Ak)+1) nd2 λs hs=>by
  rw[pE] at hs;obtain⟨p,hp,rfl⟩:=Aw.mp hs;obtain⟨p1,p2,p3⟩:=vD h.up hp;have:=h.ge _ p2;have:=hx _ p3;unfold gap;exact Aw.mpr ⟨(p.2-p.1-1).toNat,Dt.mpr li,by lia⟩
 rw[Ao,Gf] at hn;have hs:∀ z:Ak,0<=z->(df ms).length<=z.toNat->sta k<=z:=by
  intro z h0 hn;clear lt hx;rw[hl] at hc;rcases (show k=0\/k=1\/k=2\/k=3\/k=4\/k=5 by lia) with rfl|rfl|rfl|rfl|rfl|rfl <;> simp[sta] <;> lia
 have:=ZW k ms hl h.hd h.up hx nd2;rw[(upT hk).none _ (hs _ (h.ge _ (pL h.ne)) hn) lt] at this;cases this
theorem LY:∀ k<6,∀ r∈ts k,mkB r=true/\r.length=k+1/\r.getLastD 0=Lk k/\(r.reverse.map λx=>Lk k-x)∈ts k/\tw (pr r)=none:=kd
theorem SS (h:mkB ms=true)(hl:1<=ms.length/\ms.length<=20):Mk 20 ms:=by
 have:=hW h hl
 rwa [List.take_length] at this
theorem tN (h:Mk M ms):_L.atI (ms.map D.int) (-1)=Ab (.int (ms.getLastD 0)):=bE ms h.ne
theorem iC (a b:Ar)(S:Sto):gNe (.bl a) (.bl b) S=.ok (.bl (a != b)) S:=by cases a <;> cases b <;> kernel_rfl!
theorem aZ (z:Am (Pt × Pt))(S:Sto):gIs (twD z) .non S=.ok (.bl z.isNone) S:=by cases z <;> rfl
theorem Q3 (z:Am (Pt × Pt))(S:Sto):jG (twD z) .non S=.ok (.bl (!z.isNone)) S:=by cases z <;> rfl
theorem DH (c:Cl){ms:Aa Ak}(h:Mk 20 ms){m:Ak}(hm:1<=m/\m<=1000000){g:Am D}(S:Sto):Ok (xX (dTr (qH 2 (S_unlike_by c) (q8 (q9 0) (q8 (q9 1) (qA))))) (u4 (dTr (d2 jG (qH 1 (S_first_twice c) (q8 (q9 0) (qA))) (dC .non))) (dTr (d2 gLe (q9 1) (d2 xF (q9 2) (d2 wB (q9 2) (dC (.int 1))))))) [Ab (.tup (ms.map D.int)),Ab (.int m),Ab (.int (ms.length:Ak)),g] S) λb S'=>b=false/\S<+:S':=by
 have hl:=h.len;refine sL ?_;rfl';refine qL (ZL c h hm S) ?_;rfl';refine⟨λe=>?_,λe=>⟨rfl,Bl _⟩⟩;obtain⟨h0,hn⟩:=(rG _ _).mp e;refine kI ?_;rfl';refine jI c h λS1 p1=>?_;rw[UN h.up hn];rfl';refine qL (Q3 none S1) ?_;rfl';refine⟨λe=>(by cases e),λ_=>?_⟩
 rfl';exact⟨Cy (D2 h.up hm.1 h0 hn),p1⟩
theorem c7 (c:Cl){ms:Aa Ak}(h:Mk 20 ms){m:Ak}(hm:1<=m/\m<=1000000){S:Sto}(q:∀ S',S<+:S'->Q (.bl true) S'):Ok (S__law_right c [mkD ms,.int m] S) Q:=by
 have hl:=h.len;have hz:=tN h;have hz0:=h.ge _ (pL h.ne);have hz1:=h.le _ (pL h.ne);obtain⟨ev,ge⟩:=JO h;have tq:=D0 ms;have tu:(tw (pr ms)).isNone=ub ms (2*ms.getLastD 0+1):=by
  rw[Lh,Ld];exact⟨E6 h.up λx hx=>⟨h.ge x hx,mD h.up hx⟩,λe=>UN h.up ((rG _ _).mp e).2⟩
 have hg:(_S.srt _S.ltI (df ms)).length<=400:=Dh (n8 _ _) (Dh (gN ms) (Jb hl hl));rw[uK];refine qZ (env:=[Ab (.tup (ms.map D.int)),Ab (.int m),none,none]) rfl ?_;rfl';refine T4 c h ?_;rfl';rw[Ao];refine kI ?_;rfl';rw[Ao];refine⟨λe=>absurd (Cf e) ge,λ_=>?_⟩;rfl';rw[Ao];refine T1 c h ?_;rfl';refine qL (iC _ _ S) ?_;rw[ev,Mw];rfl';rw[Ao];refine jI c h λS1 p1=>?_;rfl';refine qL (aZ _ S1) ?_;rfl';refine qL (iC _ _ S1) ?_;rw[tq,Mw];rfl';refine zI (DH c h hm S1) λb S2 ⟨hb,p2⟩=>?_;subst hb;rfl';refine jI c h λS3 p3=>?_;rfl';refine qL (aZ _ S3) ?_;rfl';refine kH hz ?_;rfl';refine qL (ZL c h (m:=2*ms.getLastD 0+1) li S3) ?_;rfl';refine qL (iC _ _ S3) ?_;rw[tu,Mw];rfl';refine qL (tV c (As _) h S3) ?_;rfl';refine qL (sU (sR _) S3) ?_;rw[bP li (sD h)];rfl';refine qL (d:=.bl true) (S:=S3) rfl ?_;rfl';refine qL (tV c (As _) h S3) ?_;rfl';refine T3 c (As _) (sD h) λS4 p4=>?_;rw[JT h.up];rfl';refine w8 (enc:=D.int) (o:=none) (_S.srt _S.ltI (df ms)) (λg=>.int (g*g)) (λenv S'=>S'=S4/\∃ a,env=[a]) (WM rfl) ⟨rfl,none,rfl⟩ (by unfold lim;lia) (λ_ _ _=>trivial) (λx hx env S' ⟨e1,a,e2⟩=>?_) λenv S' ⟨e1,_⟩=>?_
 .subst e1 e2
  have hx2:0<=x/\x<=1000:=by
   have hd:=(_S.zE _S.zY _ _).mp hx;rw[pE] at hd;obtain⟨p,hp,rfl⟩:=Aw.mp hd;obtain⟨p1,p2,p3⟩:=vD h.up hp;have:=h.ge _ p2;have:=h.le _ p3;unfold gap
   lia
  rfl';exact⟨_,rfl⟩
 .subst e1
  rfl';rw[show (_S.srt _S.ltI (df ms)).map (λg=>D.int (g*g))=((_S.srt _S.ltI (df ms)).map λg=>g*g).map D.int by rw[Do];rfl]
  refine SY ?_;rw[Cp rfl];exact q _ (((p1.trans p2).trans p3).trans p4)
theorem ZR (r:Aa Ak)(k:Ak):_H.stepL (r.map D.int) k=(_H.stepL r k).map D.int:=by
 unfold _H.stepL;rw[Ao,Vj];simp only[Du]
noncomputable def bkQ (k:Ai)(r:Aa Ak):Aa Ak:=(_H.stepL r (-1)).map λx=>Lk k-x
theorem B9:∀ k<6,∀ r∈ts k,inI (tpD (bkQ k r)) (.lst ((ts k).map tpD))=Ab true/\(_H.stepL r (-1)).length<=6:=kd
theorem K3 {z:Aa Ak}(hz:z.length<=20){s0 s1 s2 s3 s4 s5 s6 s8:Am D}(S:Sto):dIt (fE (q9 7) (d1 yT (dC (.int 1)))) [s0,s1,s2,s3,s4,s5,s6,Ab (.tup (z.map D.int)),s8] S=.ok (none,(_H.stepL z (-1)).map D.int) S:=by
 have h:fE (q9 7) (d1 yT (dC (.int 1))) [s0,s1,s2,s3,s4,s5,s6,Ab (.tup (z.map D.int)),s8] S=.ok (.tup ((_H.stepL z (-1)).map D.int)) S:=by
  rw[<- ZR];refine zS ?_;rfl';exact T7 (by rw[Ao];lia) ⟨rfl,rfl⟩
 unfold dIt;rw[h];rfl
theorem SW {k:Ai}{z:Aa Ak}(h:inI (tpD (bkQ k z)) (.lst ((ts k).map tpD))=Ab true)(S:Sto):v9 (.tup ((bkQ k z).map D.int)) (.lst ((ts k).map λk=>D.tup (k.map D.int))) S=.ok (.bl false) S:=by
 have h:inI (.tup ((bkQ k z).map D.int)) (.lst ((ts k).map λk=>D.tup (k.map D.int)))=Ab true:=h;unfold v9;rw[h];rfl
theorem DJ (c:Cl){ms:Aa Ak}(h:Mk 20 ms){k:Ai}(hk:k<=5){s0 s1 s2 s5 s7 s8:Am D}(S:Sto):Ok (xX (dTr (d2 gEq (q9 4) (qU xE (q8 (q9 3) (qA))))) (xX (dTr (d2 gIs (qH 1 (S_first_twice c) (q8 (q9 3) (qA))) (dC .non))) (dTr (d2 gLt (d2 gIx (q9 3) (d1 yT (dC (.int 1)))) (q9 6)))) [s0,s1,s2,Ab (.tup (ms.map D.int)),Ab (.int ((k:Ak)+1)),s5,Ab (.int (Lk k)),s7,s8] S) λb S'=>b=false/\S<+:S':=by
 refine sL ?_;rfl';rw[Ao];refine⟨λe=>?_,λe=>⟨rfl,Bl _⟩⟩;have e:(k:Ak)+1=(ms.length:Ak):=Cf e;refine sL ?_;rfl';refine jI c h λS1 p1=>?_;rfl';refine qL (aZ _ S1) ?_;rfl';refine⟨λe2=>?_,λe2=>⟨rfl,p1⟩⟩;have sn:=V0 hk h li (Ld.mp e2);rfl';refine kH (tN h) ?_;rfl';exact⟨Cy (Ou.mpr sn),p1⟩
def IvL (ns:Aa Ak)(_:Aa Ak)(env:qC)(_:Sto):Prop:=∃ e1 e2 e3 e4 e5 e6 e7 e8,env=[Ab (.lst (ns.map D.int)),e1,e2,e3,e4,e5,e6,e7,e8]
theorem WU (c:Cl)(nd:(aF c).Nodup)(ns:Aa Ak)(hl:ns.length<=63):∃ S,qQ 9 (b_law c) [.lst (ns.map D.int)] [] = .ok (.bl true) S:=by
 have key:Ok (qQ 9 (b_law c) [.lst (ns.map D.int)] []) λd _=>d=.bl true:=by
  refine qZ (env:=[Ab (.lst (ns.map D.int)),none,none,none,none,none,none,none,none]) rfl ?_;unfold b_law;array_get_dec;refine EA (PL ns hl 6 rfl λms=>?_);refine vG (IvL ns) ?_ ?_ ⟨_,_,_,_,_,_,_,_,rfl⟩
  .rintro y xs _ S ⟨e1,e2,e3,e4,e5,e6,e7,e8,rfl⟩
   rfl';refine R5 λp S0 p0=>?_;rfl';refine KW (M:=12) li p0 λms S1 k1 L=>?_;have L20:Mk 20 ms:=⟨L.hd,Dh L.len li,L.up,L.le⟩;unfold mkD;rfl';refine vB k1.pen li λk S2 k2 h2=>?_;rfl';rw[show (1:Ak)+(k:Ak)=(k:Ak)+1 from Int.add_comm _ _]
   refine vB k2.pen li λm S3 k3 h3=>?_;rfl';refine c7 c L20 (m:=1+(m:Ak)) li λS4 p4=>?_;rfl';refine qL (sV c k li S4) ?_;rfl';refine qL (PM c k li S4) ?_;rfl';refine vG (λr env S'=>(∀ z∈r,z∈ts k)/\jO S' p/\∃ e7 e8,env=[Ab (.lst (ns.map D.int)),Ab (.int y),Ab (.loc p),Ab (.tup (ms.map D.int)),Ab (.int ((k:Ak)+1)),Ab (.lst ((ts k).map tpD)),Ab (.int (Lk k)),e7,e8]) ?_ ?_ ⟨λ_ h=>h,tS k3.pen p4,_,_,rfl⟩
   .rintro z r _ S' ⟨hr,pp,e7,e8,rfl⟩
    obtain⟨t1,t2,t3,t4,t5⟩:=LY k li z (hr z (.head _));obtain⟨t6,t7⟩:=B9 k li z (hr z (.head _));have Lz:Mk 20 z:=SS t1 li;unfold tpD;rfl';refine w8 (enc:=D.int) (o:=none) (_H.stepL z (-1)) (λx=>.int (Lk k-x)) (λenv S''=>S''=S'/\∃ a,env=[a,Ab (.int (Lk k))]) (K3 li S') ⟨rfl,none,rfl⟩ (by unfold lim;lia) (λ_ _ _=>trivial) (λx hx env S'' ⟨e1,a,e2⟩=>?_) λenv S'' ⟨e1,_⟩=>?_
    .subst e1 e2
     rfl';exact⟨_,rfl⟩
    .subst e1
     rw[show (_H.stepL z (-1)).map (λx=>D.int (Lk k-x))=(bkQ k z).map D.int by unfold bkQ;rw[Do];rfl]
     rfl';refine kH (tN Lz) ?_;rw[t3];rfl';refine uU (λ_=>?_) λe=>absurd rfl e;rfl';refine qL (SW t6 S'') ?_;rfl';refine qL (cC (U7 z) S'') ?_;rw[eQ (As _) Lz];rfl';refine qL (d:=.bl false) (S:=S'') rfl ?_;rfl';rw[Ao];refine uU (λ_=>?_) λe=>absurd li e;rfl';refine kI ?_;rfl';refine vB pp li λm2 S6 k6 h6=>?_;rfl';refine c7 c Lz (m:=1+(m2:Ak)) li λS7 p7=>?_;rfl';refine⟨λe=>(by cases e),λ_=>?_⟩
     rfl';refine jI c Lz λS8 p8=>?_;rw[t5];rfl';refine qL (Q3 none S8) ?_;rfl';exact pS ⟨λw hw=>hr w (.tail _ hw),tS (tS k6.pen p7) p8,_,_,rfl⟩
   .rintro _ S' ⟨_,pp,e7,e8,rfl⟩
    rfl';refine zI (DJ c L20 li S') λb S5 ⟨hb,p5⟩=>?_;subst hb;rfl';exact pS ⟨_,_,_,_,_,_,_,_,rfl⟩
  .rintro _ S ⟨e1,e2,e3,e4,e5,e6,e7,e8,rfl⟩
   rfl';rfl
 obtain⟨d,S,e,rfl⟩:=key;exact⟨S,e⟩
end _K
namespace _K
open PySem PySem.Spec PyProof.Rows _L _D
theorem KF {P:Be}{w:Bx}{K:Aj}{mg:Av->Am Ac}{base:Br}{c:Cl}(T:Txt K mg c)(nd:(aF c).Nodup)(hT:(MS.all λy=>(El K y).isSome)=true):∃ F,d0 P w K mg base true 9 "law" ["_law_script"] F/\∀ ns:Aa Ak,ns.length<=63->∃ S,F [.lst (ns.map D.int)] [] = .ok (.bl true) S:=by
 refine hv (λ_=>?_) (dq (cm:=true) P w base 0 0 T rfl ck (kZ) ?_);refine hv (λ_=>?_) (dq (cm:=true) P w base 1 1 T rfl ck (jD) ?_);refine hv (λ_=>?_) (dq (cm:=true) P w base 0 2 T rfl ck (yS) ?_);refine hv (λ_=>?_) (dq (cm:=true) P w base 2 3 T rfl ck (vX c) ?_);refine hv (λ_=>?_) (dq (cm:=true) P w base 2 4 T rfl ck (kY) ?_);refine hv (λ_=>?_) (dq (cm:=true) P w base 3 5 T rfl ck (pX) ?_);refine hv (λ_=>?_) (dq (cm:=true) P w base 4 6 T rfl ck (g9 c) ?_);refine hv (λ_=>?_) (dq (cm:=true) P w base 0 7 T rfl ck (vV) ?_);refine hv (λ_=>?_) (dq (cm:=true) P w base 1 8 T rfl ck (vJ) ?_);refine hv (λ_=>?_) (dq (cm:=true) P w base 5 9 T rfl ck (jC c) ?_);refine hv (λ_=>?_) (dq (cm:=true) P w base 6 10 T rfl ck (nF c) ?_);refine hv (λ_=>?_) (dq (cm:=true) P w base 5 11 T rfl ck (uL c) ?_);refine hv (λ_=>?_) (dq (cm:=true) P w base 1 12 T rfl ck (jB) ?_);refine hv (λ_=>?_) (dq (cm:=true) P w base 2 13 T rfl ck (uM c) ?_);refine hv (λ_=>?_) (dq (cm:=true) P w base 0 14 T rfl ck (vU) ?_);refine hv (λ_=>?_) (dq (cm:=true) P w base 0 15 T rfl ck (yQ) ?_);refine hv (λ_=>?_) (dq (cm:=true) P w base 3 16 T rfl ck (nG c) ?_);refine hv (λ_=>?_) (dq (cm:=true) P w base 3 17 T rfl ck (gG c) ?_);refine hv (λ_=>?_) (dq (cm:=true) P w base 3 23 T rfl ck (pW c) ?_);refine hv (λ_=>?_) (dq (cm:=true) P w base 6 18 T rfl ck (vW c) ?_);refine hv (λ_=>?_) (dq (cm:=true) P w base 1 19 T rfl ck (vK) ?_);refine hv (λ_=>?_) (dq (cm:=true) P w base 3 20 T rfl ck (yR c) ?_);refine hv (λ_=>?_) (dq (cm:=true) P w base 4 21 T rfl ck (gA c) ?_);refine hv (λ_=>?_) (dq (cm:=true) P w base 3 22 T rfl ck (jE c) ?_);refine hv (λ_=>?_) (dq (cm:=true) P w base 0 24 T rfl ck (j9) ?_);refine hv (λ_=>?_) (dq (cm:=true) P w base 0 25 T rfl ck (kX) ?_);refine hv (λ_=>?_) (dq (cm:=true) P w base 0 26 T rfl ck (jA) ?_);refine hv (λ_=>?_) (dq (cm:=true) P w base 1 27 T rfl ck (uJ) ?_);refine hv (λ_=>?_) (dq (cm:=true) P w base 7 28 T rfl ck (uK c) ?_);refine⟨_,dqP 8 29 T rfl ck ?_,WU c nd⟩
 all_goals
  intros
  repeat' first
   |with_reducible exact ck
   |((with_reducible show QE _ _ _);with_reducible first|apply aV|apply NO|apply RL|apply NT|apply NQ|apply aBt|apply aGi|apply aO|apply aN|apply GV|(apply aB;first|apply EI|apply EH|apply ED|apply VB)|(apply aT;first|apply BM|apply EF)|apply aC|apply NU|apply NP|apply GU|apply RN|apply YH|apply GW|apply RO|apply NL|apply YF|apply NR|apply RP|apply NS|apply NK|apply RM|apply GT|apply NN|apply NM|apply rP|apply iK|(apply U9;(case slot=>apply Op);(case' hm=>first|apply VA))|(apply U9;(case slot=>apply PySem.F.slot_list_append);(case' hm=>first|apply V8)))
   |((with_reducible show _=_);first|exact T.nb ck|with_reducible apply Jh|with_reducible apply Re|with_reducible apply Ox|with_reducible apply Qb|exact gT _|exact rfl|with_unfolding_all rfl)
   |((with_reducible show ZOp _ _ _);with_reducible first|apply EC|apply ER|apply EL|apply EE|apply EK|apply EN|apply CN|apply CM|apply CJ|apply CI|apply CH|apply CO|apply EG|apply V9|apply CK|apply BK|apply EJ|apply BL)
   |((with_reducible show RoomC _ _ _);first|assumption|exact RoomC.mono (by assumption)|exact RoomC.mono (RoomC.any (by assumption))|exact RoomC.mark (by assumption) _|exact RoomC.mono (RoomC.mark (by assumption) _))
   |((with_reducible show St1 _ _ _ _);exact⟨rfl,rfl⟩)
   |((with_reducible show DfS _ _ _ _ _ _ _ _ _ _);assumption)
   |with_reducible first|apply NJ|apply ZE|apply cA|apply GQ|apply NI|apply PB|apply PC|apply P8|apply L5|apply LD|apply LC|apply YQ|(apply RT;first|apply cB|apply ZJ|apply ZI|apply UA)|apply LF|apply cB|apply ZJ|apply ZI|apply UA|apply aNm|apply NY|apply NW|apply YI|apply GY|apply L3|apply YK|apply L4|apply GZ|apply P7|apply YJ|apply L0|apply NZ|apply PF|apply YR|apply YL|apply P9|apply RQ|apply LA|apply RS|apply PD|apply L8|apply YO|apply aAu|apply aP2|apply aRs|apply EM|apply CL|apply D9|apply EO|apply SH|apply Jh|apply Re|apply Ox|apply Qb
   |((with_reducible apply aCs);case hsw=>exact rfl)
   |((with_reducible apply aSt);case hs=>exact rfl)
   |with_reducible apply L6
   |exact T.rz (by kernel_rfl)
   |exact T.gi (by kernel_rfl)
   |((with_reducible show ClA _ _ _ _);first|assumption|exact ClA.tr (by assumption))
   |((with_reducible show LmX _ _ _ _ _ _ _ _ _ _);assumption)
   |((with_reducible show DfL _ _ _ _ _ _ _ _ _ _ _ _ _);assumption)
   |((with_reducible show LmK _ _);refine lmK hT (by assumption) ?_ rfl)
   |((with_reducible show ZF _ _ _ _);first|apply aFn|apply aFn0)
   |exact λ_=>⟨rfl,rfl,rfl⟩
   |(intro h;cases h;done)
   |((with_reducible show ZPass _);first|assumption|exact BQ)
   |exact⟨rfl,rfl⟩
   |exact⟨rfl,rfl,rfl⟩
   |apply ZE
   |apply cA
   |decide
   |(intros;rfl)
   |(intro _ h;cases h <;> rfl)
   |intro _
end _K
namespace _K
open PySem PySem.Spec PyProof.Rows _L _D
variable {K:Aj}
theorem bdf:BdF top tab:=by
 repeat (refine⟨?_,?_⟩;(intro _ _ _ _ _ _ us h;first|(obtain⟨_,rfl⟩:=us1 h;rfl)|(obtain⟨_,_,rfl⟩:=us2 h;rfl)|(obtain⟨_,_,_,rfl⟩:=us3 h;rfl)))
 exact trivial
theorem DD {C0 C1 C2 C3:Af}(q0:Es K Df "FarError" = Ab (Ab (.ref C0)))(q1:Es K Df "NoLot" = Ab (Ab (.ref C1)))(q2:Es K Df "NoNumber" = Ab (Ab (.ref C2)))(q3:Es K Df "NoMarks" = Ab (Ab (.ref C3))):cS K (clt ⟨C0,C1,C2,C3⟩):=⟨q0,q1,q2,q3,trivial⟩
theorem DM {k0 k1 k2 k3 k4 k5:Ry}(g0:Es K Df "LEAST_NUMBER" = Ab (Ab (.int (-1000) k0)))(g1:Es K Df "MOST_NUMBER" = Ab (Ab (.int (1000) k1)))(g2:Es K Df "MOST_POINTS" = Ab (Ab (.int (40) k2)))(g3:Es K Df "MOST_MARKS" = Ab (Ab (.int (20) k3)))(g4:Es K Df "MOST_MARK" = Ab (Ab (.int (1000) k4)))(g5:Es K Df "MOST_SHORTEST" = Ab (Ab (.int (6) k5))):cT K cst:=⟨⟨_,g0⟩,⟨_,g1⟩,⟨_,g2⟩,⟨_,g3⟩,⟨_,g4⟩,⟨_,g5⟩,trivial⟩
theorem MT {P:Be}{w:Bx}{mg:Av->Am Ac}{c:Cl}{fa:Af}(T:Txt K mg c)(nd:(aF c).Nodup)(hT:(MS.all λy=>(El K y).isSome)=true)(hfa:mg "law" = Ab (.ref fa)) :
  ∃ fd:Fh,(∀ (s:Ag) (v:Ac),Nl s fd ⟨[v],[]⟩ [("_law_script",v)])/\∀ base:Br,K.In base->base.Ns Df mg->FnOk P w K mg base (CXd P w) 9 fa fd ["_law_script"] (lY K):=
 KG (T.src 29 rfl) hfa (λkV doc pm an cdv ct s v=>.of_eq rfl) λbase=>KF T nd hT
end _K
theorem PySem.W.Fast.tw13468903415409570441 : True := trivial
theorem PySem.W.Fast.tw7052692005210142506 : True := trivial
theorem PySem.W.Fast.tw2574359741515588844 : True := trivial
theorem PySem.W.Fast.tw13021891888082794973 : True := trivial
theorem PySem.W.Fast.tw4924172696515339525 : True := trivial
theorem PySem.W.Fast.tw6955227914433008253 : True := trivial
theorem PySem.W.Fast.tw1442932143105738133 : True := trivial
theorem PySem.W.Fast.tw9813137487229647284 : True := trivial
theorem PySem.W.Fast.tw13423777585516317419 : True := trivial
theorem PySem.W.Fast.tw8619447607655067846 : True := trivial
theorem PySem.W.Fast.tw11133277259810133358 : True := trivial
theorem PySem.W.Fast.tw15755833446204760659 : True := trivial
theorem PySem.W.Fast.tw9601589518941659506 : True := trivial
theorem PySem.W.Fast.tw3419707142082363340 : True := trivial
theorem PySem.W.Fast.tw2349936560238282066 : True := trivial
theorem PySem.W.Fast.tw10702941361716809840 : True := trivial
theorem PySem.W.Fast.tw680624769083077069 : True := trivial
theorem PySem.W.Fast.tw13824605719527565559 : True := trivial
theorem PySem.W.Fast.tw3099058770856100119 : True := trivial
theorem PySem.W.Fast.tw1862639128761605951 : True := trivial
theorem PySem.W.Fast.tw6361205069887172358 : True := trivial
theorem PySem.W.Fast.tw9077635067415477325 : True := trivial
theorem PySem.W.Fast.tw5710398807262592956 : True := trivial
theorem PySem.W.Fast.tw2089376684963598150 : True := trivial
theorem PySem.W.Fast.tw391807976834053272 : True := trivial
theorem PySem.W.Fast.tw12070966445758788681 : True := trivial
theorem PySem.W.Fast.tw3671077994732086981 : True := trivial
theorem PySem.W.Fast.tw11421000668325093285 : True := trivial
theorem PySem.W.Fast.tw8957418677820524707 : True := trivial
theorem PySem.W.Fast.tw7280962739151025360 : True := trivial
theorem PySem.W.Fast.tw11559531271743311823 : True := trivial
theorem PySem.W.Fast.tw14622349040484054291 : True := trivial
theorem PySem.W.Fast.tw1878788164419499767 : True := trivial
theorem PySem.W.Fast.tw1508444418310430524 : True := trivial
theorem PySem.W.Fast.tw8765427730958431170 : True := trivial
theorem PySem.W.Fast.tw4153263293508184684 : True := trivial
theorem PySem.W.Fast.tw15293588505269718282 : True := trivial
theorem PySem.W.Fast.tw2424015140340385880 : True := trivial
theorem PySem.W.Fast.tw1886206067087802954 : True := trivial
theorem PySem.W.Fast.tw5737752514537029702 : True := trivial
theorem PySem.W.Fast.tw3014988210669045620 : True := trivial
theorem PySem.W.Fast.tw724649175149827861 : True := trivial
theorem PySem.W.Fast.tw12988996100388877695 : True := trivial
theorem PySem.W.Fast.tw17887984578198080243 : True := trivial
theorem PySem.W.Fast.tw1217495973176707563 : True := trivial
theorem PySem.W.Fast.tw2954035884483605281 : True := trivial
theorem PySem.W.Fast.tw12883521718689423944 : True := trivial
theorem PySem.W.Fast.tw7814831913284270156 : True := trivial
theorem PySem.W.Fast.tw9512773936547121796 : True := trivial
theorem PySem.W.Fast.tw6817749263353299590 : True := trivial
theorem PySem.W.Fast.tw5981297067479341282 : True := trivial
theorem PySem.W.Fast.tw1690242949974269562 : True := trivial
theorem PySem.W.Fast.tw11117145936754369271 : True := trivial
theorem PySem.W.Fast.tw1484475693565339914 : True := trivial
theorem PySem.W.Fast.tw12395055316519772813 : True := trivial
theorem PySem.W.Fast.tw16822423372923842679 : True := trivial
theorem PySem.W.Fast.tw13697748655266989407 : True := trivial
theorem PySem.W.Fast.tw15950132342601979586 : True := trivial
theorem PySem.W.Fast.tw12103159008999344268 : True := trivial
theorem PySem.W.Fast.tw16242128524764971903 : True := trivial
theorem PySem.W.Fast.tw592387554682067276 : True := trivial
theorem PySem.W.Fast.tw13474528077536442070 : True := trivial
theorem PySem.W.Fast.tw5823545760601109978 : True := trivial
theorem PySem.W.Fast.tw11490975299548399951 : True := trivial
theorem PySem.W.Fast.tw16681637633920841471 : True := trivial
theorem PySem.W.Fast.tw15131751669796494226 : True := trivial
theorem PySem.W.Fast.tw17970255488769641044 : True := trivial
theorem PySem.W.Fast.tw1304623396294788275 : True := trivial
theorem PySem.W.Fast.tw4167227232008146155 : True := trivial
open PySem PySem.W PyProof.Rows
set_option maxRecDepth 100000 in
set_option maxHeartbeats 0 in
theorem PySem.Challenge.cw_fewdistances_k74_whole_marks_holds : PySem.Challenge.rw_fewdistances_k74_whole_marks.Holds := by
 w_on;o_law;k_head;(case hw=>w_witness2)
 k_fill
 refine _D.EB (l:=Qc) (k:=9) (x:="_law_script") rfl rfl ⟨rfl,by decide,by decide,rfl⟩ (λ_=>by kernel_rfl) (λw h Y=>Y) ?F
 case F =>
  intro w mg fa h KX G hmg
  refine' _K.MT (_D.E7 _K.bdf ?hp rfl KX G ?s ?z (_K.DD ?q0 ?q1 ?q2 ?q3) (_K.DM ?gi0 ?gi1 ?gi2 ?gi3 ?gi4 ?gi5) ?e1 ?e2 ?e3 ?e4 ?e5 ?e6) ?nd ?hT hmg
  (case s=>(repeat (refine' ⟨_D.SrcF.mk ?a ?l ?c ?k,?_⟩;(case a=>k_is);(case l=>k_is);(case c=>k_is);(case k=>k_is)));exact trivial)
  (case z=>rfl)
  (case q0=>k_is)
  (case q1=>k_is)
  (case q2=>k_is)
  (case q3=>k_is)
  (case gi0=>k_is)
  (case gi1=>k_is)
  (case gi2=>k_is)
  (case gi3=>k_is)
  (case gi4=>k_is)
  (case gi5=>k_is)
  (case hp=>intro y hy;revert hy;simp;grind)
  (case e1=>rfl)
  (case e2=>rfl)
  (case e3=>rfl)
  (case e4=>rfl)
  (case e5=>rfl)
  (case e6=>rfl)
  (case nd=>decide)
  (case hT=>rfl)
