import PyProof.Rows.All
import Wide.All
import OpenK.AllK
import Wide.FinOn
import Lean
import PyProof.EqAt
import PyProof.EqKinds
import PyProof.TupleCall
import KE.KLam
import KE.KTryMore
import KE.KIsAll
import PyProof.NeKinds
import PyProof.Rows.CountFlat
import PyProof.Rows.FStr
import PyProof.ZipIter
import PyProof.EnumMake
import PyProof.EnumStmt
import KE.KDictLaws
import PyProof.DictWalks
import PyProof.Rows.SetFrom
import PyProof.SumWalkG
import PyProof.Rows.SumGenD
import PyProof.SeqI2
import KE.KItemsList
import PyProof.SetKind
import PyProof.TupleKey
import KE.KSortTup
import PyProof.ReprRoads
import PyProof.ReprBulk
import PyProof.TupleOfSeq
import PyProof.WalkInts
import PyProof.SeqI3
import PyProof.Rows.RuleDivmod
import PyProof.ListRange
import KE.KPairComp
import KE.KMinKey
import PyProof.Rows.CallKwBuiltin
import KE.KDictList
import PyProof.DictTruth
import PyProof.DictRoadsH
import PyProof.Rows.Range3
import PySem.Challenge.RW_fewdistances_k44_whole_grids_and_sums
set_option Elab.async false
set_option linter.all false
set_option maxRecDepth 100000
set_option maxHeartbeats 0
set_option tactic.hygienic false
set_option bootstrap.genMatcherCode false
set_option genSizeOf false
set_option compiler.extract_closed false
open Array renaming length_toList->Ce,toList_append->Dh,getD_eq_getD_getElem?->Ek,getElem?_toList->Em,size_extract->Hu,getD->Ic,toList_push->Iq,toList_extract->Iu,toList_reverse->Jw,perm_iff_toList_perm->OA,append_assoc->To,toList->Ud,toList_inj->Vz
open BEq renaming rfl->Zd
open Bool renaming and_eq_true->As,noConfusion->Cq,false_eq_true->Cz,and_eq_true_iff->Ge,false_ne_true->IN,eq_iff_iff->IW,not_eq_true'->Jh,or_eq_true->Nn,false_and->Ol,true_or->Ug,false_or->Xt,and_true->Xw
open Classical renaming choose_spec->Ji,choose->Jz
open False renaming elim->An
open ForInStep renaming yield->IV
open Int renaming eq_of_mul_eq_mul_left->Cd,natCast_mul->Cp,le_trans->Ex,le_of_lt->Gn,toNat_natCast->Hc,natCast_dvd_natCast->Hl,le_refl->Hx,le_of_mul_le_mul_left->Ir,eq_ofNat_of_zero_le->IM,emod_lt_of_pos->IP,mul_assoc->Jc,mul_nonneg->Ju,natAbs_mul_self'->Jy,emod_nonneg->Ld,natCast_nonneg->Ln,natAbs_dvd_natAbs->Mz,lt_or_le->Ny,fdiv_eq_ediv_of_nonneg->Ox,zero_add->Qf,natCast_add->Qx,ofNat_inj->Tk,one_mul->We,mul_eq_zero->Wr,not_lt->WP,natAbs_dvd->Xj,mul_comm->Yn,mul_emod->Yo,add_comm->Yp,zero_mul->Yq,mul_zero->Yr,add_zero->Ys,mul_one->Yv
open List renaming getElem?_eq_getElem->Am,length_map->Ar,mem_cons_of_mem->Au,getElem?_eq_some_iff->Az,prefix_refl->Bf,mem_cons->Bg,size_toArray->Bh,mem_map->Bk,getElem?_append_left->Bo,all_eq_true->Bt,mem_cons_self->Bv,mem_append_right->Bx,length_cons->By,map_cons->Bz,getElem?_set_ne->Cb,append_assoc->Ci,nodup_cons->Co,mem_append->Cs,mem_iff_getElem->Cw,mem_singleton->Dc,not_mem_nil->Dg,length_append->Dj,getElem?_set_self->Dl,mem_append_left->Dr,range->Ds,getElem?_append_right->Dw,mem_range->DL,getElem?_map->Eb,mem_of_getElem?->Ec,pairwise_append->Ed,map_map->Ei,length_nil->Ew,length_eq_zero_iff->Ff,drop_eq_getElem_cons->Fm,sum_cons->Fn,nodup_nil->Fq,pairwise_map->Gh,mem_filter->Gi,append_nil->Gk,length_take->Gq,getD->Gs,extract_eq_take_drop->Gv,mem_flatMap->Gw,prefix_append->Gy,find?_cons->Hd,map_append->He,zip_cons_cons->Hr,getD_eq_getElem?_getD->Hy,length_filter_le->Hz,nodup_append->Io,pairwise_iff_getElem->Ip,lookup_cons->IF,map_congr_left->II,any_cons->IT,drop_eq_nil_of_le->IU,take_of_length_le->IY,nil_append->Ja,perm_append_comm->Jn,flatMap_cons->Jq,any_eq_true->Kb,perm_ext_iff_of_nodup->Kc,filterMap_cons->Kh,reverse_append->Kr,lookup->Ky,forIn_cons->Kz,mem_filterMap->Lh,pairwise_cons->Lj,set_cons_zero->Ll,filter_append->Lm,pairwise_mergeSort->Lr,forIn_nil->Ly,length_range->Ma,range_succ_eq_map->Me,drop_of_length_le->Mf,filter_eq_nil_iff->Mi,length_drop->Mp,length_singleton->Mq,mem_iff_getElem?->Ms,ext_getElem->Mv,take_append_drop->Mx,of_mem_zip->Nl,foldl_cons->Nq,length_zip->Nr,all_map->Nu,mem_map_of_mem->Oe,set_cons_succ->Ov,length->Oy,getElem?_zip_eq_some->OP,all_cons->OQ,getElem?_take_of_lt->OV,length_erase_of_mem->OY,prefix_iff_getElem?->OZ,getElem_inj->Pc,getElem_mem->Pj,zipIdx_cons->Pl,map_fst_zip->Pp,filter_cons->Pr,getElem?_replicate->Ps,map_nil->Pv,any_map->Pz,pairwise_singleton->Qc,getElem?_cons_succ->Qe,filter_cons_of_neg->Qh,find?_cons_of_neg->Qr,length_pos_of_mem->Qt,countP_mono_left->Rf,singleton_append->Rg,contains_iff_mem->Rj,map_id->Rk,mem_of_mem_erase->Rm,pairwise_flatMap->Ro,mem_erase_of_ne->Sd,mem_of_mem_drop->Se,reverse_reverse->Sh,append_toArray->Sz,mergeSort_perm->Td,length_pos_iff->Th,map_drop->Ti,length_flatMap->Tl,lookup_append->TW,mergeSort_nil->Ub,getElem_drop->Vc,getElem_take->Vd,foldl_append->Vf,getElem_map->Vx,countP_cons->Vy,cons_append->Wa,nodup_range->Wd,length_set->Wh,zipIdx_nil->Wj,replicate->Xb,take_zero->Xf,zipWith->Yj,Nodup->Ze
open List.Pairwise renaming filter->Hb,nil->ON
open List.Perm renaming append_right->IX,append_left->Jm,trans->Np,refl->Oo
open Nat renaming le_refl->Ax,lt_of_lt_of_le->Bd,ne_of_lt->Cn,le_trans->Dd,mul_le_mul->De,lt_irrefl->Di,le_of_lt->Dz,pow_succ->Go,lt_of_le_of_ne->Gz,pos_of_ne_zero->Ha,zero_le->Hg,lt_or_ge->Hk,add_le_add_left->Ho,ne_of_gt->Ia,zero_add->Ig,add_sub_cancel_left->IL,eq_zero_of_not_pos->IZ,lt_succ_of_lt->Jl,add_lt_of_lt_sub'->Jo,one_pos->Jp,lt_trans->Jv,lt_succ_self->Ka,sub_lt->Ks,le_of_dvd->Ku,lt_of_le_of_lt->Li,mul_comm->Lv,le_mul_of_pos_left->Mj,pow_le_pow_right->Nd,mul_le_mul_right->Ng,add_comm->Nv,not_lt->Oc,mul_le_mul_left->Of,eq_zero_or_pos->Ou,le_succ->O9,lt_of_succ_lt->OS,sub_pos_of_lt->OT,le_add_right->Pk,lt_of_not_le->Pq,min_self->Py,pow_zero->Qg,le_antisymm->Qu,add_le_of_le_sub'->Rh,le_of_sub_eq_zero->Ri,pos_of_dvd_of_pos->Rl,one_mul->Rp,le_of_ble_eq_true->Rq,lt_sub_of_add_lt->Sf,add_le_add_right->Sg,add_sub_cancel'->Te,mul_assoc->Tj,sub_add_cancel->Uc,le_of_eq->Uj,sub_self->Uk,add_zero->Ul,le_of_not_lt->Vo,succ_le_succ->Wc,noConfusion->Wi,strongRecOn->Ws,add_le_add->Xe,dvd_trans->Yc,pow_pos->Yz,mul_one->Za,pow_one->Zb
open Nat.succ renaming inj->Yf
open Ne renaming symm->Eu
open Option renaming some->Ab,map_eq_some_iff->Ee,bind_eq_some_iff->Ep,isSome_iff_exists->Ix,isSome_some->Tx,getD_none->Vm,getD_some->Vr,none->Yw
open Option.some renaming inj->Cj
open Or renaming inr->Vp,inl->Xl
open Prod renaming ext->Gd,ext_iff->Ym
open Prod.mk renaming inj->Hm
open PyProof renaming noPylong_small->Qn
open PyProof.Rows renaming wpS_bind->Bb,wpS_pure->Bm,Keyed->Bq,step_dedup->Bu,seqObj->Dx,slot_tuple_getitem->El,wpS_forRange->Es,SortSt->Fa,envOfC->Gb,callWith_type1->Gg,wpS_mono->Gm,wpS_modify->Ie,IntsAre->IS,SortKind->La,get?_update_seq->Lb,wpS_get->Lu,subscriptTail_builtinR->Md,AllBare->Mk,callWith_builtin1->Na,lt_int->Ob,IsTup->Oh,assignInOrder_cons->Os,wpS_lift->OD,gallopOf->Qv,entry_tuple_getitem->Su,subscriptTail->Sv,args_tuple_getitem->Tu,slot_tuple_getitem->Tv,assignInOrder_nil->Uo,entry_list_sort->Wp,Subscript_->Wu
open PyProof.Rows.IntsAre renaming int_at->Xg
open PyProof.Rows.IsTup renaming new->Uq
open PyProof.Rows.SortSt renaming mk'->Cy
open PySem renaming Value->Ac,Addr->Ad,Shared->Ah,wpAny_bind->Ai,Str->Ao,wpAny->Av,wpAny_pure->AT,model->Ba,Program->Bi,starEach->Bl,Expr->Bn,Around->Br,Heap->Bs,World->Ca,Obj->Cg,compareOp->Ch,mainGlobals->Ct,Scope->Do,binaryOp->Dp,wpAny_field->Dq,Comprehension->Du,Pos->Eg,wpAny_setField_rec->Eh,wpAny_callSpecial?_slot->En,FuncData->Et,cLine->Ev,wpAny_pyIter_list->EQ,Stmt->Fb,wpAny_seqItems->Fc,bootBuiltins->Fd,wpAny_call_entry->Fg,argBest->Fh,wpAny_newObj_type->Fi,foldedSetIterable->Fj,mem_of_lookup->Fk,wpAny_holding->Fl,backTo->Ft,sizeLine_eq->Fu,wpAny_pyIter_tuple->Fy,assignEach->Fz,rawInt->Ga,wpAny_rule->Gj,cellsFrom->Gp,attributeBase->Gu,NameKind->Gx,sysModules->Hn,wpAny_Call_Name_kw->Hs,IsPair->Hw,wpAny_passesOwn->Ih,Env->Iw,wpAny_tryCatch->IB,intKind->IC,wpAny_mono->ID,codeAny->IE,wpAny_Call_method0_late->IJ,letOwnedTupleGo->IQ,wpAny_letGo->Jj,Sem->Ke,swappedStores->Ki,swapsWithSole->Kj,behindInMarks->Kk,Arguments->Kl,TriplesOk->Kn,evalArgs_none->Ko,sliceBounds->Kx,call_meetsIn->Lp,recursionLimit->Lx,Model->Lz,Operator->Mb,BindsTo->Ml,Builtin->Mm,wpAny_attempt->Mu,plainId_quiet->My,wpAny_loadName_local->Nb,wpAny_updateSeq_pair->Nc,wpAny_execs_nil->Ni,PassesOwn->Nj,codeAmong->Nm,codeAny_builtin->Nt,builtinsNs->Oa,IsZip->On,wpAny_newFunctionEnv_cells->O0,IsPart->O1,bindArgs->OB,SetTable->OC,tupleKind->OF,wpAny_standAt->OH,wpAny_truthy_bool->OI,getItem->OL,callerA->OM,standAt->OO,wpAny_onRaise->OR,pyNext->Pe,pyIter->Pg,noFill_tuple_add->Ph,closureFor->Pi,meets_dict_items->Pm,IsTupleKey->Po,codeAny_mono->Px,Tok->Qk,richCompare_meets_room->Qo,wpAny_updateSeq->Qw,codeAny_call_function->Qz,swapsWith->Rb,IsEnum->Re,wpAny_newTuple->Rw,newFunctionEnv->Rx,wpAny_Name->Sj,wpAny_loadName_cell->Sk,assignInOrder->Sl,CmpOp->Sm,bindL->So,bindC->Sr,seq_tuple_add->Ss,valueAt->Sx,PlainAttrs->Ta,wpAny_newList->Tf,wpAny_Constant_int->Tq,tupleKind_room_in1->Tz,concat_meets->Ue,wpAny_typeOf->Uf,wpAny_sequenceKey->Ut,slot_list_getitem->Uu,list_append->Uv,atKey->Uw,lastMarks->Ux,ClassData->Uy,pushCells->Va,wpAny_pyIter_enum->Vb,wpAny_collect_seq->Ve,wpAny_eqBool_int->Vg,wpAny_execs_cons->Vi,wpAny_forIn_list->Vk,seqIndex_of->Vl,typeOf->Vq,wpAny_isInstance->Vv,wpAny_pyIter_zip->Vw,bindName->Wf,compTurn->Wk,pushCells_keeps->Wl,wpAny_stack_any->Wm,call->Wv,wpAny_call->Ww,intKind_is->WF,defaultsOf->Xa,Result->Xk,storeName->Xo,setItem->Xp,seqIndex?->Xs,Keyword->Xx,IsEnumOut->Xz,Within->Yd,isTrue->Yg
open PySem.Around renaming under_plainId->Jx,frames_deeper->Rz
open PySem.AutoSeq1 renaming wpAny_loadPart'->Fx,sub_tuple_tuple->OW
open PySem.Builtin.Builtins renaming bindParams->Xi
open PySem.Builtin.Int renaming intBits->IG
open PySem.Builtin.List renaming listUpdate->Yk
open PySem.Builtin.Range renaming rangeSize->Ye
open PySem.Builtin.Slice renaming slicePlaces->Im,sliceAdjust->Km,sliceApplied->O6,slicePartIndex->Wt,sliceFields->Xr
open PySem.Builtin.SmallTypes renaming nextOf->Dn,ownedTupleIsFree->Dv,ownedTupleHandOut->Fw
open PySem.Builtin.Tuple renaming tupleExact->Iy,tupleCompareSizes->Mn,tupleItemsOf->O7,tupleIsExact->Xm,tupleHashOf->Xu
open PySem.Calls renaming callWith_builtin->Hq,spliced_cons->Ot,Name_function_global->Ow,spliced_nil->OK,call_function_entry->OU,evalArgs_plain->Sc
open PySem.Challenge renaming pw_fewdistances_k44_whole_grids_and_sums->Nw,rw_fewdistances_k44_whole_grids_and_sums->Nz
open PySem.Code renaming compLoop->Xy
open PySem.F renaming plain_max_loop->Ef,slot_dict_items->Gf,plainAttrs_dict->Hi,slot_tuple_iterator_next->Hv,entry_max_loop->Jb,slot_dict_setdefault->Je,slot_dict_get->Jg,slot_enumerate_next->Jk,args_dict_items_1->Kq,args_tuple_add_2->Lf,entry_dict_items->Lg,entry_tuple_add->Lo,type_dict_items->Lq,slot_tuple_add->Mc,slot_zip_next->No,args_tuple_iterator_next_1->Od,type_dict_setdefault->Og,entry_tuple_iterator_next->Om,slot_int_bit_length->Op,type_int_bit_length->Oq,excBase_ValueError->O8,slot_list_append->Pa,type_list_append->Pb,args_tuple_lt_2->Pu,args_dict_get_3->Pw,args_enumerate_next_1->Qb,plainAttrs_list->Qi,entry_tuple_lt->Qp,entry_dict_get->Qq,entry_enumerate_next->Qs,plainAttrs_int->Qy,slot_tuple_lt->Ra,type_dict_get->Rr,args_list_append_2->Sb,entry_list_append->Sw,slot_list_append->Tw,args_zip_next_1->Uz,entry_zip_next->Vu
open PySem.Heap renaming get?_push_of_some->Aj,lt_size->Ay,get?_push_size->Be,get?_update_other->Cu,size_push->Ea,SameBut->Fe,get?_update_self->Jf,FlyingW->Uh,IsTuple->Ui,IsList->Vt,MadeExcOf->Xc,ExtBut->Yy
open PySem.Heap.IsSliceOf renaming new->Zf
open PySem.Heap.SameBut renaming update->Tc
open PySem.IsL renaming update->Vn
open PySem.NameKind renaming free->Gr,cell->Mr
open PySem.Obj renaming mapSeq->Ey,data_mapFields->Ua
open PySem.P renaming add_list->Vs
open PySem.SeqAt renaming EqAt->Wx
open PySem.SeqAt.EqAt renaming same->Xv,int_int->Yh,of_refs->Yi
open PySem.SetTable renaming Probe->Wn
open PySem.Shared renaming heap->Mt
open PySem.Str renaming ofString->Eo,empty->Xq
open PySem.Value renaming ref->Cf,none->Df,bool->HT,type->Jd,int->OE,notImplemented->Sa,str->Um,isStrOf->Xn,isInt->Yt,float->Yu
open PySem.W renaming Frag->Ak,tabIn->Dk,kia_one->Ej,nsIn->Er,fnOf->Fo,keepIn->Fp,cellsFrom_some->IR,kitOne->Jr,codeIn->Js,tabObj->Jt,kla_obj->Lc,findIn->Lw,hideAll->Nh,methodObj->OG,kitx_list->OJ,nsMap_none_of_in->OX,instObj->Ql,CodeHd->Ru,lookIn->Rv,kla_fn->Ry,hideAll_get->Si,mroIn->Sn,mg_of->Tg,of_hideAll->Tp,kitx_tuple->Ts,codeRec_of->Tt,callWith_K->T0,isNs_of_in->TD,specialIn->Ur,kitx_dict->Us,plainGet->Vj,takesIn->Wg,OpenLaw->Wq,nsOkIn->Xd,exmOne->Xh,kas_ask->XV,WalkO->Yb
open PySem.W.KatTups renaming cons->Yl
open PySem.W.Looks renaming of_pure->Ya
open PySem.W.WData renaming int->Zg
open PySem.W.WShape renaming has->Zc
open PySem.Walks renaming list->Wz,tuple->Yx
open Sum renaming inl->Dy,inr->Qj
open Sum.inl renaming inj->Kv
open True renaming intro->Ib
open _root_ renaming List->Aa,Nat->Af,Int->Ag,Option->Al,Bool->Ap,decide_eq_true_eq->Aq,if_neg->Aw,if_pos->Bc,Array->Bj,of_decide_eq_true->Bp,decide_eq_true->Bw,decide_eq_false->Cc,if_true->Dm,String->Dt,False->Ez,if_false->Fv,beq_self_eq_true->Gc,decide_eq_false_iff_not->Hj,of_decide_eq_false->Ht,or_false->Ik,Decidable->Il,decide_true->IH,decide_false->IK,beq_eq_false_iff_ne->Kg,StateT->Mw,True->NE,Unit->Qm,beq_iff_eq->Sy,not_or->Tn,DecidableEq->Vh,decide_eq_decide->Wb
noncomputable section
theorem om {p:Prop}(h:p:=by omega):p:=h
theorem li {p:Prop}(h:p:=by lia):p:=h
theorem kd {p:Prop}[Il p](h:p:=by decide +kernel):p:=h
section
namespace _L
open PySem PySem.Spec PyProof.Rows
abbrev Key:=Sum Ag Ao
noncomputable def kT:Key->Ac->Ap
 |.inl k,v=>Yt k v
 |.inr x,v=>Xn x v
noncomputable def HE (w:Ca):Key->Ag
 |.inl k=>hashInt k
 |.inr x=>hashStr w x
theorem zV:∀ {k:Key} {v:Ac},kT k v=true->(∃ i t,k=Dy i/\v=OE i t)\/(∃ x t,k=Qj x/\v=Um x t)
 |.inl i,v,h=>by
  obtain⟨t,e⟩:=Value.isInt_shape (k:=i) (v:=v) h;exact .inl ⟨i,t,rfl,e⟩
 |.inr x,v,h=>by
  obtain⟨t,e⟩:=Value.isStrOf_shape (x:=x) (v:=v) h;exact .inr ⟨x,t,rfl,e⟩
theorem o7 (i:Ag)(t:Qk):kT (.inl i) (.int i t)=true:=by simp[kT,Yt]
theorem o8 (x:Ao)(t:Qk):kT (.inr x) (.str x t)=true:=by simp[kT,Xn]
theorem FX (a b:Ag):decide ((Dy a:Key)=Dy b)=(a == b):=by
 by_cases e:a=b
 .subst e;simp
 .have h:¬ (Dy a:Key)=Dy b:=λq=>e (Kv q)
  rw[Cc h];exact(Kg.mpr e).symm
theorem M0 (a b:Ao):decide ((Qj a:Key)=Qj b)=decide (a=b):=by
 by_cases e:a=b
 .subst e;simp
 .have h:¬ (Qj a:Key)=Qj b:=λq=>e (Sum.inr.inj q)
  rw[Cc h,Cc e]
theorem FY (a:Ag)(b:Ao):decide ((Dy a:Key)=Qj b)=false:=Cc (λq=>nomatch q)
theorem FZ (a:Ao)(b:Ag):decide ((Qj a:Key)=Dy b)=false:=Cc (λq=>nomatch q)
noncomputable def qZ (prog:Bi)(w:Ca):PySem.KeyKind prog w Key where
 is:=kT
 hash:=HE w
 inj:=λv a b ha hb=>by
  rcases zV ha with⟨i,t,rfl,rfl⟩|⟨x,t,rfl,rfl⟩
  .rcases zV hb with⟨j,u,rfl,e⟩|⟨y,u,rfl,e⟩
   .injection e with e1 _;rw[e1]
   .exact nomatch e
  .rcases zV hb with⟨j,u,rfl,e⟩|⟨y,u,rfl,e⟩
   .exact nomatch e
   .injection e with e1 _;rw[e1]
 byValue:=λk v h=>by
  rcases zV h with⟨i,t,rfl,rfl⟩|⟨x,t,rfl,rfl⟩ <;> rfl
 pyHash:=λhv h=>by
  rcases zV hv with⟨i,t,rfl,rfl⟩|⟨x,t,rfl,rfl⟩
  .exact wpAny_pyHash_int h
  .exact wpAny_pyHash_str h
 eqBool:=λhu hv h=>by
  rcases zV hu with⟨i,t,rfl,rfl⟩|⟨x,t,rfl,rfl⟩
  .rcases zV hv with⟨j,u,rfl,rfl⟩|⟨y,u,rfl,rfl⟩
   .rw[FX] at h;exact Vg h
   .rw[FY] at h;exact SeqAt.EqAt.int_str i t y u _ _ _ _ h
  .rcases zV hv with⟨j,u,rfl,rfl⟩|⟨y,u,rfl,rfl⟩
   .rw[FZ] at h;exact SeqAt.EqAt.str_int x t j u _ _ _ _ h
   .rw[M0] at h;exact wpAny_eqBool_str h
 «strs»:=λk x t v h=>by
  rcases zV h with⟨i,u,rfl,e⟩|⟨y,u,rfl,e⟩
  .exact nomatch e
  .injection e with e1 _
   subst e1;cases v <;> rfl
theorem r9 (prog:Bi)(w:Ca)(i:Ag)(t:Qk):(qZ prog w).is (.inl i) (.int i t)=true:=o7 i t
theorem rA (prog:Bi)(w:Ca)(x:Ao)(t:Qk):(qZ prog w).is (.inr x) (.str x t)=true:=o8 x t
end _L
namespace _L
open PySem PySem.Spec PyProof.Rows
inductive V where
 |non|bl (b:Ap)|int (i:Ag)|str (x:Ao)|byt (b:Bj UInt8)|flt (b:UInt64)|ref (a:Ad)|ty (n:Dt)
 deriving Vh
def qF:V->Ac->Prop
 |.non,u=>u=Df
 |.bl b,u=>u=HT b
 |.int i,u=>∃ t,u=OE i t
 |.str x,u=>∃ t,u=Um x t
 |.byt b,u=>∃ t,u=Value.bytes b t
 |.flt b,u=>∃ t,u=Yu b t
 |.ref a,u=>u=Cf a
 |.ty n,u=>u=Jd n
abbrev qH:Aa V->Aa Ac->Prop:=Paired qF
theorem qH.length {xs:Aa V}{us:Aa Ac}(r:qH xs us):xs.length=us.length:=Paired.length r
theorem qH.get:∀ {xs:Aa V} {us:Aa Ac} {i:Af} {x:V},qH xs us->xs[i]? = Ab x->∃ u,us[i]? = Ab u/\qF x u
 |_,_,_,_,.nil,e=>by simp at e
 |_,_,0,_,.cons r _,e=>by simp at e;subst e;exact⟨_,rfl,r⟩
 |_,_,i+1,x,.cons _ t,e=>by
  obtain⟨u,h1,h2⟩:=qH.get (i:=i) (x:=x) t (by simpa using e)
  exact⟨u,by simpa using h1,h2⟩
theorem qH.set {x:V}{u:Ac}(r:qF x u):∀ {xs:Aa V} {us:Aa Ac} (i:Af),qH xs us->qH (xs.set i x) (us.set i u)
 |_,_,_,.nil=>.nil
 |_,_,0,.cons _ t=>.cons r t
 |_,_,i+1,.cons q t=>.cons q (qH.set r i t)
theorem qH.append {xs ys:Aa V}{us ws:Aa Ac}(h:qH xs us)(s:qH ys ws):qH (xs++ys) (us++ws):=by
 induction h with
 |nil=>exact s
 |cons r t ih=>exact .cons r ih
theorem qH.take:∀ {xs:Aa V} {us:Aa Ac} (n:Af),qH xs us->qH (xs.take n) (us.take n)
 |_,_,0,_=>.nil
 |_,_,_+1,.nil=>.nil
 |_,_,n+1,.cons r t=>.cons r (qH.take n t)
theorem qH.drop:∀ {xs:Aa V} {us:Aa Ac} (n:Af),qH xs us->qH (xs.drop n) (us.drop n)
 |_,_,0,r=>r
 |_,_,_+1,.nil=>.nil
 |_,_,n+1,.cons _ t=>qH.drop n t
def kG:Al V->Al Ac->Prop
 |some v,Ab u=>qF v u
 |none,none=>NE
 |_,_=>Ez
def KV {κ : Type}:Aa (κ × V)->Aa (κ × Ac)->Prop:=Paired λ(p:κ × V) (q:κ × Ac)=>p.1=q.1/\qF p.2 q.2
noncomputable def kV:Key->V
 |.inl i=>.int i
 |.inr x=>.str x
inductive HO where
  |lst (xs:Aa V)
  |tup (xs:Aa V)
  |dK (kvs:Aa (Key × V))|dT (kvs:Aa (Aa Key × V))
  |set (S:Ag->Ap) (n:Af)
  |ins (C dx:Ad) (fs:Aa (Ao × V))
  |own (x:Ad)
  |xd (fs:Aa (Ao × V))
  |met (f x:Ad)
  |rng (lo hi:Ag)
  |frz (o:Cg) (u:HO)
  |tbl (ps:Bj Ac)
  |ext (φ : Bs->Prop)
abbrev Hp:=Ad->Al HO
noncomputable def upd (H:Hp)(a:Ad)(o:HO):Hp:=λb=>if b=a then Ab o else H b
theorem qV {H:Hp}{a:Ad}{o:HO}:upd H a o a=Ab o:=by unfold upd;rw[Bc rfl]
theorem qG {H:Hp}{a b:Ad}{o:HO}(h:b≠a):upd H a o b=H b:=by unfold upd;rw[Aw h]
theorem SH {H:Hp}{a b:Ad}{o u:HO}(h:H a=Ab o)(h':H b=Ab u)(d:o≠u):a≠b:=by
 intro e;subst e;rw[h] at h';exact d (Cj h')
theorem qT {H:Hp}{a b:Ad}{o:HO}(h:H a=Ab o)(h':H b=none):a≠b:=by
 intro e;subst e;rw[h] at h';cases h'
section
variable (P:Bi)(w:Ca)
def zE (H:Hp)(h:Bs)(a:Ad):HO->Prop
 |.lst xs=>xs.length<=sizeLine/\∃ (its:Aa Ac) (n:Af),qH xs its/\h.get? a=Ab { cls:=.type "list",data:=.seq its.toArray n }
 |.tup xs=>xs.length<=sizeLine/\∃ its:Aa Ac,qH xs its/\Oh h a its.toArray
 |.dK kvs=>kvs.length<=sizeLine/\(a == Hn)=false/\∃ vs,KV kvs vs/\h.DictOf (qZ P w) a vs
 |.dT kvs=>kvs.length<=sizeLine/\(a == Hn)=false/\∃ xs:Aa (Aa Key × Ad × Ac),
   Paired (λ(p:Aa Key × V) (q:Aa Key × Ad × Ac)=>p.1=q.1/\H q.2.1=Ab (.tup (p.1.map kV))/\qF p.2 q.2.2) kvs xs /\
   ∃ o es ep,h.get? a=Ab o/\o.ExactDict/\o.data=.dict es ep/\es.toList=xs.map (entryOfKey (OF (qZ P w)))/\(xs.map (·.1)).Nodup
 |.set S n=>h.SetOf (IC P w) a S n
 |.ins C dx fs=>H dx=Ab (.own a)/\fs.length<=1000/\dx≠a/\h.get? a=Ab (Ql C dx) /\
   ∃ mA,h.Ns1 dx mA/\(∀ f,kG (fs.lookup f) (mA f))/\Yd mA (fs.map (·.1))
 |.own _=>∃ o,h.get? a=Ab o
 |.xd fs=>∃ mA,h.Ns1 a mA/\∀ f,kG (fs.lookup f) (mA f)
 |.rng lo hi=>∃ t u v,h.get? a=Ab { cls:=.type "range",data:=.fields #[.int lo t,.int hi u,.int 1 v] }
 |.frz o u=>h.get? a=Ab o/\zE H h a u
 |.tbl ps=>h.get? a=Ab { cls:=.none,data:=.fields ps }
 |.met f x=>h.get? a=Ab (OG (.ref f) (.ref x))
 |.ext φ => φ h/\(∃ o,h.get? a=Ab o)/\∀ h1 h2:Bs,φ h1->(∀ o,h1.get? a=Ab o->h2.get? a=Ab o)->φ h2
def HOk (H:Hp)(h:Bs):Prop:=∀ a o,H a=Ab o->zE P w H h a o
end
section
variable {P:Bi}{w:Ca}{H H':Hp}{h h':Bs}{a:Ad}{o:HO}
theorem zE.lt (x:zE P w H h a o):a<h.objs.size:=by
 cases o with
 |lst xs=>obtain⟨_,_,_,_,e⟩:=x;exact Ay e
 |tup xs=>obtain⟨_,_,_,p⟩:=x;exact p.lt
 |dK kvs=>obtain⟨_,_,_,_,o,_,_,e,_⟩:=x;exact Ay e
 |dT kvs=>obtain⟨_,_,_,_,o,_,_,e,_⟩:=x;exact Ay e
 |set S n=>obtain⟨o,_,_,_,e,_⟩:=x;exact Ay e
 |ins C dx fs=>obtain⟨_,_,_,e,_⟩:=x;exact Ay e
 |own y=>obtain⟨_,e⟩:=x;exact Ay e
 |xd fs=>obtain⟨_,⟨_,_,_,e,_⟩,_⟩:=x;exact Ay e
 |rng lo hi=>obtain⟨_,_,_,e⟩:=x;exact Ay e
 |frz ob u=>obtain⟨e,_⟩:=x;exact Ay e
 |tbl ps=>exact Ay (show h.get? a=Ab _ from x)
 |met f y=>exact Ay (show h.get? a=Ab _ from x)
 |ext φ => obtain⟨_,⟨_,e⟩,_⟩:=x;exact Ay e
theorem Paired.mapP {α β:Type}{F G:α->β->Prop}{l₁:Aa α}{l₂:Aa β}(h:Paired F l₁ l₂)(f:∀ a b,F a b->G a b):Paired G l₁ l₂:=by
 induction h with
 |nil=>exact .nil
 |cons r t ih=>exact .cons (f _ _ r) ih
theorem zE.stay (x:zE P w H h a o)(k:∀ b u,(b=a\/H b=Ab (.own a))->h.get? b=Ab u->h'.get? b=Ab u)
  (ho:∀ b,H b=Ab (.own a)->H' b=Ab (.own a)) (ht:∀ b xs,H b=Ab (.tup xs)->H' b=Ab (.tup xs)):zE P w H' h' a o:=by
 induction o with
 |lst xs=>obtain⟨z,its,n,r,e⟩:=x;exact⟨z,its,n,r,k _ _ (.inl rfl) e⟩
 |tup xs=>obtain⟨z,its,r,ob,e,c⟩:=x;exact⟨z,its,r,ob,k _ _ (.inl rfl) e,c⟩
 |dK kvs=>obtain⟨z,y,vs,r,ob,es,ep,e,c⟩:=x;exact⟨z,y,vs,r,ob,es,ep,k _ _ (.inl rfl) e,c⟩
 |dT kvs =>
  obtain⟨z,y,xs,r,ob,es,ep,e,c⟩:=x;exact⟨z,y,xs,Paired.mapP r λp q z=>⟨z.1,ht _ _ z.2.1,z.2.2⟩,ob,es,ep,k _ _ (.inl rfl) e,c⟩
 |set S n=>obtain⟨ob,es,ep,t,e,c⟩:=x;exact⟨ob,es,ep,t,k _ _ (.inl rfl) e,c⟩
 |ins C dx fs =>
  obtain⟨d,z,ne,e,mA,⟨od,es,ep,e2,c⟩,r⟩:=x;exact⟨ho _ d,z,ne,k _ _ (.inl rfl) e,mA,⟨od,es,ep,k _ _ (.inr d) e2,c⟩,r⟩
 |own y=>obtain⟨ob,e⟩:=x;exact⟨ob,k _ _ (.inl rfl) e⟩
 |xd fs=>obtain⟨mA,⟨od,es,ep,e,c⟩,r⟩:=x;exact⟨mA,⟨od,es,ep,k _ _ (.inl rfl) e,c⟩,r⟩
 |rng lo hi=>obtain⟨t,u,v,e⟩:=x;exact⟨t,u,v,k _ _ (.inl rfl) e⟩
 |frz ob u ih=>obtain⟨e,q⟩:=x;exact⟨k _ _ (.inl rfl) e,ih q⟩
 |tbl ps =>
  have e:h.get? a=Ab { cls:=.none,data:=.fields ps }:=x;show h'.get? a=Ab { cls:=.none,data:=.fields ps };exact k a _ (.inl rfl) e
 |met f y =>
  have e:h.get? a=Ab (OG (.ref f) (.ref y)):=x;show h'.get? a=Ab (OG (.ref f) (.ref y));exact k a _ (.inl rfl) e
 |ext φ => obtain⟨p,⟨o,e⟩,st⟩:=x;exact⟨st _ _ p λo q=>k _ _ (.inl rfl) q,⟨o,k _ _ (.inl rfl) e⟩,st⟩
theorem HOk.lt (x:HOk P w H h)(e:H a=Ab o):a<h.objs.size:=(x a o e).lt
theorem HOk.fresh (x:HOk P w H h)(e:h.objs.size<=a):H a=none:=by
 cases q:H a with
 |none=>rfl
 |some u=>exact absurd (Bd (x.lt q) e) (Di _)
theorem HOk.kept (x:HOk P w H h)(k:∀ b u,h.get? b=Ab u->h'.get? b=Ab u):HOk P w H h':=λa o e =>
 (x a o e).stay (λb u _ q=>k b u q) (λ_ q=>q) λ_ _ q=>q
theorem HOk.laid (x:HOk P w H h)(k:∀ b u,h.get? b=Ab u->h'.get? b=Ab u)(hp:h.objs.size<=a)(new:zE P w (upd H a o) h' a o):HOk P w (upd H a o) h':=λb u e=>by
 have hn:=x.fresh hp;by_cases hb:b=a
 .subst hb;rw[qV] at e;cases e;exact new
 .rw[qG hb] at e
  exact(x b u e).stay (λc v _ q=>k c v q) (λc q=>by rw[qG (qT q hn)];exact q) λc xs q=>by rw[qG (qT q hn)];exact q
end
def Rd (H:Hp)(a:Ad)(u:HO):Prop:=H a=Ab u\/∃ o,H a=Ab (.frz o u)
theorem Rd.of {H:Hp}{a:Ad}{u:HO}(h:H a=Ab u):Rd H a u:=.inl h
theorem Rd.ok {P:Bi}{w:Ca}{H:Hp}{h:Bs}{a:Ad}{u:HO}(r:Rd H a u)(x:HOk P w H h):zE P w H h a u:=by
 rcases r with r|⟨o,r⟩
 .exact x a u r
 .obtain⟨_,q⟩:=x a _ r
  exact q
def Mut:Al HO->Prop
 |some (.lst _)=>NE
 |some (.dK _)=>NE
 |some (.dT _)=>NE
 |some (.set _ _)=>NE
 |some (.ins _ _ _)=>NE
 |some (.ext _)=>NE
 |_=>Ez
section
variable {P:Bi}{w:Ca}{H:Hp}{h h':Bs}{x e:Ad}{o':HO}
theorem HOk.write (ok:HOk P w H h)(mu:Mut (H x))(he:e=x\/H e=Ab (.own x))(k:∀ b u,b≠e->h.get? b=Ab u->h'.get? b=Ab u)(heo:∃ u,h'.get? e=Ab u)
  (new:zE P w (upd H x o') h' x o'):HOk P w (upd H x o') h':=λb u q=>by
 have nown:∀ c y,H c=Ab (.own y)->c≠x:=λc y r z=>by subst z;rw[r] at mu;exact mu
 have ntup:∀ c xs,H c=Ab (.tup xs)->c≠x:=λc xs r z=>by subst z;rw[r] at mu;exact mu
 by_cases hb:b=x
 .subst hb;rw[qV] at q;cases q;exact new
 .rw[qG hb] at q
  by_cases hbe:b=e
  .have q':H b=Ab (.own x):=by
    rcases he with z|z
    .exact absurd (hbe.trans z) hb
    .rw[hbe];exact z
   rw[q] at q';cases q';obtain⟨v,hv⟩:=heo;exact⟨v,by rw[hbe];exact hv⟩
  .refine(ok b u q).stay (λc v hc r=>k c v ?_ r) (λc r=>by rw[qG (nown c b r)];exact r) λc xs r=>by rw[qG (ntup c xs r)];exact r
   rcases hc with rfl|hc
   .exact hbe
   .rintro rfl
    rcases he with z|z
    .exact nown c b hc z
    .rw[hc] at z;cases z;exact hb rfl
end
structure Un (fs ex:Aa Ad)(H H':Hp)(h h':Bs):Prop where
 keep:∀ b o,h.get? b=Ab o->H b=none->b ∉ fs->b ∉ ex->h'.get? b=Ab o
 slot:∀ b o,h.get? b=Ab o->H b=none->b∈fs->b ∉ ex->∃ sl,h'.get? b=Ab { o with slots:=sl }
 free:∀ b o,h.get? b=Ab o->H b=none->b ∉ ex->H' b=none
 there:∀ b o,h.get? b=Ab o->b ∉ ex->∃ o',h'.get? b=Ab o'
 tups:∀ b xs,H b=Ab (.tup xs)->H' b=Ab (.tup xs)
 frzs:∀ b o u,H b=Ab (.frz o u)->H' b=Ab (.frz o u)
 tbls:∀ b ps,H b=Ab (.tbl ps)->∃ more,H' b=Ab (.tbl (ps++more))
section
variable {fs fs' ex ex':Aa Ad}{H H1 H2:Hp}{h h1 h2 h':Bs}{a x e:Ad}{o:HO}
theorem Un.any (u:Un fs ex H H1 h h1){b:Ad}{ob:Cg}(q:h.get? b=Ab ob)(n:H b=none)(hx:b ∉ ex):∃ sl,h1.get? b=Ab { ob with slots:=sl }:=by
 by_cases hb:b∈fs
 .exact u.slot b ob q n hb hx
 .exact⟨ob.slots,u.keep b ob q n hb hx⟩
theorem Un.trans (a:Un fs ex H H1 h h1)(b:Un fs ex H1 H2 h1 h2):Un fs ex H H2 h h2 where
 keep:=λc ob q n hc hx=>b.keep c ob (a.keep c ob q n hc hx) (a.free c ob q n hx) hc hx
 slot:=λc ob q n hc hx=>by
  obtain⟨sl,e1⟩:=a.slot c ob q n hc hx;obtain⟨sl',e2⟩:=b.slot c _ e1 (a.free c ob q n hx) hc hx;exact⟨sl',e2⟩
 free:=λc ob q n hx=>by
  obtain⟨o',e1⟩:=a.there c ob q hx;exact b.free c o' e1 (a.free c ob q n hx) hx
 there:=λc ob q hx=>by
  obtain⟨o',e1⟩:=a.there c ob q hx;exact b.there c o' e1 hx
 tups:=λc xs q=>b.tups c xs (a.tups c xs q)
 frzs:=λc ob xs q=>b.frzs c ob xs (a.frzs c ob xs q)
 tbls:=λc ps q=>by
  obtain⟨m1,e1⟩:=a.tbls c ps q;obtain⟨m2,e2⟩:=b.tbls c _ e1;exact⟨m1++m2,by rw[e2,To]⟩
theorem Un.kept (k:∀ b u,h.get? b=Ab u->h'.get? b=Ab u):Un fs ex H H h h':=
 ⟨λb ob q _ _ _=>k b ob q,λb ob q _ _ _=>⟨ob.slots,k b ob q⟩,λ_ _ _ n _=>n,λb ob q _=>⟨ob,k b ob q⟩,λ_ _ q=>q,λ_ _ _ q=>q,λ_ ps q=>⟨#[],by rw[q];simp⟩⟩
theorem Un.refl:Un fs ex H H h h:=Un.kept λ_ _ q=>q
theorem Un.laid (k:∀ b u,h.get? b=Ab u->h'.get? b=Ab u)(hp:h.objs.size<=a)(hn:H a=none):Un fs ex H (upd H a o) h h' where
 keep:=λb u q _ _ _=>k b u q
 slot:=λb u q _ _ _=>⟨u.slots,k b u q⟩
 free:=λb u q n _=>by rw[qG (Cn (Bd (Ay q) hp))];exact n
 there:=λb u q _=>⟨u,k b u q⟩
 tups:=λb xs q=>by rw[qG (qT q hn)];exact q
 frzs:=λb u xs q=>by rw[qG (qT q hn)];exact q
 tbls:=λb ps q=>⟨#[],by rw[qG (qT q hn),q];simp⟩
theorem Un.write (mu:Mut (H x))(he:e=x\/H e=Ab (.own x))(k:∀ b u,b≠e->h.get? b=Ab u->h'.get? b=Ab u)(heo:∃ u,h'.get? e=Ab u):Un fs ex H (upd H x o) h h':=by
 have hx:∀ b,H b=none->b≠x:=λb n z=>by subst z;rw[n] at mu;exact mu
 have hb:∀ b,H b=none->b≠e:=λb n z=>by
  subst z;rcases he with r|r
  .exact hx b n r
  .rw[n] at r;cases r
 have hm:∀ b u,H b=Ab u->¬ Mut (Ab u)->b≠x:=λb u q nm z=>by subst z;rw[q] at mu;exact nm mu
 refine⟨λb u q n _ _=>k b u (hb b n) q,λb u q n _ _=>⟨u.slots,k b u (hb b n) q⟩,λb u q n _=>by rw[qG (hx b n)];exact n,λb u q _=>?_,
  λb xs q=>by rw[qG (hm b _ q λz=>z)];exact q,λb u xs q=>by rw[qG (hm b _ q λz=>z)];exact q,λb ps q=>⟨#[],by rw[qG (hm b _ q λz=>z),q];simp⟩⟩
 by_cases hbe:b=e
 .subst hbe;exact heo
 .exact⟨u,k b u hbe q⟩
theorem Un.mono (u:Un fs ex H H1 h h1)(hs:∀ b∈fs,b∈fs')(hx:∀ b∈ex,b∈ex'):Un fs' ex' H H1 h h1:=
 ⟨λb ob q n hb he=>u.keep b ob q n (λz=>hb (hs b z)) λz=>he (hx b z),λ_ _ q n _ he=>u.any q n λz=>he (hx _ z),λb ob q n he=>u.free b ob q n λz=>he (hx b z),λb ob q he=>u.there b ob q λz=>he (hx b z),u.tups,u.frzs,u.tbls⟩
end
noncomputable def trk (h:Bs)(H:Hp):Aa Ad:=(Ds h.objs.size).filter λa=>(H a).isSome
noncomputable def kQ (h:Bs)(H:Hp):Bs:=Nh h (trk h H)
theorem iY (h:Bs)(H:Hp):(kQ h H).objs.size=h.objs.size:=PySem.W.hideAll_size _ _
theorem XQ {h:Bs}{H:Hp}{b:Ad}{o:Cg}(e:h.get? b=Ab o)(n:H b=none):(kQ h H).get? b=Ab o:=
 Si _ e λhm=>by
  have q:(H b).isSome=true:=(Gi.mp hm).2;rw[n] at q;simp at q
theorem K9 {h:Bs}{H:Hp}{b:Ad}{o:Cg}(e:(kQ h H).get? b=Ab o):h.get? b=Ab o/\H b=none:=by
 have e':h.get? b=Ab o:=Tp (trk h H) e;refine⟨e',?_⟩;cases q:H b with
 |none=>rfl
 |some x =>
  have hm:b∈trk h H:=Gi.mpr ⟨DL.mpr (Ay e'),by simp[q]⟩
  have z:(kQ h H).get? b=none:=PySem.W.hideAll_none (trk h H) hm;rw[z] at e;cases e
noncomputable def VV (g h:Bs)(L:Ad):Aa (Ad × Cg):=(Ds h.objs.size).filterMap λa=>if a=L\/(g.get? a).isSome=true then none else (h.get? a).map λo=>(a,o)
noncomputable def qE (g h:Bs)(L d:Ad):Aa (Ad × Cg):=(VV g h L).filter λp=>decide (p.1≠d)
end _L
namespace _L
open PySem PySem.Spec PyProof.Rows
variable {ch:Aa Ad}{E:Ac->Ah->Prop}{t':Af}{g':Bj GenState}{d':Drawn}{M:Lz}{Q:Qm->Ah->Prop}
noncomputable def w4:Aa Ao:=["law","_law_right","by_hull","pair_bound","hub","greatest_often"]
def PP (mg:Ao->Al Ac)(h:Bs):Prop:=∃ bm o,mg "__builtins__" = Ab (.ref bm)/\bm≠Oa/\h.get? bm=Ab o/\o.cls=.type "module" /\ o.dict=Ab Oa/\o.data=.plain
structure Mod (K:Ak)(mg:Ao->Al Ac)(base:Bs):Prop where
 kin:K.In base
 glob:base.Ns Ct mg
 blt:∃ mb,base.Ns Oa mb/\∀ x:Ao,x ≠ "__name__" -> mb x=Fd x
 nolimit:base.NoLimit
 bm:PP mg base
 code:∀ x∈w4,∀ c T,Dk K x=Ab (c,T)->Ru base c T
 inj:∀ x∈w4,∀ y∈w4,∀ c d T,Dk K x=Ab (c,T)->Dk K y=Ab (d,T)->x=y
structure Cx where
 prog:Bi
 w:Ca
 K:Ak
 mg:Ao->Al Ac
 base:Bs
 A:Br
 N:Aa Ao
 s₀:Ah
 H₀:Hp
 env:Iw
 outer:Aa Iw
 stack:Aa Iw
 ex:Aa Ad
 fn:Ao->Ap
 calm:Ap
 pn:Aa (Ad × Cg)
 xe:Ac->Ah->Prop
noncomputable def frs (l:Aa Iw):Aa Ad:=l.filterMap (·.frame)
abbrev Cx.fs (X:Cx):Aa Ad:=frs X.outer
def Vis (sc:Do)(x:Ao):Prop:=sc.names.lookup x=Ab .local \/ sc.names.lookup x=Ab .cell\/sc.names.lookup x=Ab .free
def Loc (sc:Do)(x:Ao):Prop:=sc.names.lookup x=Ab .local \/ sc.names.lookup x=Ab .cell
def EG (env:Iw)(h:Bs)(m:Ao->Al Ac)(x:Ao)(u:Ac):Prop:=
 (env.kindOf x=Ab .local /\ m x=Ab u)\/((env.kindOf x=Ab .cell\/env.kindOf x=Ab .free)/\∃ c,env.cells.lookup x=Ab c/\h.IsCell c (Ab u))
structure Cx.Ok (X:Cx):Prop where
 mod:Mod X.K X.mg X.base
 kind:X.env.scope.kind=.function
 glob:X.env.globals=Ct
 blt:X.env.builtins=Oa
 above:X.s₀.heap.objs.size<=X.env.locals
 inj:∀ x y c,X.env.cells.lookup x=Ab c->X.env.cells.lookup y=Ab c->x=y
 has:∀ x,(X.env.kindOf x=Ab .cell\/X.env.kindOf x=Ab .free)->∃ c,X.env.cells.lookup x=Ab c
 cab:∀ x c,X.fn x=true->X.env.cells.lookup x=Ab c->X.s₀.heap.objs.size<=c
 hd:X.calm=true->X.A.handled=none
 frames:X.A.frames=Ab X.stack
 stk:X.stack=X.outer\/(X.stack=X.env::X.outer/\X.env.frame=Ab X.env.locals)
 exf:∀ b∈X.ex,b≠X.env.locals/\∀ x c,X.env.cells.lookup x=Ab c->c≠b
 bs:∀ b o,X.base.get? b=Ab o->X.s₀.heap.get? b=Ab o/\X.H₀ b=none
 bsz:X.base.objs.size<=X.s₀.heap.objs.size
 noex:∀ b o,X.base.get? b=Ab o->b ∉ X.ex
 exfs:∀ b∈X.ex,b ∉ X.fs
 funs:X.s₀.heap.FunFrames X.base X.outer
 frf:∀ b∈X.fs,X.H₀ b=none
structure Inv (X:Cx)(pins:Aa (Ad × Cg))(σ : Aa (Al V))(H:Hp)(s:Ah):Prop where
 ok:X.Ok
 os:s.os=X.s₀.os
 bare:Mk s.gens
 base:Un X.fs X.ex X.H₀ H X.s₀.heap s.heap
 loc:∃ m,s.heap.Ns X.env.locals m/\∀ (i:Af) (x:Ao) (v:V),X.N[i]? = Ab x->σ[i]? = Ab (Ab v)->Vis X.env.scope x->∃ u,qF v u/\EG X.env s.heap m x u
 cell:∀ x c,X.env.cells.lookup x=Ab c->∃ v,s.heap.IsCell c v
 free:H X.env.locals=none
 freeC:∀ x c,X.env.cells.lookup x=Ab c->H c=none
 pin:∀ p∈X.pn++pins,s.heap.get? p.1=Ab p.2/\H p.1=none/\p.1≠X.env.locals/\p.1 ∉ X.fs/\∀ v,p.2.data≠.cell v
 hok:HOk X.prog X.w H s.heap
 len:σ.length=X.N.length
section
variable {X:Cx}{pins:Aa (Ad × Cg)}{σ : Aa (Al V)}{H H':Hp}{s:Ah}{h':Bs}
theorem Cx.Ok.nofr (ok:X.Ok){b:Ad}{o:Cg}(e:X.base.get? b=Ab o):b ∉ X.fs:=λhb=>by
 have:=(ok.funs.mem hb).1;rw[e] at this;cases this
theorem Inv.bs (I:Inv X pins σ H s):∀ b o,X.base.get? b=Ab o->s.heap.get? b=Ab o/\H b=none:=λb o e =>
 ⟨I.base.keep b o (I.ok.bs b o e).1 (I.ok.bs b o e).2 (I.ok.nofr e) (I.ok.noex b o e),I.base.free b o (I.ok.bs b o e).1 (I.ok.bs b o e).2 (I.ok.noex b o e)⟩
theorem Inv.bk (I:Inv X pins σ H s):∀ b o,X.base.get? b=Ab o->s.heap.get? b=Ab o:=λb o e=>(I.bs b o e).1
theorem Inv.mod (I:Inv X pins σ H s):Mod X.K X.mg X.base:=I.ok.mod
theorem Inv.kIn (I:Inv X pins σ H s):X.K.In s.heap:=I.ok.mod.kin.keeps I.bk
theorem Inv.nolimit (I:Inv X pins σ H s):s.heap.NoLimit:=I.ok.mod.nolimit.keeps I.bk
theorem Inv.lt (I:Inv X pins σ H s):X.env.locals<s.heap.objs.size:=let ⟨_,hn,_⟩:=I.loc;hn.lt
theorem Inv.sz (I:Inv X pins σ H s):X.s₀.heap.objs.size<=s.heap.objs.size:=Dd I.ok.above (Dz I.lt)
theorem Inv.nofs (I:Inv X pins σ H s){a:Ad}(h:s.heap.objs.size<=a):a ∉ X.fs:=λhb=>by
 obtain⟨_,o,ho,_⟩:=I.ok.funs.mem hb;exact absurd (Bd (Ay ho) (Dd I.sz h)) (Di _)
theorem Inv.cne (I:Inv X pins σ H s):∀ x c,X.env.cells.lookup x=Ab c->c≠X.env.locals:=λx c e z=>by
 obtain⟨v,o,ho,hd⟩:=I.cell x c e;obtain⟨m,⟨o',es,ep,ho',hd',_⟩,_⟩:=I.loc;rw[z,ho'] at ho;cases ho;rw[hd'] at hd;cases hd
theorem Inv.funs (I:Inv X pins σ H s):s.heap.FunFrames X.base X.outer:=by
 have all:∀ (l:Aa Iw),(∀ b∈frs l,b∈X.fs)->X.s₀.heap.FunFrames X.base l->s.heap.FunFrames X.base l:=by
  intro l
  induction l with
  |nil=>intro _ _;trivial
  |cons env r ih =>
   intro hs hl;obtain⟨hk,⟨L,o,hf,hn,ho,hd⟩,hr⟩:=hl;have hL:L∈X.fs:=hs L (by unfold frs;rw[Kh,hf];exact Bv)
   obtain⟨sl,e⟩:=I.base.slot L o ho (I.ok.frf L hL) hL λz=>I.ok.exfs L z hL;exact⟨hk,⟨L,_,hf,hn,e,hd⟩,ih (λb hb=>hs b (by unfold frs;rw[Kh,hf];exact Au _ hb)) hr⟩
 exact all X.outer (λ_ hb=>hb) I.ok.funs
theorem Inv.stack (I:Inv X pins σ H s):s.heap.FunFrames X.base X.stack:=by
 rcases I.ok.stk with e|⟨e,hf⟩
 .rw[e];exact I.funs
 .rw[e]
  obtain⟨m,hn,_⟩:=I.loc;refine .cons (by rw[I.ok.kind];decide) hf hn ?_ I.funs
  exact Heap.get?_none_of_le (Dd I.ok.bsz I.ok.above)
theorem Inv.stkSub (I:Inv X pins σ H s):∀ b∈frs X.stack,b∈X.env.locals::X.fs:=λb hb=>by
 rcases I.ok.stk with e|⟨e,hf⟩
 .rw[e] at hb;exact Au _ hb
 .rw[e] at hb
  unfold frs at hb;rw[Kh,hf] at hb;exact hb
theorem Inv.stkFree (I:Inv X pins σ H s):∀ b∈frs X.stack,H b=none:=λb hb=>by
 rcases Bg.mp (I.stkSub b hb) with e|hb
 .rw[e];exact I.free
 .obtain⟨_,o,ho,_⟩:=I.ok.funs.mem hb
  exact I.base.free b o ho (I.ok.frf b hb) λz=>I.ok.exfs b z hb
theorem Inv.step {g':Bj GenState}{t':Af}{d':Drawn}(I:Inv X pins σ H s)
  (hch:∀ b∈ch,(b∈X.ex\/X.s₀.heap.objs.size<=b)/\b≠X.env.locals/\(∀ x c,X.env.cells.lookup x=Ab c->c≠b)/\∀ p∈X.pn++pins,p.1≠b)
  (keep:∀ b o,b≠X.env.locals->b ∉ X.fs->b ∉ ch->s.heap.get? b=Ab o->H b=none->h'.get? b=Ab o)
  (slot:∀ b o,b≠X.env.locals->b∈X.fs->b ∉ ch->s.heap.get? b=Ab o->H b=none->∃ sl,h'.get? b=Ab { o with slots:=sl }) (free:∀ b o,b ∉ ch->s.heap.get? b=Ab o->H b=none->H' b=none)
  (there:∀ b o,b ∉ ch->s.heap.get? b=Ab o->∃ o',h'.get? b=Ab o')
  (tups:∀ b xs,H b=Ab (.tup xs)->H' b=Ab (.tup xs)) (frzs:∀ b o u,H b=Ab (.frz o u)->H' b=Ab (.frz o u)) (tbls:∀ b ps,H b=Ab (.tbl ps)->∃ more,H' b=Ab (.tbl (ps++more)))
  (ns:∀ m,s.heap.Ns X.env.locals m->h'.Ns X.env.locals m) (hok:HOk X.prog X.w H' h') (hg:Mk g') :
  Inv X pins σ H' { s with heap:=h',gens:=g',drawn:=d',toks:=t' }:=by
 have neL:∀ b o,X.s₀.heap.get? b=Ab o->b≠X.env.locals:=λb o e=>Cn (Bd (Ay e) I.ok.above);have neC:∀ b o,X.s₀.heap.get? b=Ab o->b ∉ X.ex->b ∉ ch:=λb o e hx hb=>by
  rcases (hch b hb).1 with z|z
  .exact hx z
  .exact absurd (Bd (Ay e) z) (Di _)
 have cellK:∀ x c,X.env.cells.lookup x=Ab c->∀ v,s.heap.IsCell c v->h'.IsCell c v:=λx c e v ⟨o,ho,hd⟩=>by
  have nch:c ∉ ch:=λz=>(hch c z).2.2.1 x c e rfl;by_cases hc:c∈X.fs
  .obtain⟨sl,q⟩:=slot c o (I.cne x c e) hc nch ho (I.freeC x c e)
   exact⟨_,q,hd⟩
  .exact⟨o,keep c o (I.cne x c e) hc nch ho (I.freeC x c e),hd⟩
 refine⟨I.ok,I.os,hg,⟨λb o e n hb hx=>?_,λb o e n hb hx=>?_,λb o e n hx=>?_,λb o e hx=>?_,λb xs e=>tups b xs (I.base.tups b xs e),λb o xs e=>frzs b o xs (I.base.frzs b o xs e),λb ps e=>?_⟩,?_,λx c e=>?_,?_,λx c e=>?_,λp hp=>?_,hok,I.len⟩
 .exact keep b o (neL b o e) hb (neC b o e hx) (I.base.keep b o e n hb hx) (I.base.free b o e n hx)
 .obtain⟨sl,e1⟩:=I.base.slot b o e n hb hx
  obtain⟨sl',e2⟩:=slot b _ (neL b o e) hb (neC b o e hx) e1 (I.base.free b o e n hx);exact⟨sl',e2⟩
 .obtain⟨o',e1⟩:=I.base.there b o e hx
  exact free b o' (neC b o e hx) e1 (I.base.free b o e n hx)
 .obtain⟨o',e1⟩:=I.base.there b o e hx
  exact there b o' (neC b o e hx) e1
 .obtain⟨m1,e1⟩:=I.base.tbls b ps e
  obtain⟨m2,e2⟩:=tbls b _ e1;exact⟨m1++m2,by rw[e2,To]⟩
 .obtain⟨m,hn,hl⟩:=I.loc
  refine⟨m,ns m hn,λi x v e1 e2 e3=>?_⟩;obtain⟨u,r,l⟩:=hl i x v e1 e2 e3;refine⟨u,r,?_⟩;rcases l with l|⟨k,c,e,z⟩
  .exact .inl l
  .exact .inr ⟨k,c,e,cellK x c e _ z⟩
 .obtain⟨v,z⟩:=I.cell x c e
  exact⟨v,cellK x c e v z⟩
 .obtain⟨m,⟨o,_,_,ho,_⟩,_⟩:=I.loc
  exact free _ o (λz=>(hch _ z).2.1 rfl) ho I.free
 .obtain⟨v,o,ho,hd⟩:=I.cell x c e
  exact free c o (λz=>(hch c z).2.2.1 x c e rfl) ho (I.freeC x c e)
 .obtain⟨e,n,ne,nf,d⟩:=I.pin p hp
  have nch:p.1 ∉ ch:=λz=>(hch p.1 z).2.2.2 p hp rfl;exact⟨keep p.1 p.2 ne nf nch e n,free p.1 p.2 nch e n,ne,nf,d⟩
theorem Inv.un {t':Af}(I:Inv X pins σ H s)(u:Un X.fs [] H H' s.heap h')(hok:HOk X.prog X.w H' h'):Inv X pins σ H' { s with heap:=h',toks:=t' }:=by
 obtain⟨m,⟨o,es,ep,ho,r⟩,_⟩:=id I.loc;obtain⟨sl,hL⟩:=u.any ho I.free (by simp)
 exact I.step (g':=s.gens) (d':=s.drawn) (ch:=[]) (λ_ z=>nomatch z) (λb o _ hb _ e n=>u.keep b o e n hb (by simp)) (λb o _ hb _ e n=>u.slot b o e n hb (by simp)) (λb o _ e n=>u.free b o e n (by simp)) (λb o _ e=>u.there b o e (by simp)) u.tups u.frzs u.tbls (λm' hm=>by
  obtain⟨o',es',ep',ho',r'⟩:=hm;rw[ho] at ho';cases ho';exact⟨_,es',ep',hL,r'⟩) hok I.bare
theorem Inv.call {t':Af}{d':Drawn}(I:Inv X pins σ H s)(u:Un (frs X.stack) ch H H' s.heap h')(hok:HOk X.prog X.w H' h')(hg:Mk g')
  (hch:∀ b∈ch,(b∈X.ex\/X.s₀.heap.objs.size<=b)/\b≠X.env.locals/\(∀ x c,X.env.cells.lookup x=Ab c->c≠b)/\∀ p∈X.pn++pins,p.1≠b) :
  Inv X pins σ H' { s with heap:=h',gens:=g',drawn:=d',toks:=t' }:=by
 obtain⟨m,⟨o,es,ep,ho,r⟩,_⟩:=id I.loc;obtain⟨sl,hL⟩:=u.any ho I.free λz=>(hch _ z).2.1 rfl;exact I.step (ch:=ch) hch (λb o hL hb hc e n=>u.keep b o e n (λz=>(Bg.mp (I.stkSub b z)).elim hL hb) hc) (λb o _ _ hc e n=>u.any e n hc) (λb o hc e n=>u.free b o e n hc) (λb o hc e=>u.there b o e hc) u.tups u.frzs u.tbls (λm' hm=>by
  obtain⟨o',es',ep',ho',r'⟩:=hm;rw[ho] at ho';cases ho';exact⟨_,es',ep',hL,r'⟩) hok hg
theorem Inv.turned {t':Af}{it:Ad}(I:Inv X pins σ H s)(k:∀ b o,b≠it->s.heap.get? b=Ab o->h'.get? b=Ab o)(hn:H it=none)(hL:it≠X.env.locals)
  (h1:it∈X.ex\/X.s₀.heap.objs.size<=it) (h2:∀ x c,X.env.cells.lookup x=Ab c->c≠it) (h3:∀ p∈X.pn++pins,p.1≠it):Inv X pins σ H { s with heap:=h',toks:=t' }:=by
 have nit:∀ b u,H b=Ab u->b≠it:=λb u e z=>by rw[z,hn] at e;cases e
 refine I.step (g':=s.gens) (d':=s.drawn) (ch:=[it]) (λb hb=>?_) (λb o _ _ hc e _=>k b o (λz=>hc (by simp[z])) e) (λb o _ _ hc e _=>⟨o.slots,k b o (λz=>hc (by simp[z])) e⟩) (λ_ _ _ _ n=>n)
  (λb o hc e=>⟨o,k b o (λz=>hc (by simp[z])) e⟩) (λ_ _ e=>e) (λ_ _ _ e=>e) (λb ps e=>⟨#[],by rw[e];simp⟩) (λm hm=>?_) (λb u e=>?_) I.bare
 .have e:b=it:=by simpa using hb
  subst e;exact⟨h1,hL,h2,h3⟩
 .obtain⟨o,es,ep,ho,r⟩:=hm
  exact⟨o,es,ep,k _ o (Eu hL) ho,r⟩
 .refine(I.hok b u e).stay (λc v hc q=>k c v ?_ q) (λ_ q=>q) λ_ _ q=>q
  rcases hc with z|z
  .rw[z];exact nit b u e
  .exact nit c _ z
theorem Inv.tok (I:Inv X pins σ H s)(t:Af):Inv X pins σ H { s with toks:=t }:=I.un (h':=s.heap) (t':=t) Un.refl I.hok
theorem Inv.kept {t':Af}(I:Inv X pins σ H s)(k:∀ b u,s.heap.get? b=Ab u->h'.get? b=Ab u):Inv X pins σ H { s with heap:=h',toks:=t' }:=I.un (Un.kept k) (I.hok.kept k)
theorem Inv.laid {a:Ad}{o:HO}{t':Af}(I:Inv X pins σ H s)(k:∀ b u,s.heap.get? b=Ab u->h'.get? b=Ab u)(hp:s.heap.objs.size<=a)(new:zE X.prog X.w (upd H a o) h' a o) :
  Inv X pins σ (upd H a o) { s with heap:=h',toks:=t' }:=I.un (Un.laid k hp (I.hok.fresh hp)) (I.hok.laid k hp new)
theorem Inv.write {x e:Ad}{o:HO}{t':Af}(I:Inv X pins σ H s)(mu:Mut (H x))(he:e=x\/H e=Ab (.own x))(k:∀ b u,b≠e->s.heap.get? b=Ab u->h'.get? b=Ab u)(heo:∃ u,h'.get? e=Ab u)
  (new:zE X.prog X.w (upd H x o) h' x o):Inv X pins σ (upd H x o) { s with heap:=h',toks:=t' }:=I.un (Un.write mu he k heo) (I.hok.write mu he k heo new)
theorem Inv.pins_of {pins':Aa (Ad × Cg)}(I:Inv X pins σ H s)(h:∀ p∈pins',s.heap.get? p.1=Ab p.2/\H p.1=none/\p.1≠X.env.locals/\p.1 ∉ X.fs/\∀ v,p.2.data≠.cell v):Inv X pins' σ H s:=
 ⟨I.ok,I.os,I.bare,I.base,I.loc,I.cell,I.free,I.freeC,λp hp=>(Cs.mp hp).elim (λz=>I.pin p (Dr _ z)) (h p),I.hok,I.len⟩
theorem dX {N:Aa Ao}(hN:N.Nodup){i j:Af}{x:Ao}(a:N[i]? = Ab x)(b:N[j]? = Ab x):i=j:=by
 obtain⟨h1,e1⟩:=Az.mp a;obtain⟨h2,e2⟩:=Az.mp b;exact(Pc hN).mp (e1.trans e2.symm)
theorem QM {A:Br}{i:Af}{x:Ao}{v:V}{u:Ac}(I:Inv X pins σ H s)(hN:X.N.Nodup)(hi:X.N[i]? = Ab x)(hx:Loc X.env.scope x)(r:qF v u)
  (h:∀ s',Inv X pins (σ.set i (Ab v)) H s'->(∃ a,Fe a s.heap s'.heap/\(a=X.env.locals\/X.env.cells.lookup x=Ab a))->Q () s') (hf:X.fn x=true\/X.env.scope.names.lookup x=Ab .local:=by first|exact .inl rfl|exact .inr rfl|assumption):Av M A (Xo X.env x u) Q E s:=by
 obtain⟨m,hn,hl⟩:=id I.loc;have hcls:(X.env.scope.kind == .class||(X.env.scope.kind == .module&&X.env.locals != X.env.globals))=false:=by rw[I.ok.kind];rfl
 have hiσ:i<σ.length:=by rw[I.len];exact(Az.mp hi).1
 have cne:=I.cne;have tracked:∀ {a:Ad} {h':Bs},(∃ o,s.heap.get? a=Ab o/\H a=none)->Fe a s.heap h'->HOk X.prog X.w H h':=λ{a h'} ha hs b ob e=>by
  obtain⟨_,_,hfree⟩:=ha;refine(I.hok b ob e).stay (λc w' hc q=>(hs.2 c ?_).trans q) (λ_ q=>q) λ_ _ q=>q;rintro rfl;rcases hc with rfl|hc
  .rw[hfree] at e;cases e
  .rw[hfree] at hc;cases hc
 rcases hx with hk|hk
 .refine wpAny_storeName_local hk hn (λh' hn' hs=>?_) hcls
  obtain⟨oL,_,_,hoL,_⟩:=id hn;refine h _ ⟨I.ok,I.os,I.bare,⟨λb o e n hb hx=>?_,λb o e n hb hx=>?_,I.base.free,λb o e hx=>?_,I.base.tups,I.base.frzs,I.base.tbls⟩,⟨_,hn',λj y v' e1 e2 e3=>?_⟩,λy c e=>?_,I.free,I.freeC,λp hp=>?_,tracked ⟨oL,hoL,I.free⟩ hs,by simpa using I.len⟩ ⟨_,hs,.inl rfl⟩
  .exact(hs.2 b (Cn (Bd (Ay e) I.ok.above))).trans (I.base.keep b o e n hb hx)
  .obtain⟨sl,e1⟩:=I.base.slot b o e n hb hx
   exact⟨sl,(hs.2 b (Cn (Bd (Ay e) I.ok.above))).trans e1⟩
  .obtain⟨o',e1⟩:=I.base.there b o e hx
   exact⟨o',(hs.2 b (Cn (Bd (Ay e) I.ok.above))).trans e1⟩
  .by_cases hj:j=i
   .subst hj
    rw[hi] at e1;cases e1;rw[Dl hiσ] at e2;cases e2;exact⟨u,r,.inl ⟨hk,by simp⟩⟩
   .rw[Cb (Eu hj)] at e2
    obtain⟨u',r',q⟩:=hl j y v' e1 e2 e3;refine⟨u',r',?_⟩;rcases q with⟨k,e⟩|⟨k,c,e,z⟩
    .refine .inl ⟨k,?_⟩
     have:y≠x:=λe=>hj (dX hN e1 (e▸hi));simp[this,e]
    .exact .inr ⟨k,c,e,z.sameBut hs (cne y c e)⟩
  .obtain⟨w',z⟩:=I.cell y c e
   exact⟨w',z.sameBut hs (cne y c e)⟩
  .obtain⟨e,n,ne,nf,d⟩:=I.pin p hp
   exact⟨(hs.2 p.1 ne).trans e,n,ne,nf,d⟩
 .have hfn:X.fn x=true:=by
   rcases hf with z|z
   .exact z
   .rw[z] at hk;cases hk
  obtain⟨c,hc⟩:=I.ok.has x (.inl hk);obtain⟨w',z⟩:=I.cell x c hc;refine wpAny_storeName_cell I.ok.kind hk hc z (λh' hc' hs=>?_);obtain⟨oc,hoc,hocd⟩:=id z;refine h { s with heap:=h' } ⟨I.ok,I.os,I.bare,⟨λb o e n hb hx=>?_,λb o e n hb hx=>?_,I.base.free,λb o e hx=>?_,I.base.tups,I.base.frzs,I.base.tbls⟩,⟨m,hn.sameBut hs (Eu (cne x c hc)),λj y v' e1 e2 e3=>?_⟩,λy c' e=>?_,I.free,I.freeC,λp hp=>?_,tracked ⟨oc,hoc,I.freeC x c hc⟩ hs,by simpa using I.len⟩ ⟨c,hs,.inr hc⟩
  .exact(hs.2 b (Cn (Bd (Ay e) (I.ok.cab x c hfn hc)))).trans (I.base.keep b o e n hb hx)
  .obtain⟨sl,e1⟩:=I.base.slot b o e n hb hx
   exact⟨sl,(hs.2 b (Cn (Bd (Ay e) (I.ok.cab x c hfn hc)))).trans e1⟩
  .obtain⟨o',e1⟩:=I.base.there b o e hx
   exact⟨o',(hs.2 b (Cn (Bd (Ay e) (I.ok.cab x c hfn hc)))).trans e1⟩
  .by_cases hj:j=i
   .subst hj
    rw[hi] at e1;cases e1;rw[Dl hiσ] at e2;cases e2;exact⟨u,r,.inr ⟨.inl hk,c,hc,hc'⟩⟩
   .rw[Cb (Eu hj)] at e2
    obtain⟨u',r',q⟩:=hl j y v' e1 e2 e3;refine⟨u',r',?_⟩;rcases q with q|⟨k,c',e,z'⟩
    .exact .inl q
    .refine .inr ⟨k,c',e,z'.sameBut hs ?_⟩
     rintro rfl;exact hj (dX hN e1 (I.ok.inj _ _ _ e hc▸hi))
  .by_cases hcc:c'=c
   .subst hcc;exact⟨_,hc'⟩
   .obtain⟨w2,z2⟩:=I.cell y c' e
    exact⟨w2,z2.sameBut hs hcc⟩
  .obtain⟨e,n,ne,nf,d⟩:=I.pin p hp
   refine⟨(hs.2 p.1 ?_).trans e,n,ne,nf,d⟩;intro q;rw[q,hoc] at e;have q':oc=p.2:=Cj e;exact d w' (by rw[<- q'];exact hocd)
theorem uU {A:Br}{i:Af}{x:Ao}{v:V}{u:Ac}(I:Inv X pins σ H s)(hN:X.N.Nodup)(hi:X.N[i]? = Ab x)(hx:Loc X.env.scope x)(r:qF v u)
  (h:∀ s',Inv X pins (σ.set i (Ab v)) H s'->Q () s') (hf:X.fn x=true\/X.env.scope.names.lookup x=Ab .local:=by first|exact .inl rfl|exact .inr rfl|assumption):Av M A (Xo X.env x u) Q E s:=
 QM I hN hi hx r (λs' I' _=>h s' I') hf
theorem Inv.call' {s':Ah}(I:Inv X pins σ H s)(ho:s'.os=s.os)(u:Un (frs X.stack) ch H H' s.heap s'.heap)(hok:HOk X.prog X.w H' s'.heap)(hg:Mk s'.gens)
  (hch:∀ b∈ch,(b∈X.ex\/X.s₀.heap.objs.size<=b)/\b≠X.env.locals/\(∀ x c,X.env.cells.lookup x=Ab c->c≠b)/\∀ p∈X.pn++pins,p.1≠b):Inv X pins σ H' s':=by
 obtain⟨h',g',d',t',o'⟩:=s';have e:o'=s.os:=ho;subst e;exact I.call (g':=g') (t':=t') (d':=d') u hok hg hch
end
abbrev XK:=Ac->Al Ad->Hp->Prop
abbrev St:=Aa (Al V)
abbrev VK:=V->Hp->Prop
abbrev TE:=St->Hp->VK->Prop
abbrev TT:=St->Hp->(Ap->Hp->Prop)->Prop
abbrev TA:=St->Hp->(Aa V->Hp->Prop)->Prop
structure Ends where
 nx:St->Hp->Prop
 rt:VK
 bk:St->Hp->Prop:=λ_ _=>Ez
 ct:St->Hp->Prop:=λ_ _=>Ez
abbrev TS:=Ends->St->Hp->Prop
inductive EP (X:Cx)(pins:Aa (Ad × Cg))(σ : St)(Q:VK)(u:Ac)(s':Ah):Prop
 |mk (v:V) (H':Hp) (I:Inv X pins σ H' s') (r:qF v u) (q:Q v H'):EP X pins σ Q u s'
inductive TP (X:Cx)(pins:Aa (Ad × Cg))(σ : St)(Q:Ap->Hp->Prop)(b:Ap)(s':Ah):Prop
 |mk (H':Hp) (I:Inv X pins σ H' s') (q:Q b H'):TP X pins σ Q b s'
inductive AP (X:Cx)(pins:Aa (Ad × Cg))(σ : St)(Q:Aa V->Hp->Prop)(us:Aa Ac)(s':Ah):Prop
 |mk (vs:Aa V) (H':Hp) (I:Inv X pins σ H' s') (r:qH vs us) (q:Q vs H'):AP X pins σ Q us s'
def SP (X:Cx)(pins:Aa (Ad × Cg))(D:Ends)(f:Flow)(s':Ah):Prop:=
 match f with
 |.next=>∃ σ' H',Inv X pins σ' H' s'/\D.nx σ' H'
 |.brk=>∃ σ' H',Inv X pins σ' H' s'/\D.bk σ' H'
 |.cont=>∃ σ' H',Inv X pins σ' H' s'/\D.ct σ' H'
 |.ret u=>∃ v σ' H',Inv X pins σ' H' s'/\qF v u/\D.rt v H'
def PE (X:Cx)(e:Bn)(t:TE):Prop:=
 ∀ (pins:Aa (Ad × Cg)) (s:Ah) (σ : St) (H:Hp) (Q:VK),Inv X pins σ H s->t σ H Q->Av (Ba X.prog X.w) X.A (eval e X.env) (EP X pins σ Q) X.xe s
def PT (X:Cx)(e:Bn)(t:TT):Prop:=
 ∀ (pins:Aa (Ad × Cg)) (s:Ah) (σ : St) (H:Hp) (Q:Ap->Hp->Prop),Inv X pins σ H s->t σ H Q->Av (Ba X.prog X.w) X.A (isTrue e X.env (eval e X.env)) (TP X pins σ Q) X.xe s
def PW (X:Cx)(e:Bn)(t:TT):Prop:=
 ∀ (whole:Ke Ac) (pins:Aa (Ad × Cg)) (s:Ah) (σ : St) (H:Hp) (Q:Ap->Hp->Prop),Inv X pins σ H s->t σ H Q->Av (Ba X.prog X.w) X.A (isTrue e X.env whole) (TP X pins σ Q) X.xe s
def PA (X:Cx)(es:Aa Bn)(t:TA):Prop:=
 ∀ (pos:Eg) (pins:Aa (Ad × Cg)) (s:Ah) (σ : St) (H:Hp) (Q:Aa V->Hp->Prop),Inv X pins σ H s->t σ H Q->Av (Ba X.prog X.w) X.A (spliced (Ft pos (Bl es X.env))) (AP X pins σ Q) X.xe s
def PS (X:Cx)(st:Fb)(t:TS):Prop:=
 ∀ (pins:Aa (Ad × Cg)) (s:Ah) (σ : St) (H:Hp) (D:Ends),Inv X pins σ H s->t D σ H->Av (Ba X.prog X.w) X.A (exec st X.env) (SP X pins D) X.xe s
def PSs (X:Cx)(st:Aa Fb)(t:TS):Prop:=
 ∀ (pins:Aa (Ad × Cg)) (s:Ah) (σ : St) (H:Hp) (D:Ends),Inv X pins σ H s->t D σ H->Av (Ba X.prog X.w) X.A (execs st X.env) (SP X pins D) X.xe s
theorem thn {α:Type}{t:Ke α}{Q Q':α->Ah->Prop}{A:Br}{s:Ah}(h:Av M A t Q E s)(hQ:∀ a s,Q a s->Q' a s):Av M A t Q' E s:=ID h hQ λ_ _ x=>x
end _L
namespace _L
open PySem PySem.Spec PyProof.Rows
variable {pins:Aa (Ad × Cg)}{u:Ac}{E Q:Ac->Ah->Prop}
section
variable {X:Cx}
theorem bin {a b:Bn}{ta tb:TE}(ha:PE X a ta)(hb:PE X b tb){pins:Aa (Ad × Cg)}{s:Ah}{σ : St}{H:Hp}{R:V->V->Hp->Prop}(I:Inv X pins σ H s)(h:ta σ H λx H1=>tb σ H1 λy H2=>R x y H2)
  {α:Type} {Q:α->Ah->Prop} {f:Ac->Ac->Ke α}
  (hf:∀ v u s2 x y H2,Inv X pins σ H2 s2->qF x v->qF y u->R x y H2->Av (Ba X.prog X.w) X.A (f v u) Q X.xe s2) :
  Av (Ba X.prog X.w) X.A (eval a X.env) (λv s₁=>Av (Ba X.prog X.w) X.A (eval b X.env) (λu s₂=>Av (Ba X.prog X.w) X.A (f v u) Q X.xe s₂) X.xe s₁) X.xe s:=by
 refine thn (ha pins s σ H _ I h) λv s1 ⟨x,H1,I1,r1,q1⟩=>?_;refine thn (hb pins s1 σ H1 _ I1 q1) λu s2 ⟨y,H2,I2,r2,q2⟩=>?_;exact hf v u s2 x y H2 I2 r1 r2 q2
def LD (i:Af):TE:=λσ H Q=>∃ v,σ[i]? = Ab (Ab v)/\Q v H
def tC (v:V):TE:=λ_ H Q=>Q v H
theorem TM {i:Af}{x:Ao}{pos:Eg}(hN:X.N[i]? = Ab x)(hv:Vis X.env.scope x)(hd:(x == ("__debug__" : Ao))=false:=by decide)(hcd:(x == ("__classdict__" : Ao))=false:=by decide):PE X (.Name x pos) (LD i):=by
 intro pins s σ H Q I h;obtain⟨v,e,h⟩:=h;obtain⟨m,hn,hl⟩:=I.loc;obtain⟨u,r,l⟩:=hl i x v hN e hv;have fin:EP X pins σ Q u s:=⟨v,H,I,r,h⟩;rcases l with⟨hk,hm⟩|⟨hk,c,hc,hcell⟩
 .exact Sj (Nb I.ok.kind hk hn hm fin) hd
 .rcases hk with hk|hk
  .exact Sj (Sk I.ok.kind hk hc hcell fin) hd
  .exact Sj (wpAny_loadName_free I.ok.kind hk hc hcell fin hcd) hd
theorem TF:PE X (.Constant (.int i) j pos) (tC (.int i)):=λ_ _ _ H _ I h=>Tq ⟨.int i,H,I.tok _,⟨_,rfl⟩,h⟩
theorem R0:PE X (.Constant (.bool b) j pos) (tC (.bl b)):=λ_ _ _ H _ I h=>Constant_bool ⟨.bl b,H,I,rfl,h⟩
theorem TH:PE X (.Constant .none j pos) (tC .non):=λ_ _ _ H _ I h=>Constant_none ⟨.non,H,I,rfl,h⟩
theorem TK:PE X (.Constant (.str x) j pos) (tC (.str x)):=λ_ _ _ H _ I h=>Calls.Constant_str ⟨.str x,H,I.tok _,⟨_,rfl⟩,h⟩
def Gl (X:Cx)(x:Ao):Prop:=X.env.kindOf x=Ab .globalImplicit
theorem b8 {s:Ah}{σ:St}{H:Hp}{x:Ao}{pos:Eg}(I:Inv X pins σ H s)(hg:Gl X x)(hm:X.mg x=Ab u)(h:Q u s)
  (hd:(x == ("__debug__" : Ao))=false:=by decide):Av (Ba X.prog X.w) X.A (eval (.Name x pos) X.env) Q E s:=
 Ow I.ok.kind hg (Calls.loadGlobal_global (by rw[I.ok.glob];exact I.mod.glob.keeps I.bk) hm h) hd
theorem yU {s:Ah}{σ:St}{H:Hp}{x:Ao}{pos:Eg}(I:Inv X pins σ H s)(hg:Gl X x)(hm:X.mg x=none)(hv:Fd x=Ab u)(h:Q u s)
  (hn:x ≠ "__name__":=by decide) (hd:(x == ("__debug__" : Ao))=false:=by decide):Av (Ba X.prog X.w) X.A (eval (.Name x pos) X.env) Q E s:=by
 obtain⟨mb,h1,h2⟩:=I.mod.blt;exact Ow I.ok.kind hg (Calls.loadGlobal_builtin (by rw[I.ok.glob];exact I.mod.glob.keeps I.bk) hm (by rw[I.ok.blt];exact h1.keeps I.bk) ((h2 x hn).trans hv) h) hd
theorem KD {x:Ao}{v:V}{pos:Eg}(hg:Gl X x)(hm:X.mg x=Ab u)(r:qF v u)(hd:(x == ("__debug__" : Ao))=false:=by decide):PE X (.Name x pos) (tC v):=
 λ_ _ _ H _ I h=>b8 I hg hm ⟨v,H,I,r,h⟩ hd
theorem KC {x:Ao}{v:V}{pos:Eg}(hg:Gl X x)(hm:X.mg x=none)(hv:Fd x=Ab u)(r:qF v u)(hn:x ≠ "__name__":=by decide)(hd:(x == ("__debug__" : Ao))=false:=by decide):PE X (.Name x pos) (tC v):=
 λ_ _ _ H _ I h=>yU I hg hm hv ⟨v,H,I,r,h⟩ hn hd
variable {a b:Bn}{ta tb:TE}{pos:Eg}
variable {tA tB':TT}{qE:Aa Bn}
theorem KO (ha:PT X a tA):PW X (.BoolOp .And [a] pos) tA:=by
 intro wh pins s σ H Q I h;refine isTrue_and (thn (ha pins s σ H Q I h) λc s1 e=>?_);cases c with
 |true=>exact isTrue_and_nil e
 |false=>exact e
theorem N3 (ha:PT X a tA):PW X (.BoolOp .Or [a] pos) tA:=by
 intro wh pins s σ H Q I h;refine isTrue_or (thn (ha pins s σ H Q I h) λc s1 e=>?_);cases c with
 |false=>exact isTrue_or_nil e
 |true=>exact e
theorem TJ {t:TE}(h:PE X a t):PE X (.BoolOp op [a] pos) t:=λpins s σ H Q I hw=>BoolOp_one (h pins s σ H Q I hw)
end
end _L
namespace _L
open PySem PySem.Spec PyProof.Rows
variable {es:Aa Bn}{i:Af}{K:Ak}{x:Ao}{P:Bi}{tg:Bn}{w:Ca}
def SqL (K:Ak)(H:Hp)(a:Ad)(xs:Aa V):Prop:=
 Rd H a (.lst xs) \/
  ∃ (o:Cg) (its:Bj Ac) (n:Af),K.lookup a=Ab o/\o.cls=.type "list" /\ o.dict=none/\o.data=.seq its n/\its.size<=sizeLine/\qH xs its.toList
def SqT (K:Ak)(H:Hp)(a:Ad)(xs:Aa V):Prop:=
 Rd H a (.tup xs) \/
  ∃ (o:Cg) (its:Bj Ac) (n:Af),K.lookup a=Ab o/\o.cls=.type "tuple" /\ o.data=.seq its n/\its.size<=sizeLine/\qH xs its.toList
noncomputable def EM:Ac->Al V
 |.none=>Ab .non
 |.bool b=>Ab (.bl b)
 |.int i _=>Ab (.int i)
 |.str x _=>Ab (.str x)
 |.bytes b _=>Ab (.byt b)
 |.float b _=>Ab (.flt b)
 |.ref a=>Ab (.ref a)
 |.type n=>Ab (.ty n)
 |_=>none
theorem qF.abs {x:V}{u:Ac}(r:qF x u):EM u=Ab x:=by
 cases x with
 |non=>cases r;rfl
 |bl _=>cases r;rfl
 |int _=>obtain⟨t,rfl⟩:=r;rfl
 |str _=>obtain⟨t,rfl⟩:=r;rfl
 |byt _=>obtain⟨t,rfl⟩:=r;rfl
 |flt _=>obtain⟨t,rfl⟩:=r;rfl
 |ref _=>cases r;rfl
 |ty _=>cases r;rfl
theorem qF.inj {x y:V}{u:Ac}(r:qF x u)(q:qF y u):x=y:=Cj (r.abs.symm.trans q.abs)
theorem qH.inj {xs ys:Aa V}{us:Aa Ac}(h:qH xs us)(k:qH ys us):xs=ys:=by
 induction h generalizing ys with
 |nil=>cases k;rfl
 |cons r t ih =>
  cases k with
  |cons r' t'=>rw[r.inj r',ih t']
section
variable {X:Cx}{pins:Aa (Ad × Cg)}{σ : St}{H:Hp}{s:Ah}{a:Ad}{xs ys:Aa V}
theorem SqL.of (h:H a=Ab (.lst xs)):SqL K H a xs:=.inl (.inl h)
theorem SqT.of (h:H a=Ab (.tup xs)):SqT K H a xs:=.inl (.inl h)
theorem Inv.list (I:Inv X pins σ H s)(h:SqL X.K H a xs):∃ its:Aa Ac,qH xs its/\PlainL s.heap a its.toArray/\xs.length<=sizeLine:=by
 rcases h with h|⟨o,its,n,hk,hc,hd,hs,hz,r⟩
 .obtain⟨z,its,n,r,e⟩:=h.ok I.hok
  exact⟨its,r,⟨_,n,e,rfl,rfl,rfl⟩,z⟩
 .refine⟨its.toList,r,⟨o,n,I.kIn a o hk,hc,hd,by simpa using hs⟩,?_⟩
  have e:=r.length;simp only[Ce] at e;omega
theorem Inv.tuple (I:Inv X pins σ H s)(h:SqT X.K H a xs):∃ its:Aa Ac,qH xs its/\Oh s.heap a its.toArray/\xs.length<=sizeLine:=by
 rcases h with h|⟨o,its,n,hk,hc,hs,hz,r⟩
 .obtain⟨z,its,r,p⟩:=h.ok I.hok
  exact⟨its,r,p,z⟩
 .refine⟨its.toList,r,⟨o,I.kIn a o hk,hc,n,by simpa using hs⟩,?_⟩
  have e:=r.length;simp only[Ce] at e;omega
theorem Inv.list_inj (I:Inv X pins σ H s)(h:SqL X.K H a xs)(h':SqL X.K H a ys):xs=ys:=by
 obtain⟨its,r,⟨o,n,e,_,_,d⟩,_⟩:=I.list h;obtain⟨its',r',⟨o',n',e',_,_,d'⟩,_⟩:=I.list h';rw[e] at e';cases e';rw[d] at d';injection d' with d1 _
 have:its=its':=by simpa using congrArg Ud d1
 subst this;exact r.inj r'
theorem Inv.tuple_inj (I:Inv X pins σ H s)(h:SqT X.K H a xs)(h':SqT X.K H a ys):xs=ys:=by
 obtain⟨its,r,⟨o,e,_,n,d⟩,_⟩:=I.tuple h;obtain⟨its',r',⟨o',e',_,n',d'⟩,_⟩:=I.tuple h';rw[e] at e';cases e';rw[d] at d';injection d' with d1 _
 have:its=its':=by simpa using congrArg Ud d1
 subst this;exact r.inj r'
end
abbrev Cx.wish (X:Cx)(E:Ac->Ah->Prop):Cx:={ X with xe:=E }
abbrev Cx.nox (X:Cx):Cx:=X.wish λ_ _=>Ez
theorem Cx.Ok.wish {X:Cx}(ok:X.Ok)(E:Ac->Ah->Prop):(X.wish E).Ok:=
 ⟨ok.mod,ok.kind,ok.glob,ok.blt,ok.above,ok.inj,ok.has,ok.cab,ok.hd,ok.frames,ok.stk,ok.exf,ok.bs,ok.bsz,ok.noex,ok.exfs,ok.funs,ok.frf⟩
theorem Cx.Ok.unwish {X:Cx}{E:Ac->Ah->Prop}(ok:(X.wish E).Ok):X.Ok:=
 ⟨ok.mod,ok.kind,ok.glob,ok.blt,ok.above,ok.inj,ok.has,ok.cab,ok.hd,ok.frames,ok.stk,ok.exf,ok.bs,ok.bsz,ok.noex,ok.exfs,ok.funs,ok.frf⟩
section
variable {X:Cx}{pins:Aa (Ad × Cg)}{σ : St}{H:Hp}{s:Ah}{E:Ac->Ah->Prop}
theorem Inv.wish (I:Inv X pins σ H s)(E:Ac->Ah->Prop):Inv (X.wish E) pins σ H s:=⟨I.ok.wish E,I.os,I.bare,I.base,I.loc,I.cell,I.free,I.freeC,I.pin,I.hok,I.len⟩
theorem Inv.unwish (I:Inv (X.wish E) pins σ H s):Inv X pins σ H s:=⟨I.ok.unwish,I.os,I.bare,I.base,I.loc,I.cell,I.free,I.freeC,I.pin,I.hok,I.len⟩
theorem SP.unwish {D:Ends}{f:Flow}{s':Ah}(h:SP (X.wish E) pins D f s'):SP X pins D f s':=by
 cases f with
 |next=>obtain⟨σ',H',I,q⟩:=h;exact⟨σ',H',I.unwish,q⟩
 |brk=>obtain⟨σ',H',I,q⟩:=h;exact⟨σ',H',I.unwish,q⟩
 |cont=>obtain⟨σ',H',I,q⟩:=h;exact⟨σ',H',I.unwish,q⟩
 |ret u=>obtain⟨v,σ',H',I,r,q⟩:=h;exact⟨v,σ',H',I.unwish,r,q⟩
theorem PE.nox {e:Bn}{t:TE}(h:PE X.nox e t):PE X e t:=λpins s σ H Q I hw =>
 ID (h pins s σ H Q (I.wish _) hw) (λ_ _ ⟨v,H',I',r,q⟩=>⟨v,H',I'.unwish,r,q⟩) λ_ _ z=>An z
theorem PT.nox {e:Bn}{t:TT}(h:PT X.nox e t):PT X e t:=λpins s σ H Q I hw =>
 ID (h pins s σ H Q (I.wish _) hw) (λ_ _ ⟨H',I',q⟩=>⟨H',I'.unwish,q⟩) λ_ _ z=>An z
theorem PSs.nox {st:Aa Fb}{t:TS}(h:PSs X.nox st t):PSs X st t:=λpins s σ H D I hw =>
 ID (h pins s σ H D (I.wish _) hw) (λ_ _ q=>q.unwish) λ_ _ z=>An z
end
section
variable {X:Cx}{st:Fb}{qE:Aa Fb}{t u:TS}{e:Bn}{te:TE}{pos:Eg}
def RO:TS:=λD σ H=>D.nx σ H
def C4 (t u:TS):TS:=λD σ H=>t { D with nx:=u D } σ H
theorem KM:PSs X [] RO:=λ_ _ σ H _ I h=>Ni ⟨σ,H,I,h⟩
theorem WT (h1:PS X st t)(h2:PSs X qE u):PSs X (st::qE) (C4 t u):=by
 intro pins s σ H D I h;refine Vi (thn (h1 pins s σ H { D with nx:=u D } I h) λf s1 q=>?_)
 cases f with
 |next =>
  obtain⟨σ',H',I',q⟩:=q;exact h2 pins s1 σ' H' D I' q
 |ret v=>exact q
 |brk=>exact q
 |cont=>exact q
theorem KN (h1:PS X st t):PSs X [st] t:=by
 intro pins s σ H D I h;refine Vi (thn (h1 pins s σ H D I h) λf s1 q=>?_);cases f with
 |next=>exact Ni q
 |ret v=>exact q
 |brk=>exact q
 |cont=>exact q
theorem Inv.quiet {pins:Aa (Ad × Cg)}{σ:St}{H:Hp}{s:Ah}(I:Inv X pins σ H s):interactive X.env=false:=by simp[interactive,I.ok.kind]
end
abbrev TG:=V->St->Hp->(St->Hp->Prop)->Prop
abbrev TGs:=Aa V->St->Hp->(St->Hp->Prop)->Prop
def PG (X:Cx)(target:Bn)(t:TG):Prop:=
 ∀ (pins:Aa (Ad × Cg)) (s:Ah) (σ : St) (H:Hp) (v:V) (u:Ac) (Q:St->Hp->Prop),Inv X pins σ H s->qF v u->t v σ H Q ->
  Av (Ba X.prog X.w) X.A (assign target X.env u) (λ_ s'=>∃ σ' H',Inv X pins σ' H' s'/\Q σ' H') X.xe s
def PGs (X:Cx)(ts:Aa Bn)(t:TGs):Prop:=
 ∀ (pins:Aa (Ad × Cg)) (s:Ah) (σ : St) (H:Hp) (vs:Aa V) (us:Aa Ac) (Q:St->Hp->Prop),Inv X pins σ H s->qH vs us->t vs σ H Q ->
  Av (Ba X.prog X.w) X.A (Sl ((Fz ts X.env).map (·.2)) us) (λ_ s'=>∃ σ' H',Inv X pins σ' H' s'/\Q σ' H') X.xe s
abbrev ZC:=V->V->V->Hp->(Hp->Prop)->Prop
def lK (X:Cx)(t:ZC):Prop:=
 ∀ (pins:Aa (Ad × Cg)) (s:Ah) (σ : St) (H:Hp) (o i v:V) (ov iv u:Ac) (Q:Hp->Prop),Inv X pins σ H s->qF o ov->qF i iv->qF v u->t o i v H Q ->
  Av (Ba X.prog X.w) X.A (Xp ov iv u) (λ_ s'=>∃ H',Inv X pins σ H' s'/\Q H') X.xe s
abbrev TIp:=V->V->Hp->VK->Prop
def PIp (X:Cx)(op:Mb)(t:TIp):Prop:=
 ∀ (pins:Aa (Ad × Cg)) (s:Ah) (σ : St) (H:Hp) (x y:V) (v u:Ac) (Q:VK),Inv X pins σ H s->qF x v->qF y u->t x y H Q ->
  Av (Ba X.prog X.w) X.A (inplaceOp op v u) (EP X pins σ Q) X.xe s
section
variable {X:Cx}{pos:Eg}
def DP (i:Af):TG:=λv σ H Q=>Q (σ.set i (Ab v)) H
theorem KE (hN:X.N.Nodup)(hi:X.N[i]? = Ab x)(hx:Loc X.env.scope x)(hf:X.fn x=true\/X.env.scope.names.lookup x=Ab .local:=by first|exact .inl rfl|exact .inr rfl|assumption):PG X (.Name x pos) (DP i):=by
 intro pins s σ H v u Q I r h;exact wpAny_assign_Name (uU I hN hi hx r (λs' I'=>⟨_,H,I',h⟩) hf)
def EZ:TGs:=λvs σ H Q=>vs=[]/\Q σ H
def DN (t:TG)(u:TGs):TGs:=λvs σ H Q=>∃ v r,vs=v::r/\t v σ H λσ' H'=>u r σ' H' Q
theorem KF:PGs X [] EZ:=by
 intro pins s σ H vs us Q I r h;obtain⟨e,h⟩:=h;subst e;cases r;exact Uo ⟨σ,H,I,h⟩
theorem WO {e:Bn}{t:TG}{u:TGs}(h1:PG X e t)(h2:PGs X es u)
  (hs:(Fz (e::es) X.env).map (·.2)=assign e X.env::(Fz es X.env).map (·.2):=by rfl):PGs X (e::es) (DN t u):=by
 intro pins s σ H vs us Q I r h;obtain⟨v,vr,e1,h⟩:=h;subst e1;cases r with
 |cons r rr =>
  rw[hs];refine Os (thn (h1 pins s σ H _ _ _ I r h) λ_ s1 ⟨σ1,H1,I1,q1⟩=>?_);exact h2 pins s1 σ1 H1 _ _ Q I1 rr q1
def H0 (K:Ak)(n:Af)(t:TGs):TG:=λv σ H Q=>∃ a xs,v=.ref a/\SqT K H a xs/\xs.length=n/\t xs σ H Q
theorem TQ {k:Af}{t:TGs}{n:Af}(hc:X.calm=true)(h:PGs X es t)
  (hn:(Fz es X.env).length=n:=by rfl) (hst:(Fz es X.env).findIdx? (·.1)=none:=by rfl):PG X (.Tuple es k pos) (H0 X.K n t):=by
 intro pins s σ H v u Q I r hw;obtain⟨a,xs,e1,hq,hl,hw⟩:=hw;subst e1;cases r;obtain⟨its,rv,ht,hz⟩:=I.tuple hq;refine assign_Tuple_tuple (I.ok.hd hc) ht (by simp[hn,<- hl,rv.length]) hst λh' hx=>?_
 have I1:Inv X pins σ H { s with heap:=h' }:=I.kept (t':=s.toks) λb o e=>hx b o (Cn (Ay e)) e
 exact h pins _ σ H xs _ Q I1 (by simpa using rv) hw
def yS (to ti:TE)(t:ZC):TG:=λv σ H Q=>to σ H λo H1=>ti σ H1 λi H2=>t o i v H2 λH3=>Q σ H3
def C3 (i j:Af)(ta:TA):TS:=λD σ H=>ta σ H λvs H1=>∃ v w,vs=[v,w]/\D.nx ((σ.set i (Ab v)).set j (Ab w)) H1
theorem N0 {j:Af}{y:Ao}{a b:Bn}{ta:TA}{px py pt:Eg} {kt k2 pt2} (hc:X.calm=true) (hN:X.N.Nodup) (hi:X.N[i]? = Ab x) (hj:X.N[j]? = Ab y) (hij:i≠j)
  (hx:X.env.scope.names.lookup x=Ab .local) (hy:X.env.scope.names.lookup y=Ab .local) (ha:PA X [a,b] ta)
  (hw:Ki [.Tuple [.Name x px,.Name y py] kt pt] (.Tuple [a,b] k2 pt2) X.env=pure (Ab [x,y]))
  (hs:Kj [.Tuple [.Name x px,.Name y py] kt pt] (.Tuple [a,b] k2 pt2) pos.line X.env=pure false:=by rfl) :
  PS X (.Assign [.Tuple [.Name x px,.Name y py] kt pt] (.Tuple [a,b] k2 pt2) pos) (C3 i j ta):=by
 intro pins s σ H D I h;rw[exec_Assign_arm];refine Ai (OH ?_);rw[hs];refine Ai (AT ?_);rw[Aw (by decide)]
 refine Ai (Tuple_ (thn (ha _ pins s σ H _ I h) λus s1 ⟨vs,H1,I1,r1,q1⟩=>?_));obtain⟨v,w,e1,q1⟩:=q1;subst e1;obtain⟨u1,u2,rfl,rv,rw'⟩:∃ u1 u2,us=[u1,u2]/\qF v u1/\qF w u2:=by
  cases r1 with
  |cons p q =>
   cases q with
   |cons p' q' =>
    cases q';exact⟨_,_,rfl,p,p'⟩
 refine Fi ?_ (by show 2<=sizeLine;decide)
 have I2:Inv X pins σ H1 { s1 with heap:=s1.heap.push { cls:=.type "tuple",data:=.seq [u1,u2].toArray } }:=I1.kept (t':=s1.toks) λb o e=>Aj _ e
 rw[hw];refine Ai (AT ?_);show Av (Ba X.prog X.w) X.A (do rule "assign.swapped-stores";let items <- unpackItems (.ref s1.heap.objs.size) 2 none;Sl [λv=>Wf X.env y v,λv=>Wf X.env x v] items.reverse;pure Flow.next) _ _ _
 refine Ai (Gj (Ai (unpackItems_tuple (items:=#[u1,u2]) (I.ok.hd hc) (Uq s1.heap _) λh' hx'=>?_)));have I3:=I2.kept (h':=h') (t':=s1.toks) λb o e=>hx' b o (Cn (Ay e)) e;show Av _ _ (Sl [λv=>Wf X.env y v,λv=>Wf X.env x v] [u2,u1] >>= λ_=>pure Flow.next) _ _ _;refine Ai (Os (wpAny_bindName (uU I3 hN hj (.inl hy) rw' (λs2 I4=>?_) (.inr hy))));refine Os (wpAny_bindName (uU I4 hN hi (.inl hx) rv (λs3 I5=>Uo (AT ?_)) (.inr hx)));rw[List.set_comm _ _ (Eu hij)] at I5;exact⟨_,H1,I5,q1⟩
def HV (i:Af)(te:TE)(ti:TIp):TS:=λD σ H=>∃ x,σ[i]? = Ab (Ab x)/\te σ H λy H1=>ti x y H1 λz H2=>D.nx (σ.set i (Ab z)) H2
theorem TZ {e:Bn}{te:TE}{op:Mb}{ti:TIp}{pos':Eg}(hN:X.N.Nodup)(hi:X.N[i]? = Ab x)(hx:Loc X.env.scope x)(he:PE X e te)(ho:PIp X op ti)(hf:X.fn x=true\/X.env.scope.names.lookup x=Ab .local:=by first|exact .inl rfl|exact .inr rfl|assumption) :
  PS X (.AugAssign (.Name x pos') op e pos) (HV i te ti):=by
 intro pins s σ H D I h;obtain⟨v,e1,h⟩:=h;obtain⟨m,hn,hl⟩:=I.loc;have vis:Vis X.env.scope x:=by rcases hx with k|k;exact .inl k;exact .inr (.inl k)
 obtain⟨u,r,l⟩:=hl i x v hi e1 vis;refine wpAny_AugAssign_Name ?_;have go:Av (Ba X.prog X.w) X.A (eval e X.env) (λw s₂=>Av (Ba X.prog X.w) X.A (inplaceOp op u w) (λr s₃=>Av (Ba X.prog X.w) X.A (Xo X.env x r) (λ_=>SP X pins D .next) X.xe s₃) X.xe s₂) X.xe s:=by
  refine thn (he pins s σ H _ I h) λw s1 ⟨y,H1,I1,r1,q1⟩=>?_;refine thn (ho pins s1 σ H1 v y u w _ I1 r r1 q1) λz s2 ⟨zv,H2,I2,r2,q2⟩=>?_;exact uU I2 hN hi hx r2 (λs3 I3=>⟨_,H2,I3,q2⟩) hf
 rcases l with⟨hk,hm⟩|⟨hk,c,hc,hcell⟩
 .exact Nb I.ok.kind hk hn hm go
 .rcases hk with hk|hk
  .exact Sk I.ok.kind hk hc hcell go
  .rcases hx with k|k
   .have:X.env.scope.names.lookup x=Ab .free:=hk
    rw[k] at this;cases this
   .have:X.env.scope.names.lookup x=Ab .free:=hk
    rw[k] at this;cases this
def ipI (f:Ag->Ag->Ag):TIp:=λx y H Q=>∃ i j,x=.int i/\y=.int j/\Q (.int (f i j)) H
theorem FM:PIp X .Add (ipI λi j=>i+j):=by
 intro pins s σ H x y v u Q I r1 r2 h;obtain⟨i,j,e1,e2,q⟩:=h;subst e1;subst e2;obtain⟨t,rfl⟩:=r1;obtain⟨t',rfl⟩:=r2;exact iadd_int ⟨.int _,H,I.tok _,⟨_,rfl⟩,q⟩
theorem FN:PIp X .Sub (ipI λi j=>i-j):=by
 intro pins s σ H x y v u Q I r1 r2 h;obtain⟨i,j,e1,e2,q⟩:=h;subst e1;subst e2;obtain⟨t,rfl⟩:=r1;obtain⟨t',rfl⟩:=r2;exact isub_int ⟨.int _,H,I.tok _,⟨_,rfl⟩,q⟩
end
section
variable {X:Cx}{pos:Eg}
def LF (c:TT)(tb:TS):TS:=λD σ H=>∃ W:Af->St->Hp->Prop,(∃ m,W m σ H)/\∀ m σ H,W m σ H ->
 c σ H λb H1=>if b=true then ∃ N:St->Hp->Prop,(∀ σ' H',N σ' H'->∃ m',m'<m/\W m' σ' H')/\tb { D with nx:=N,ct:=N,bk:=D.nx } σ H1 else D.nx σ H1
theorem WS {c:Bn}{body:Aa Fb}{tc:TT}{tb:TS}(hp:Nj (Ba X.prog X.w) X.A X.env X.xe)(hc:PT X c tc)(hb:PSs X body tb):PS X (.While c body [] pos) (LF tc tb):=by
 intro pins s σ H D I h;obtain⟨W,⟨m0,w0⟩,turn⟩:=h;refine wpAny_While (codeAny_whileLoop (λn s'=>∃ σ' H',Inv X pins σ' H' s'/\W n σ' H') ?_ m0 ⟨σ,H,I,w0⟩);rintro n s1 ⟨σ1,H1,I1,w1⟩;refine Ih hp (thn (hc pins s1 σ1 H1 _ I1 (turn n σ1 H1 w1)) λb s2 ⟨H2,I2,q2⟩=>?_);cases b with
 |true =>
  obtain⟨N,hN,q2⟩:=q2;rw[Bc rfl];refine Ih hp (thn (hb pins s2 σ1 H2 _ I2 q2) λf s3 q3=>?_);cases f with
  |next =>
   obtain⟨σ3,H3,I3,n3⟩:=q3;obtain⟨m',hm,w3⟩:=hN σ3 H3 n3;exact⟨m',hm,σ3,H3,I3,w3⟩
  |cont =>
   obtain⟨σ3,H3,I3,n3⟩:=q3;obtain⟨m',hm,w3⟩:=hN σ3 H3 n3;exact⟨m',hm,σ3,H3,I3,w3⟩
  |brk=>exact q3
  |ret v=>exact q3
 |false =>
  rw[Aw IN];exact Ni ⟨σ1,H2,I2,q2⟩
end
structure It where
 go:Af->Hp->Prop
 yld:Af->Hp->V->Hp->Prop
 stop:Af->Hp->Prop
def x8 (X:Cx)(pins:Aa (Ad × Cg))(H:Hp)(b:Ad):Prop:=
 H b=none/\b≠X.env.locals/\b ∉ X.fs/\(b∈X.ex\/X.s₀.heap.objs.size<=b)/\(∀ x c,X.env.cells.lookup x=Ab c->c≠b)/\∀ p∈X.pn++pins,p.1≠b
theorem Inv.fpOk {X:Cx}{pins:Aa (Ad × Cg)}{σ:St}{H H':Hp}{s:Ah}{b:Ad}(I:Inv X pins σ H s)(hb:s.heap.objs.size<=b)(hn:H' b=none):x8 X pins H' b:=by
 refine⟨hn,Ia (Bd I.lt hb),I.nofs hb,.inr (Dd I.sz hb),λx c e z=>?_,λp hp z=>?_⟩
 .obtain⟨v,q⟩:=I.cell x c e
  exact absurd (Bd q.lt (by rw[z];exact hb)) (Di _)
 .exact absurd (Bd (Ay (I.pin p hp).1) (by rw[z];exact hb)) (Di _)
structure Turn (P:Bi)(w:Ca)(K:Ak)(tg:Bn)(J:It)(fp:Aa Ad)(it:Ad)(tn:Af->Bs->Prop):Prop where
 mem:it∈fp
 obj:∀ i h,tn i h->∀ b∈fp,∃ o,h.get? b=Ab o/\∀ v,o.data≠.cell v
 keep:∀ i h h',tn i h->(∀ b∈fp,∀ o,h.get? b=Ab o->h'.get? b=Ab o)->tn i h'
 item:∀ (X:Cx),X.prog=P->X.w=w->X.K=K->X.calm=true->∀ (i:Af) (pins:Aa (Ad × Cg)) (s:Ah) (σ : St) (H:Hp) (E:Ac->Ah->Prop),Inv X pins σ H s->(∀ b∈fp,x8 X pins H b)->tn i s.heap->J.go i H ->
  Av (Ba P w) X.A (Pe (.ref it)) (λr s1=>∃ u,r=Ab u /\
   Av (Ba P w) X.A (IQ tg (.ref it) u) (λ_ s2=>∃ x H',Inv X pins σ H' s2/\qF x u/\J.yld i H x H'/\tn (i+1) s2.heap/\∀ b∈fp,H' b=none) E s1) E s
 done:∀ (X:Cx),X.prog=P->X.w=w->X.K=K->X.calm=true->∀ (i:Af) (pins:Aa (Ad × Cg)) (s:Ah) (σ : St) (H:Hp) (E:Ac->Ah->Prop),Inv X pins σ H s->(∀ b∈fp,x8 X pins H b)->tn i s.heap->J.stop i H ->
  Av (Ba P w) X.A (Pe (.ref it)) (λr s1=>r=none/\Inv X pins σ H s1) E s
 self:∀ (A:Br) (i:Af) (s:Ah) (Q:Ac->Ah->Prop) (E:Ac->Ah->Prop),tn i s.heap->Q (.ref it) s->Av (Ba P w) A (Pg (.ref it)) Q E s
abbrev TI:=St->Hp->(It->Hp->Prop)->Prop
inductive PIE (X:Cx)(pins:Aa (Ad × Cg))(σ : St)(tg:Bn)(R:It->Hp->Prop)(itv:Ac)(s2:Ah):Prop
 |mk (it:Ad) (fp:Aa Ad) (tn:Af->Bs->Prop) (J:It) (H':Hp) (e:itv=.ref it) (I:Inv X pins σ H' s2) (t:Turn X.prog X.w X.K tg J fp it tn) (z:tn 0 s2.heap) (f:∀ b∈fp,x8 X pins H' b) (q:R J H'):PIE X pins σ tg R itv s2
def PI (X:Cx)(tg iter:Bn)(wi:TI):Prop:=
 ∀ (pins:Aa (Ad × Cg)) (s:Ah) (σ : St) (H:Hp) (R:It->Hp->Prop),Inv X pins σ H s->wi σ H R ->
  Av (Ba X.prog X.w) X.A (eval iter X.env) (λv s1=>Av (Ba X.prog X.w) X.A (Pg v) (PIE X pins σ tg R) X.xe s1) X.xe s
theorem cQ {M:Lz}{A:Br}{E:Ac->Ah->Prop}{s:Ah}{it:Ad}{u:Ac}{o:Cg}{n:Dt}{vs:Bj Ac}{Q:Qm->Ah->Prop}(ho:s.heap.get? it=Ab o)(hc:o.cls=.type n)(hd:o.data=.fields vs)
    (hn:["enumerate","zip","dict_itemiterator","dict_reverseitemiterator","odict_iterator","itertools.zip_longest","itertools.pairwise"].contains n=false) (hQ:Q () s):Av M A (IQ tg (.ref it) u) Q E s:=by
  unfold IQ;cases tg <;> first
    |exact AT hQ
    |(cases u <;> first
        |exact AT hQ
        | (refine Ai (wpAny_load ho ?_)
           rw[hc,hd];show Av M A (if (["enumerate","zip","dict_itemiterator","dict_reverseitemiterator","odict_iterator","itertools.zip_longest","itertools.pairwise"].contains n&&vs[0]? == Ab (Ga _))=true then _ else _) Q E s
           rw[Aw (by intro h;rw[hn,Ol] at h;cases h)]
           exact AT hQ))
noncomputable def Itl (K:Ak)(a:Ad):It:=
 ⟨λi H=>∃ xs x,SqL K H a xs/\xs[i]? = Ab x,λi H x H'=>H'=H/\∀ xs,SqL K H a xs->xs[i]? = Ab x,λi H=>∃ xs,SqL K H a xs/\xs.length<=i⟩
noncomputable def Itt (K:Ak)(a:Ad):It:=
 ⟨λi H=>∃ xs x,SqT K H a xs/\xs[i]? = Ab x,λi H x H'=>H'=H/\∀ xs,SqT K H a xs->xs[i]? = Ab x,λi H=>∃ xs,SqT K H a xs/\xs.length<=i⟩
noncomputable def Itr (lo:Ag)(n:Af):It:=⟨λi _=>i<n,λi H x H'=>H'=H/\x=.int (lo+i),λi _=>n<=i⟩
theorem l0 (a it:Ad):Turn P w K tg (Itl K a) [it] it (λi h=>h.IsListIter it a i) where
 mem:=by simp
 obj:=λi h st b hb=>by
  have e:b=it:=by simpa using hb
  subst e;obtain⟨o,e,c,d⟩:=st;exact⟨o,e,λv z=>by rw[d] at z;cases z⟩
 keep:=λi h h' st k=>st.at λo e=>k it (by simp) o e
 item:=by
  intro X hP hw hK hc i pins s σ H E I hf st hg;subst hP hw hK;obtain⟨xs,x,hq,hx⟩:=hg;obtain⟨its,rv,p,hz⟩:=I.list hq;obtain⟨u,hu,ru⟩:=rv.get hx;obtain⟨f0,f1,f2,f3,f4,f5⟩:=hf it (by simp)
  refine wpAny_pyNext_list_item st p.isList (x:=u) (by simpa using hu) λh' st' sb=>?_
  have I1:Inv X pins σ H { s with heap:=h' }:=I.turned (t':=s.toks) (λb o hb e=>(sb.2 b hb).trans e) f0 f1 f3 f4 f5
  obtain⟨o,e,c,d⟩:=id st';exact⟨u,rfl,cQ (s:={ s with heap:=h' }) e c d (by decide) ⟨x,H,I1,ru,⟨rfl,λys hy=>by rw[I.list_inj hy hq];exact hx⟩,st',λb hb=>(hf b hb).1⟩⟩
 done:=by
  intro X hP hw hK hc i pins s σ H E I hf st hg;subst hP hw hK;obtain⟨xs,hq,hx⟩:=hg;obtain⟨its,rv,p,hz⟩:=I.list hq;obtain⟨f0,f1,f2,f3,f4,f5⟩:=hf it (by simp)
  have hl:=rv.length;exact wpAny_pyNext_list_end (I.ok.hd hc) st p.isList (by simp;omega) λh' eb=>⟨rfl,I.turned (t':=s.toks) (λb o hb e=>eb b o hb e) f0 f1 f3 f4 f5⟩
 self:=λ_ _ _ _ _ st h=>wpAny_pyIter_listiter st h
theorem aX (a it:Ad):Turn P w K tg (Itt K a) [it] it (λi h=>h.IsTupleIter it a i) where
 mem:=by simp
 obj:=λi h st b hb=>by
  have e:b=it:=by simpa using hb
  subst e;obtain⟨o,e,c,d⟩:=st;exact⟨o,e,λv z=>by rw[d] at z;cases z⟩
 keep:=λi h h' st k=>st.at λo e=>k it (by simp) o e
 item:=by
  intro X hP hw hK hc i pins s σ H E I hf st hg;subst hP hw hK;obtain⟨xs,x,hq,hx⟩:=hg;obtain⟨its,rv,p,hz⟩:=I.tuple hq;obtain⟨u,hu,ru⟩:=rv.get hx;obtain⟨f0,f1,f2,f3,f4,f5⟩:=hf it (by simp)
  refine wpAny_pyNext_tuple_item st (show s.heap.IsTuple a its.toArray from p) (x:=u) (by simpa using hu) λh' st' sb=>?_
  have I1:Inv X pins σ H { s with heap:=h' }:=I.turned (t':=s.toks) (λb o hb e=>(sb.2 b hb).trans e) f0 f1 f3 f4 f5
  obtain⟨o,e,c,d⟩:=id st';exact⟨u,rfl,cQ (s:={ s with heap:=h' }) e c d (by decide) ⟨x,H,I1,ru,⟨rfl,λys hy=>by rw[I.tuple_inj hy hq];exact hx⟩,st',λb hb=>(hf b hb).1⟩⟩
 done:=by
  intro X hP hw hK hc i pins s σ H E I hf st hg;subst hP hw hK;obtain⟨xs,hq,hx⟩:=hg;obtain⟨its,rv,p,hz⟩:=I.tuple hq;obtain⟨f0,f1,f2,f3,f4,f5⟩:=hf it (by simp)
  have hl:=rv.length;exact wpAny_pyNext_tuple_end (I.ok.hd hc) st (show s.heap.IsTuple a its.toArray from p) (by simp;omega) λh' eb=>⟨rfl,I.turned (t':=s.toks) (λb o hb e=>eb b o hb e) f0 f1 f3 f4 f5⟩
 self:=λ_ _ _ _ _ st h=>wpAny_pyIter_tupleiter st h
theorem aW (it:Ad)(lo:Ag)(n:Af):Turn P w K tg (Itr lo n) [it] it (λi h=>IsRangeIter h it (lo+(i:Af)*1) ((n:Ag)-(i:Af)) 1) where
 mem:=by simp
 obj:=λi h st b hb=>by
  have e:b=it:=by simpa using hb
  subst e;exact⟨_,st,λv z=>by
   have z':Data.fields _=Data.cell v:=z;cases z'⟩
 keep:=λi h h' st k=>k it (by simp) _ st
 item:=by
  intro X hP hw hK hc i pins s σ H E I hf st hg;subst hP hw hK;obtain⟨f0,f1,f2,f3,f4,f5⟩:=hf it (by simp)
  have W:=Walks.range (prog:=X.prog) (w:=X.w) (I.ok.hd hc) it lo 1 n;refine W.item i s _ _ hg st λv h' tk hv st' kk=>?_;obtain⟨t,rfl⟩:=hv;have I1:Inv X pins σ H { s with heap:=h',toks:=tk }:=I.turned (λb o hb e=>kk b o (by simpa using hb) e) f0 f1 f3 f4 f5
  refine⟨_,rfl,cQ (s:={ s with heap:=h',toks:=tk }) (n:="range_iterator") st' rfl rfl (by decide) ⟨.int (lo+i),H,I1,⟨t,?_⟩,⟨rfl,rfl⟩,st',λb hb=>(hf b hb).1⟩⟩
  rw[Yv]
 done:=by
  intro X hP hw hK hc i pins s σ H E I hf st hg;subst hP hw hK;obtain⟨f0,f1,f2,f3,f4,f5⟩:=hf it (by simp)
  exact wpAny_pyNext_range_end (I.ok.hd hc) st (by have:n<=i:=hg;omega) λh' eb=>⟨rfl,I.turned (t':=s.toks) (λb o hb e=>eb b o hb e) f0 f1 f3 f4 f5⟩
 self:=λ_ _ _ _ _ st h=>wpAny_pyIter_rangeiter st h
end _L
namespace _L
open PySem PySem.Spec PyProof.Rows
variable {pins:Aa (Ad × Cg)}{fp:Aa Ad}{s:Ah}{H:Hp}{σ:St}
section
variable {X:Cx}{tg:Bn}
theorem sI {R:It->Hp->Prop}{E:Ac->Ah->Prop}{lo hi:Ag}{t u v:Qk}{tk:Af}(I:Inv X pins σ H s)(h1 : -(2 ^ 62)<=lo)(h2:lo<2 ^ 62)(h3 : -(2 ^ 62)<=hi)(h4:hi<2 ^ 62)
  (q:R (Itr lo (hi-lo).toNat) H):Av (Ba X.prog X.w) X.A (Pg (.ref s.heap.objs.size)) (PIE X pins σ tg R) E { s with heap:=s.heap.push { cls:=.type "range",data:=.fields #[.int lo t,.int hi u,.int 1 v] },toks:=tk }:=by
 refine wpAny_pyIter_range (IsRange.new ..) (small_one h1 h2 h3 h4) ?_;have I1:Inv X pins σ H { s with heap:=s.heap.push { cls:=.type "range",data:=.fields #[.int lo t,.int hi u,.int 1 v] },toks:=tk }:=I.kept λb o e=>Aj _ e
 refine⟨(s.heap.push { cls:=.type "range",data:=.fields #[.int lo t,.int hi u,.int 1 v] }).objs.size,[(s.heap.push { cls:=.type "range",data:=.fields #[.int lo t,.int hi u,.int 1 v] }).objs.size],_,_,H,rfl,
  I1.kept (t':=tk) λb o e=>Aj _ e,aW _ lo (hi-lo).toNat,?_,λb hb=>?_,q⟩
 .have e1:lo+((0:Af):Ag)*1=lo:=by simp
  have e2:(((hi-lo).toNat:Af):Ag)-((0:Af):Ag)=Ye lo hi 1:=by rw[rangeSize_one];split <;> omega
  show IsRangeIter _ _ (lo+((0:Af):Ag)*1) ((((hi-lo).toNat:Af):Ag)-((0:Af):Ag)) 1;rw[e1,e2];exact Be _ rfl
 .have e:b=(s.heap.push { cls:=.type "range",data:=.fields #[.int lo t,.int hi u,.int 1 v] }).objs.size:=by simpa using hb
  subst e;exact I1.fpOk (Ax _) (I1.hok.fresh (Ax _))
def HW (wi:TI)(g:TG)(tb:TS):TS:=λD σ H=>wi σ H λJ H1=>∃ W:Af->Af->St->Hp->Prop,(∃ m,W 0 m σ H1)/\∀ i m σ H,W i m σ H ->
 (J.stop i H/\D.nx σ H)\/(J.go i H/\∃ N:St->Hp->Prop,(∀ σ' H',N σ' H'->∃ m',m'<m/\W (i+1) m' σ' H')/\∀ x H',J.yld i H x H'->g x σ H' λσ2 H2=>tb { D with nx:=N,ct:=N,bk:=D.nx } σ2 H2)
noncomputable def yZ (fp:Aa Ad)(h:Bs):Aa (Ad × Cg):=fp.filterMap λb=>(h.get? b).map λo=>(b,o)
theorem u9 {h:Bs}{b:Ad}{o:Cg}(hb:b∈fp)(e:h.get? b=Ab o):(b,o)∈yZ fp h:=Lh.mpr ⟨b,hb,by rw[e];rfl⟩
theorem nV {h:Bs}{p:Ad × Cg}(hp:p∈yZ fp h):p.1∈fp/\h.get? p.1=Ab p.2:=by
 obtain⟨b,hb,e⟩:=Lh.mp hp;cases q:h.get? b with
 |none=>rw[q] at e;cases e
 |some o =>
  rw[q] at e;have e':(b,o)=p:=Cj e;subst e';exact⟨hb,q⟩
theorem Inv.pinned (I:Inv X pins σ H s)(hf:∀ b∈fp,x8 X pins H b)(ho:∀ b∈fp,∃ o,s.heap.get? b=Ab o/\∀ v,o.data≠.cell v):Inv X (pins++yZ fp s.heap) σ H s:=
 I.pins_of λp hp=>(Cs.mp hp).elim (λz=>I.pin p (Bx _ z)) λz=>by
  obtain⟨hb,e⟩:=nV z;obtain⟨f0,f1,f2,_⟩:=hf p.1 hb;obtain⟨o,e',d⟩:=ho p.1 hb;rw[e] at e';cases e';exact⟨e,f0,f1,f2,d⟩
theorem Inv.unpinned {pl:Aa (Ad × Cg)}(I:Inv X (pins++pl) σ H s):Inv X pins σ H s:=I.pins_of λp hp=>I.pin p (Bx _ (Dr _ hp))
inductive ForI (X:Cx)(pins:Aa (Ad × Cg))(fp:Aa Ad)(tn:Af->Bs->Prop)(W:Af->Af->St->Hp->Prop)(n:Af)(s':Ah):Prop
 |mk (i:Af) (σ' : St) (H':Hp) (I:Inv X pins σ' H' s') (t:tn i s'.heap) (f:∀ b∈fp,H' b=none) (w:W i n σ' H'):ForI X pins fp tn W n s'
theorem Q0 {iter:Bn}{body:Aa Fb}{wi:TI}{g:TG}{tb:TS}{pos:Eg}(hp:Nj (Ba X.prog X.w) X.A X.env X.xe)(hc:X.calm=true)(hi:PI X tg iter wi)(hg:PG X tg g)(hb:PSs X body tb)
  (hs:∀ x,Fj iter X.env x=pure x:=by intro _;rfl):PS X (.For tg iter body [] pos) (HW wi g tb):=by
 intro pins s σ H D I h;refine wpAny_For (thn (hi pins s σ H _ I h) λv s1 h1=>thn h1 λitv s2 h2=>?_) hs;obtain⟨it,fp,tn,J,H2,e,I2,T,st2,f2,W,⟨m0,w0⟩,turn⟩:=h2;subst e;have stat:∀ {H':Hp},(∀ b∈fp,H' b=none)->∀ b∈fp,x8 X pins H' b:=λhn b hb=>⟨hn b hb,(f2 b hb).2⟩;refine codeAny_forLoop_any (ForI X pins fp tn W) ?_ m0 ⟨0,σ,H2,I2,st2,λb hb=>(f2 b hb).1,w0⟩;rintro n s3 ⟨i,σ3,H3,I3,st3,fr3,w3⟩;rcases turn i n σ3 H3 w3 with⟨stop,qn⟩|⟨go,N,hN,step⟩
 .refine Ih hp (thn (T.done X rfl rfl rfl hc i pins s3 σ3 H3 X.xe I3 (stat fr3) st3 stop) λr s4 ⟨hr,I4⟩=>?_)
  subst hr;exact Ni ⟨σ3,H3,I4,qn⟩
 .refine Ih hp (thn (T.item X rfl rfl rfl hc i pins s3 σ3 H3 X.xe I3 (stat fr3) st3 go) λr s4 ⟨u,hr,h4⟩=>?_)
  subst hr;refine Ih hp (thn h4 λ_ s5 ⟨x,H5,I5,r5,y5,st5,fr5⟩=>?_);have I5':=I5.pinned (stat fr5) (T.obj _ _ st5);refine Ih hp (thn (hg _ s5 σ3 H5 x u _ I5' r5 (step x H5 y5)) λ_ s6 ⟨σ6,H6,I6,q6⟩=>?_);refine Ih hp (thn (hb _ s6 σ6 H6 _ I6 q6) λf s7 q7=>?_);have again:∀ {σ7:St} {H7:Hp},Inv X (pins++yZ fp s5.heap) σ7 H7 s7->N σ7 H7->∃ m,m<n/\ForI X pins fp tn W m s7:=λ{σ7 H7} I7 n7=>by
   obtain⟨m',hm,w7⟩:=hN σ7 H7 n7;refine⟨m',hm,i+1,σ7,H7,I7.unpinned,T.keep _ _ _ st5 λb hb o e=>(I7.pin (b,o) (Bx _ (Bx _ (u9 hb e)))).1,λb hb=>?_,w7⟩;obtain⟨o,e,d⟩:=T.obj _ _ st5 b hb;exact(I7.pin (b,o) (Bx _ (Bx _ (u9 hb e)))).2.1
  cases f with
  |next=>obtain⟨σ7,H7,I7,n7⟩:=q7;exact again I7 n7
  |cont=>obtain⟨σ7,H7,I7,n7⟩:=q7;exact again I7 n7
  |brk=>obtain⟨σ7,H7,I7,q7⟩:=q7;exact⟨σ7,H7,I7.unpinned,q7⟩
  |ret v=>obtain⟨x7,σ7,H7,I7,r7,q7⟩:=q7;exact⟨x7,σ7,H7,I7.unpinned,r7,q7⟩
end
end _L
namespace _L
open PySem PySem.Spec PyProof.Rows
variable {us:Aa Ac}{f:Ac->Ac->Ke Ac}{g:Ag->Ag->Ag}
abbrev R2:=V->V->Hp->VK->Prop
def OpR (X:Cx)(f:Ac->Ac->Ke Ac)(r:R2):Prop:=
 ∀ (pins:Aa (Ad × Cg)) (s:Ah) (σ : St) (H:Hp) (x y:V) (v u:Ac) (Q:VK),Inv X pins σ H s->qF x v->qF y u->r x y H Q ->
  Av (Ba X.prog X.w) X.A (f v u) (EP X pins σ Q) X.xe s
def kE (X:Cx)(f:Ac)(r:Aa V->Hp->VK->Prop):Prop:=
 ∀ (pins:Aa (Ad × Cg)) (s:Ah) (σ : St) (H:Hp) (xs:Aa V) (us:Aa Ac) (Q:VK),Inv X pins σ H s->qH xs us->r xs H Q ->
  Av (Ba X.prog X.w) X.A (call f us) (EP X pins σ Q) X.xe s
def EK (X:Cx)(r:V->Hp->(Ap->Hp->Prop)->Prop):Prop:=
 ∀ (pins:Aa (Ad × Cg)) (s:Ah) (σ : St) (H:Hp) (x:V) (v:Ac) (Q:Ap->Hp->Prop),Inv X pins σ H s->qF x v->r x H Q ->
  Av (Ba X.prog X.w) X.A (truthy v) (TP X pins σ Q) X.xe s
def tOp (r:R2)(ta tb:TE):TE:=λσ H Q=>ta σ H λx H1=>tb σ H1 λy H2=>r x y H2 Q
def rI (C:Ag->Ag->Prop)(g:Ag->Ag->V):R2:=λx y H Q=>∃ i j,x=.int i/\y=.int j/\C i j/\Q (g i j) H
def rI0 (g:Ag->Ag->V):R2:=λx y H Q=>∃ i j,x=.int i/\y=.int j/\Q (g i j) H
section
variable {X:Cx}{a b c:Bn}{ta tb tc:TE}{pos:Eg}
theorem EO (ha:PE X a ta)(hb:PE X b tb){pins:Aa (Ad × Cg)}{s:Ah}{σ : St}{H:Hp}{R:V->V->Hp->Prop}(I:Inv X pins σ H s)
  (h:ta σ H λx H1=>tb σ H1 λy H2=>R x y H2) {Q:Ac->Ah->Prop} {f:Ac->Ac->Ke Ac}
  (hf:∀ v u s2 x y H2,Inv X pins σ H2 s2->qF x v->qF y u->R x y H2->Av (Ba X.prog X.w) X.A (f v u) Q X.xe s2) :
  Av (Ba X.prog X.w) X.A (eval a X.env) (λv s₁=>Av (Ba X.prog X.w) X.A (eval b X.env) (λu s₂=>Av (Ba X.prog X.w) X.A (f v u) Q X.xe s₂) X.xe s₁) X.xe s:=by
 refine thn (ha pins s σ H _ I h) λv s1 ⟨x,H1,I1,r1,q1⟩=>?_;refine thn (hb pins s1 σ H1 _ I1 q1) λu s2 ⟨y,H2,I2,r2,q2⟩=>?_;exact hf v u s2 x y H2 I2 r1 r2 q2
theorem opI {f:Ac->Ac->Ke Ac}{C:Ag->Ag->Prop}
  (rule:∀ (i j:Ag) (t u:Qk) (s:Ah) (Q:Ac->Ah->Prop) (E:Ac->Ah->Prop),C i j->Q (.int (g i j) s.toks) { s with toks:=s.toks+1 } -> Av (Ba X.prog X.w) X.A (f (.int i t) (.int j u)) Q E s) :
  OpR X f (rI C λi j=>.int (g i j)):=by
 intro pins s σ H x y v u Q I rx ry h;obtain⟨i,j,rfl,rfl,hc,q⟩:=h;obtain⟨t,rfl⟩:=rx;obtain⟨t',rfl⟩:=ry;exact rule i j t t' s _ _ hc ⟨.int (g i j),H,I.tok _,⟨_,rfl⟩,q⟩
theorem MZ {f:Ac->Ac->Ke Ac}
  (rule:∀ (i j:Ag) (t u:Qk) (s:Ah) (Q:Ac->Ah->Prop) (E:Ac->Ah->Prop),Q (.int (g i j) s.toks) { s with toks:=s.toks+1 } -> Av (Ba X.prog X.w) X.A (f (.int i t) (.int j u)) Q E s) :
  OpR X f (rI0 λi j=>.int (g i j)):=by
 intro pins s σ H x y v u Q I rx ry h;obtain⟨i,j,rfl,rfl,q⟩:=h;obtain⟨t,rfl⟩:=rx;obtain⟨t',rfl⟩:=ry;exact rule i j t t' s _ _ ⟨.int (g i j),H,I.tok _,⟨_,rfl⟩,q⟩
theorem aE {g:Ag->Ag->Ap}
  (rule:∀ (i j:Ag) (t u:Qk) (s:Ah) (Q:Ac->Ah->Prop) (E:Ac->Ah->Prop),Q (.bool (g i j)) s->Av (Ba X.prog X.w) X.A (f (.int i t) (.int j u)) Q E s) :
  OpR X f (rI0 λi j=>.bl (g i j)):=by
 intro pins s σ H x y v u Q I rx ry h;obtain⟨i,j,rfl,rfl,q⟩:=h;obtain⟨t,rfl⟩:=rx;obtain⟨t',rfl⟩:=ry;exact rule i j t t' s _ _ ⟨.bl (g i j),H,I,rfl,q⟩
def EE (i j:Ag):Prop:=0<j/\j<1073741824
def PQ (i j:Ag):Prop:=0<=j/\j<=1000000/\i.natAbs<2 ^ 64
def c9 (i j:Ag):Prop:=(-(2 ^ 64)<i/\i<2 ^ 64)\/(-(2 ^ 64)<j/\j<2 ^ 64)
theorem c9.ok {i j:Ag}(h:c9 i j):IntMulOk i j:=by
 rcases h with⟨h1,h2⟩|⟨h1,h2⟩
 .exact .of_left (intBits_le_64 h1 h2)
 .exact .of_right (intBits_le_64 h1 h2)
theorem T1:OpR X (Dp .Add) (rI0 λi j=>.int (i+j)):=MZ λ_ _ _ _ _ _ _ q=>add_int q
theorem TB:OpR X (Dp .Sub) (rI0 λi j=>.int (i-j)):=MZ λ_ _ _ _ _ _ _ q=>sub_int q
theorem T6:OpR X (Dp .Mult) (rI c9 λi j=>.int (i*j)):=opI λ_ _ _ _ _ _ _ hc q=>mul_int q hc.ok
theorem KA:OpR X (Dp .FloorDiv) (rI EE λi j=>.int (i/j)):=opI λi j _ _ _ _ _ hc q=>by
 have h1:(0:Ag)<j:=hc.1;have h2:j<1073741824:=hc.2;exact floordiv_int om (by rw[Ox i om];exact q) (.inl (Qn om))
theorem T4:OpR X (Dp .Mod) (rI (λ_ j=>0<j) λi j=>.int (i % j)):=opI λi j _ _ _ _ _ hc q=>by
 have h1:(0:Ag)<j:=hc;exact mod_int' om (by rw[Int.fmod_eq_emod_of_nonneg i om];exact q)
theorem T7:OpR X (Dp .Pow) (rI PQ λi j=>.int (i ^ j.toNat)):=opI λ_ _ _ _ _ _ _ hc q=>pow_int_small hc.1 hc.2.1 hc.2.2 q
theorem T9:OpR X (Dp .LShift) (rI PQ λi j=>.int (i*2 ^ j.toNat)):=opI λ_ _ _ _ _ _ _ hc q=>lshift_int_small hc.1 hc.2.1 hc.2.2 q
end
section
variable {X:Cx}{a b c:Bn}{ta tb tc:TE}{pos:Eg}
theorem iV {pins:Aa (Ad × Cg)}{σ:St}{H:Hp}{s:Ah}{Q:VK}{k k':Ap}(I:Inv X pins σ H s)(q:Q (.bl k) H)(e:k=k'):EP X pins σ Q (.bool k') s:=by
 subst e;exact⟨.bl k,H,I,rfl,q⟩
theorem SZ:OpR X (Ch .Lt) (rI0 λi j=>.bl (decide (i<j))):=aE λ_ _ _ _ _ _ _ q=>lt_int q
theorem SY:OpR X (Ch .LtE) (rI0 λi j=>.bl (decide (i<=j))):=aE λ_ _ _ _ _ _ _ q=>le_int q
theorem SX:OpR X (Ch .Gt) (rI0 λi j=>.bl (decide (j<i))):=aE λ_ _ _ _ _ _ _ q=>gt_int q
theorem SW:OpR X (Ch .GtE) (rI0 λi j=>.bl (decide (j<=i))):=aE λ_ _ _ _ _ _ _ q=>ge_int q
theorem T3:OpR X (Ch .Is) (λx y H Q=>y=.non/\Q (.bl (decide (x=.non))) H):=by
 intro pins s σ H x y v u Q I rx ry h;obtain⟨rfl,q⟩:=h;cases ry;refine is_none_gen (iV I q ?_);cases x <;> first
  |(cases rx;rfl)
  |(obtain⟨t,rfl⟩:=rx;rfl)
theorem KB:OpR X (Ch .IsNot) (λx y H Q=>y=.non/\Q (.bl (!decide (x=.non))) H):=by
 intro pins s σ H x y v u Q I rx ry h;obtain⟨rfl,q⟩:=h;cases ry;refine isnot_none_gen (iV I q ?_);cases x <;> first
  |(cases rx;rfl)
  |(obtain⟨t,rfl⟩:=rx;rfl)
theorem OpR.or {r r':R2}(h:OpR X f r)(h':OpR X f r'):OpR X f (λx y H Q=>r x y H Q\/r' x y H Q):=by
 intro pins s σ H x y v u Q I rx ry q;rcases q with q|q
 .exact h pins s σ H x y v u Q I rx ry q
 .exact h' pins s σ H x y v u Q I rx ry q
theorem pA (b:Bn){op:Sm}(h:op≠.In:=by decide)(h2:op≠.NotIn:=by decide):Kk op b=false:=by
 have e1:(op == CmpOp.In)=false:=by cases op <;> first|rfl|exact absurd rfl h
 have e2:(op == CmpOp.NotIn)=false:=by cases op <;> first|rfl|exact absurd rfl h2
 cases b <;> simp[Kk,e1,e2]
def cG (K:Ak)(x:V)(H:Hp)(k:Ap):Prop:=
 match x with
 |.non=>k=false
 |.bl b=>k=b
 |.int i=>k=(i != 0)
 |.str y=>y.length<=sizeLine/\k=((y.length:Ag) != 0)
 |.byt y=>y.size<=sizeLine/\k=((y.size:Ag) != 0)
 |.ref p=>(∃ xs,SqL K H p xs/\k=!xs.isEmpty)\/(∃ xs,SqT K H p xs/\k=!xs.isEmpty)\/∃ kvs,H p=Ab (.dK kvs)/\k=!kvs.isEmpty
 |_=>Ez
theorem cS {κ:Type}{kvs:Aa (κ × V)}{vs:Aa (κ × Ac)}(r:KV kvs vs):(!vs.isEmpty)=!kvs.isEmpty:=by
 cases r <;> rfl
theorem fT {xs:Aa V}{its:Aa Ac}(r:qH xs its):(!its.toArray.isEmpty)=!xs.isEmpty:=by
 cases r <;> simp
theorem jU:(sizeLine:Af)<2 ^ 63:=by rw[Fu];decide
theorem pI:EK X (λx H Q=>∃ k,cG X.K x H k/\Q k H):=by
 intro pins s σ H x v Q I rx h;obtain⟨k,e,q⟩:=h;have hl:=jU;have hs:sizeLine=16777216:=Fu;cases x with
 |non =>
  cases rx;have e':k=false:=e;subst e';exact truthy_none ⟨H,I,q⟩
 |bl b =>
  cases rx;have e':k=b:=e;subst e';exact OI ⟨H,I,q⟩
 |int i =>
  obtain⟨t,rfl⟩:=rx;have e':k=(i != 0):=e;subst e';exact PySem.P.truthy_int ⟨H,I,q⟩
 |str y =>
  obtain⟨t,rfl⟩:=rx;obtain⟨hy,e'⟩:y.length<=sizeLine/\k=((y.length:Ag) != 0):=e;subst e';exact PySem.P.truthy_str om ⟨H,I.tok _,q⟩
 |byt y =>
  obtain⟨t,rfl⟩:=rx;obtain⟨hy,e'⟩:y.size<=sizeLine/\k=((y.size:Ag) != 0):=e;subst e';exact PySem.W.truthy_bytes om ⟨H,I.tok _,q⟩
 |ref p =>
  cases rx;have e':(∃ xs,SqL X.K H p xs/\k=!xs.isEmpty)\/(∃ xs,SqT X.K H p xs/\k=!xs.isEmpty)\/∃ kvs,H p=Ab (.dK kvs)/\k=!kvs.isEmpty:=e;rcases e' with⟨xs,hx,e'⟩|⟨xs,hx,e'⟩|⟨kvs,hx,e'⟩
  .subst e'
   obtain⟨its,r,pl,hz⟩:=I.list hx;have hlen:=r.length;exact wpAny_truthy_list pl.isList (by simp only[Bh];omega) ⟨H,I.tok _,by rw[fT r];exact q⟩
  .subst e'
   obtain⟨its,r,pl,hz⟩:=I.tuple hx;have hlen:=r.length;exact truthy_tuple pl (by simp only[Bh];omega) ⟨H,I.tok _,by rw[fT r];exact q⟩
  .subst e'
   obtain⟨hz,hS,vs,r,m⟩:kvs.length<=sizeLine/\(p == Hn)=false/\∃ vs,KV kvs vs/\s.heap.DictOf (qZ X.prog X.w) p vs:=I.hok p _ hx;have hlen:kvs.length=vs.length:=Paired.length r;exact wpAny_truthy_dict hS m om ⟨H,I.tok _,by rw[cS r];exact q⟩
 |_=>exact(show Ez from e).elim
theorem aF:OpR X (Dp .Add) (λx y H Q=>∃ i j,x=.str i/\y=.str j/\i.length+j.length<=sizeLine/\Q (.str (i++j)) H):=by
 intro pins s σ H x y v u Q I rx ry h;obtain⟨i,j,rfl,rfl,hz,q⟩:=h;obtain⟨t,rfl⟩:=rx;obtain⟨t',rfl⟩:=ry;exact add_str (λt' tk=>⟨.str (i++j),H,I.tok _,⟨_,rfl⟩,q⟩) hz
theorem gH {x:V}(r:qH [x] us):∃ u,us=[u]/\qF x u:=by
 cases r with
 |cons r1 r2=>cases r2;exact⟨_,rfl,r1⟩
theorem aZ {x y:V}(r:qH [x,y] us):∃ u w',us=[u,w']/\qF x u/\qF y w':=by
 cases r with
 |cons r1 r2 =>
  cases r2 with
  |cons r3 r4=>cases r4;exact⟨_,_,rfl,r1,r3⟩
theorem nD:kE X (.type "int") (λxs H Q=>(∃ i,xs=[.int i]/\Q (.int i) H)\/∃ k,xs=[.bl k]/\Q (.int (if k then 1 else 0)) H):=by
 intro pins s σ H xs us Q I r h;rcases h with⟨i,rfl,q⟩|⟨k,rfl,q⟩
 .obtain⟨u,rfl,t,rfl⟩:=gH r
  exact call_int_int ⟨.int i,H,I,⟨_,rfl⟩,q⟩
 .obtain⟨u,rfl,r1⟩:=gH r
  cases r1;exact call_int_bool ⟨.int (if k then 1 else 0),H,I.tok _,⟨_,rfl⟩,q⟩
def PR (K:Ak)(x:V)(H:Hp)(n:Af):Prop:=
 match x with
 |.str y=>y.length<=sizeLine/\n=y.length
 |.byt y=>y.size<=sizeLine/\n=y.size
 |.ref p=>(∃ xs,SqL K H p xs/\n=xs.length)\/∃ xs,SqT K H p xs/\n=xs.length
 |_=>Ez
theorem ZM:kE X (.builtin "len") (λxs H Q=>∃ x n,xs=[x]/\PR X.K x H n/\Q (.int n) H):=by
 intro pins s σ H xs us Q I r h;obtain⟨x,n,rfl,e,q⟩:=h;obtain⟨u,rfl,rx⟩:=gH r;have hl:=jU;have hs:sizeLine=16777216:=Fu;cases x with
 |str y =>
  obtain⟨t,rfl⟩:=rx;obtain⟨hy,e'⟩:y.length<=sizeLine/\n=y.length:=e;subst e';exact len_str om ⟨.int _,H,I.tok _,⟨_,rfl⟩,q⟩
 |byt y =>
  obtain⟨t,rfl⟩:=rx;obtain⟨hy,e'⟩:y.size<=sizeLine/\n=y.size:=e;subst e';exact PySem.W.len_bytes om ⟨.int _,H,I.tok _,⟨_,rfl⟩,q⟩
 |ref p =>
  cases rx;have e':(∃ xs,SqL X.K H p xs/\n=xs.length)\/∃ xs,SqT X.K H p xs/\n=xs.length:=e;rcases e' with⟨xs,hx,e'⟩|⟨xs,hx,e'⟩
  .subst e'
   obtain⟨its,r',pl,hz⟩:=I.list hx;have hlen:=r'.length;exact Calls.call_len_list pl.isList (by simp only[Bh];omega) ⟨.int xs.length,H,I.tok _,⟨_,by simp only[Bh];rw[hlen]⟩,q⟩
  .subst e'
   obtain⟨its,r',pl,hz⟩:=I.tuple hx;have hlen:=r'.length;exact len_tuple pl (by simp only[Bh];omega) ⟨.int xs.length,H,I.tok _,⟨_,by simp only[Bh];rw[hlen]⟩,q⟩
 |_=>exact(show Ez from e).elim
end
end _L
namespace _L
open PySem PySem.Spec PyProof.Rows
variable {mA:Ao->Al Ac}
structure ObjM (h:Bs)(x dx C:Ad)(mA:Ao->Al Ac):Prop where
 obj:h.get? x=Ab (Ql C dx)
 ns:h.Ns1 dx mA
 ne:dx≠x
set_option tactic.hygienic true in
theorem oC {h:Bs}{dx:Ad}(n:h.Ns1 dx mA):∃ od,h.get? dx=Ab od/\∀ name,Rv name od=Ab (mA name):=by
 obtain⟨o,es,ep,ho,hd,hk,_,hm⟩:=n;refine⟨o,ho,λname=>?_⟩;have e:=hm name;unfold nsFind findBy at e;rw[<- Array.find?_toList] at e;unfold Rv;rw[hd];dsimp only
 split
 .rename_i y q
  rw[q] at e;exact congrArg Ab e
 .rename_i q
  rw[q] at e;have a:es.toList.any (·.refKey)=false:=by
   rw[List.any_eq_false];intro y hy;obtain⟨z,t,hkey⟩:=hk y (Array.mem_toList_iff.mp hy);simp[DictEntry.refKey,hkey]
  have a':¬ es.toList.any (·.refKey)=true:=by rw[a];exact IN
  rw[Aw a'];exact congrArg Ab e
theorem ObjM.look {h:Bs}{x dx C:Ad}(I:ObjM h x dx C mA):∃ od,PySem.W.InstAt h x (Ql C dx) C (Ab od)/\∀ name,Rv name od=Ab (mA name):=
 let ⟨od,ho,hl⟩:=oC I.ns
 ⟨od,⟨I.obj,rfl,rfl,ho⟩,hl⟩
section
variable {P:Bi}{w:Ca}{H H':Hp}{h h':Bs}{a C dx:Ad}{fs fs':Aa (Ao × V)}
theorem J8 (hok:HOk P w H h)(e:H a=Ab (.ins C dx fs)):∃ mA,ObjM h a dx C mA/\(∀ f,kG (fs.lookup f) (mA f))/\Yd mA (fs.map (·.1))/\fs.length<=1000/\H dx=Ab (.own a):=by
 obtain⟨d,z,ne,ob,mA,n,r,q⟩:=(show zE P w H h a (.ins C dx fs) from hok a _ e)
 exact⟨mA,⟨ob,n,ne⟩,r,q,z,d⟩
end
structure Cls (K:Ak)(C:Ad):Prop where
 pg:Vj K C Xq=true
 hd:PySem.W.hasDictIn K C=true
 po:PySem.W.plainOver K C=true
 sa:Lw K (.ref C) "__setattr__" = Ab (Ab (.builtin "object.__setattr__"))
theorem Cls.get {K:Ak}{C:Ad}(c:Cls K C)(f:Ao):Vj K C f=true:=c.pg
section
variable {X:Cx}{pins:Aa (Ad × Cg)}{σ : St}{H:Hp}{s:Ah}{A:Br}{E:Ac->Ah->Prop}{Q:Ac->Ah->Prop}{c:Ac}{b:Ap}
inductive TyOf (K:Ak)(H:Hp):V->Ac->Prop where
 |non:TyOf K H .non (.type "NoneType")
 |bl (x:Ap):TyOf K H (.bl x) (.type "bool")
 |int (i:Ag):TyOf K H (.int i) (.type "int")
 |str (x:Ao):TyOf K H (.str x) (.type "str")
 |flt (x:UInt64):TyOf K H (.flt x) (.type "float")
 |lst {a:Ad} {xs:Aa V} (e:H a=Ab (.lst xs)):TyOf K H (.ref a) (.type "list")
 |frz {a:Ad} {o:Cg} {xs:Aa V} (e:H a=Ab (.frz o (.lst xs))):TyOf K H (.ref a) (.type "list")
 |tup {a:Ad} {xs:Aa V} (e:H a=Ab (.tup xs)):TyOf K H (.ref a) (.type "tuple")
 |dK {a:Ad} {kvs:Aa (Key × V)} (e:H a=Ab (.dK kvs)):TyOf K H (.ref a) (.type "dict")
 |dT {a:Ad} {kvs:Aa (Aa Key × V)} (e:H a=Ab (.dT kvs)):TyOf K H (.ref a) (.type "dict")
 |ins {a C dx:Ad} {fs:Aa (Ao × V)} (e:H a=Ab (.ins C dx fs)) (cl:Cls K C) (ha:Lw K (.ref C) "__class__" = Ab (Ab (.builtin "object.__class__")))
   (hn:Ur K (.builtin "object.__class__") "__get__" = Ab (Ab (.builtin "getset_descriptor.__get__"))) (htk:Wg K (.builtin "object.__class__")=Ab true)
   (hm:Sn K C (.type "object")=Ab true):TyOf K H (.ref a) (.ref C)
theorem o3 {x:V}{u t:Ac}(I:Inv X pins σ H s)(rx:qF x u)(ty:TyOf X.K H x t)(e:Jr X.K t c=Ab b)(h:∀ tk,Q (.bool b) { s with toks:=tk }) :
  Av (Ba X.prog X.w) A (call (.builtin "isinstance") [u,c]) Q E s:=by
 cases ty with
 |non=>cases (show u=Df from rx);exact Ej PySem.W.kitx_none I.kIn Ib e (λz=>nomatch z) h
 |bl y=>cases (show u=HT y from rx);exact Ej PySem.W.kitx_bool I.kIn Ib e (λz=>nomatch z) h
 |int i=>obtain⟨t,q⟩:=(show ∃ t,u=OE i t from rx);cases q;exact Ej PySem.W.kitx_int I.kIn Ib e (λz=>nomatch z) h
 |str y=>obtain⟨t,q⟩:=(show ∃ t,u=Um y t from rx);cases q;exact Ej PySem.W.kitx_str I.kIn Ib e (λz=>nomatch z) h
 |flt y=>obtain⟨t,q⟩:=(show ∃ t,u=Yu y t from rx);cases q;exact Ej PySem.W.kitx_float I.kIn Ib e (λz=>nomatch z) h
 |@lst a xs ea =>
  cases (show u=Cf a from rx)
  obtain⟨_,_,n,_,h1⟩:=(show zE X.prog X.w H s.heap a (.lst xs) from I.hok a _ ea)
  exact Ej OJ I.kIn ⟨_,h1,rfl⟩ e (λz=>nomatch z) h
 |@frz a ob xs ea =>
  cases (show u=Cf a from rx)
  obtain⟨_,_,_,n,_,h1⟩:=(show zE X.prog X.w H s.heap a (.frz ob (.lst xs)) from I.hok a _ ea)
  exact Ej OJ I.kIn ⟨_,h1,rfl⟩ e (λz=>nomatch z) h
 |@tup a xs ea =>
  cases (show u=Cf a from rx)
  obtain⟨_,_,_,p⟩:=(show zE X.prog X.w H s.heap a (.tup xs) from I.hok a _ ea)
  obtain⟨o,h1,h2,_⟩:=p;exact Ej Ts I.kIn ⟨o,h1,h2⟩ e (λz=>nomatch z) h
 |@dK a kvs ea =>
  cases (show u=Cf a from rx)
  obtain⟨_,_,vs,_,p⟩:=(show zE X.prog X.w H s.heap a (.dK kvs) from I.hok a _ ea)
  obtain⟨o,es,ep,h1,h2,_⟩:=p;exact Ej Us I.kIn ⟨o,h1,h2.1⟩ e (λz=>nomatch z) h
 |@dT a kvs ea =>
  cases (show u=Cf a from rx)
  obtain⟨_,_,xs,_,o,es,ep,h1,h2,_⟩:=(show zE X.prog X.w H s.heap a (.dT kvs) from I.hok a _ ea)
  exact Ej Us I.kIn ⟨o,h1,h2.1⟩ e (λz=>nomatch z) h
 |@ins a C dx fs ea cl ha hn htk hm =>
  cases (show u=Cf a from rx)
  obtain⟨mA,O,_⟩:=J8 I.hok ea;obtain⟨od,J,_⟩:=O.look;exact Ej (PySem.W.kitx_own (cl.get _) cl.hd ha hn htk hm) I.kIn J e (λz=>nomatch z) h
end
end _L
namespace _L
open PySem PySem.Spec PyProof.Rows
variable {ps:Aa Ao}{f:Ad}{K:Ak}{mg:Ao->Al Ac}{kindOf:Ao->Al Gx}{P:Bi}{A:Br}{w:Ca}{scope:Do}
structure Room (k:Af)(A:Br):Prop where
 hd:A.handled=none
 dp:A.depth+3*k+5<Lx
 un:A.units+16*k+200<Ev
 gd:A.guards=Ab []
theorem Room.mono {j k:Af}(r:Room k A)(h:j<=k):Room j A:=⟨r.hd,by have:=r.dp;omega,by have:=r.un;omega,r.gd⟩
theorem Room.deeper {k:Af}(r:Room (k+1) A)(env:Iw):Room k (A.deeper env):=
 ⟨r.hd,by have:=r.dp;show A.depth+1+3*k+5<_;omega,by have:=r.un;show A.units+3+16*k+200<_;omega,r.gd⟩
theorem Room.depth {k:Af}(r:Room k A):A.depth<Lx:=by have:=r.dp;omega
theorem Room.units {k:Af}(r:Room k A):A.units+64<Ev:=by have:=r.un;omega
def HZ:TA:=λ_ H Q=>Q [] H
section
variable {X:Cx}{e:Bn}{es:Aa Bn}{te:TE}{t:TA}{pos:Eg}
theorem TC:PA X [] HZ:=λ_ _ _ _ H Q I h=>OK ⟨[],H,I,.nil,h⟩
def C5 (t:TA):TE:=λσ H Q=>t σ H λxs H1=>xs.length<=sizeLine/\∀ p,H1 p=none->Q (.ref p) (upd H1 p (.tup xs))
def HY (t:TA):TE:=λσ H Q=>t σ H λxs H1=>xs.length<=sizeLine/\∀ p,H1 p=none->Q (.ref p) (upd H1 p (.lst xs))
theorem TL  (h:PA X es t):PE X (.Tuple es x1 pos) (C5 t):=by
 intro pins s σ H Q I hq;refine wpAny_Tuple_spliced (thn (h pos pins s σ H _ I hq) λus s1 ⟨xs,H1,I1,r,z,q⟩=>⟨by rw[<- r.length];exact z,?_⟩)
 have hf:H1 s1.heap.objs.size=none:=I1.hok.fresh (Ax _);refine⟨.ref s1.heap.objs.size,upd H1 s1.heap.objs.size (.tup xs),I1.laid (t':=s1.toks) (λb u e=>Aj _ e) (Ax _) ?_,rfl,q _ hf⟩;exact⟨z,us,r,⟨_,Be _ rfl,rfl,_,rfl⟩⟩
theorem oU (h:PA X es t):PE X (.List es pos) (HY t):=by
 intro pins s σ H Q I hq;refine wpAny_List_spliced (thn (h pos pins s σ H _ I hq) λus s1 ⟨xs,H1,I1,r,z,q⟩=>⟨by rw[<- r.length];exact z,?_⟩)
 have hf:H1 s1.heap.objs.size=none:=I1.hok.fresh (Ax _);refine⟨.ref s1.heap.objs.size,upd H1 s1.heap.objs.size (.lst xs),I1.laid (t':=s1.toks) (λb u e=>Aj _ e) (Ax _) ?_,rfl,q _ hf⟩;exact⟨z,us,0,r,Be _ rfl⟩
end
abbrev Sp:=Aa V->Hp->VK->XK->Prop
abbrev CXT:=Aa Iw->Hp->Ah->XK->Ac->Ah->Prop
variable {CX:CXT}
structure Env0 (P:Bi)(w:Ca)(K:Ak)(mg:Ao->Al Ac)(base:Bs)(A:Br)(outer:Aa Iw)(s:Ah)(H:Hp):Prop where
 frames:A.frames=Ab outer
 mod:Mod K mg base
 bs:∀ b o,base.get? b=Ab o->s.heap.get? b=Ab o/\H b=none
 bsz:base.objs.size<=s.heap.objs.size
 funs:s.heap.FunFrames base outer
 frf:∀ b∈frs outer,H b=none
 hok:HOk P w H s.heap
 bare:Mk s.gens
def CE (outer:Aa Iw)(P:Bi)(w:Ca)(H:Hp)(s:Ah)(Q:VK)(u:Ac)(s':Ah):Prop:=
 ∃ v H',s'.os=s.os/\Mk s'.gens/\Un (frs outer) [] H H' s.heap s'.heap/\HOk P w H' s'.heap/\qF v u/\Q v H'
def CR (CX:CXT)(outer:Aa Iw)(P:Bi)(w:Ca)(H:Hp)(s:Ah)(Q:VK)(E:XK)(r:Xk)(s':Ah):Prop:=
 match r with
 |.ok (.ret u)=>CE outer P w H s Q u s'
 |.ok _=>Ez
 |.error e=>CX outer H s E e s'
structure FnOk (P:Bi)(w:Ca)(K:Ak)(mg:Ao->Al Ac)(base:Bs)(CX:CXT)(k:Af)(f:Ad)(fd:Et)(ps:Aa Ao)(sp:Sp):Prop where
 len:∀ vs H Q E,sp vs H Q E->vs.length=ps.length
 run:∀ (A:Br) (outer:Aa Iw) (s:Ah) (H:Hp) (args:Args) (us:Aa Ac) (vs:Aa V) (Q:VK) (E:XK),Room k A->Env0 P w K mg base A outer s H->Ml s fd args (ps.zip us)->qH vs us->sp vs H Q E ->
  IE (Ba P w) A (.call (.ref f) args) (CR CX outer P w H s Q E) s
theorem FnOk.mono {base:Bs}{j k:Af}{fd:Et}{sp:Sp}(F:FnOk P w K mg base CX j f fd ps sp)(h:j<=k) :
  FnOk P w K mg base CX k f fd ps sp:=⟨F.len,λA outer s H args us vs Q E hr=>F.run A outer s H args us vs Q E (hr.mono h)⟩
section
variable {X:Cx}{pins:Aa (Ad × Cg)}{σ : St}{H:Hp}{s s':Ah}
theorem Inv.env0 (I:Inv X pins σ H s):Env0 X.prog X.w X.K X.mg X.base X.A X.stack s H:=
 ⟨I.ok.frames,I.ok.mod,I.bs,Dd I.ok.bsz I.sz,I.stack,I.stkFree,I.hok,I.bare⟩
theorem Inv.after {Q:VK}{u:Ac}(I:Inv X pins σ H s)(h:CE X.stack X.prog X.w H s Q u s'):EP X pins σ Q u s':=by
 obtain⟨v,H',os,bare,un,hok,r,q⟩:=h;obtain⟨hh,g,d,t,os'⟩:=s';obtain rfl:os'=s.os:=os;exact⟨v,H',I.call (h':=hh) (g':=g) (d':=d) (t':=t) (ch:=[]) un hok bare (λb z=>absurd z (by simp)),r,q⟩
end
def vY (K:Ak)(fd:Et)(ps:Aa Ao)(ds:Aa Ac):Prop:=
 ∀ (s:Ah) (us:Aa Ac),K.In s.heap->(us++ds).length=ps.length->Ml s fd ⟨us,[]⟩ (ps.zip (us++ds))
theorem vY.all {fd:Et}(h:∀ us:Aa Ac,us.length=ps.length->OB fd ⟨us,[]⟩=pure (ps.zip us)):vY K fd ps []:=λs us _ hl=>by
 rw[Gk] at hl ⊢;exact .of_eq (h us hl)
structure FnScope (N P:Aa Ao)(sc:Do):Prop where
 kind:sc.kind=.function
 co:sc.isCoroutine=false
 gen:sc.isGenerator=false
 nd:N.Nodup
 pre:N.take P.length=P
 par:∀ x∈P,sc.names.lookup x=Ab .local \/ sc.names.lookup x=Ab .cell
 nofree:∀ y∈sc.names,y.2≠.free
theorem n9 {x:Ao}:∀ {binds:Aa (Ao × Ac)} {m:Ao->Al Ac},(∀ v,(x,v) ∉ binds)->So kindOf binds m x=m x
 |[],_,_=>rfl
 |(n,v)::r,m,h=>by
  unfold So;rw[n9 λw hw=>h w (Au _ hw)]
  split
  .have:x≠n:=by rintro rfl;exact h v Bv
   simp[this]
  .rfl
theorem tZ {x:Ao}:∀ {binds:Aa (Ao × Ac)} {m:Ao->Al Ac},(∀ v,(x,v) ∉ binds)->Sr kindOf binds m x=m x
 |[],_,_=>rfl
 |(n,v)::r,m,h=>by
  unfold Sr;rw[tZ λw hw=>h w (Au _ hw)]
  split
  .rfl
  .have:x≠n:=by rintro rfl;exact h v Bv
   simp[this]
theorem n6 {x:Ao}{v:Ac}:∀ {P:Aa Ao} {vs:Aa Ac} {i:Af} {m:Ao->Al Ac},P.Nodup->P[i]? = Ab x->vs[i]? = Ab v->kindOf x=Ab .local ->
  So kindOf (P.zip vs) m x=Ab v
 |[],_,_,_,_,h,_,_=>by simp at h
 |_::_,[],_,_,_,_,h,_=>by simp at h
 |p::P,w::vs,0,m,nd,h1,h2,hk=>by
  simp at h1 h2;subst h1;subst h2;show So kindOf ((p,w)::P.zip vs) m p=_;unfold So;rw[n9 λv hv=>(Co.mp nd).1 (Nl hv).1,Bc hk];simp
 |p::P,w::vs,i+1,m,nd,h1,h2,hk=>by
  show So kindOf ((p,w)::P.zip vs) m x=_;unfold So;exact n6 (i:=i) (Co.mp nd).2 (by simpa using h1) (by simpa using h2) hk
theorem tY {x:Ao}{v:Ac}:∀ {P:Aa Ao} {vs:Aa Ac} {i:Af} {m:Ao->Al Ac},P.Nodup->P[i]? = Ab x->vs[i]? = Ab v->kindOf x≠Ab .local ->
  Sr kindOf (P.zip vs) m x=Ab v
 |[],_,_,_,_,h,_,_=>by simp at h
 |_::_,[],_,_,_,_,h,_=>by simp at h
 |p::P,w::vs,0,m,nd,h1,h2,hk=>by
  simp at h1 h2;subst h1;subst h2;show Sr kindOf ((p,w)::P.zip vs) m p=_;unfold Sr;rw[tZ λv hv=>(Co.mp nd).1 (Nl hv).1,Aw hk];simp
 |p::P,w::vs,i+1,m,nd,h1,h2,hk=>by
  show Sr kindOf ((p,w)::P.zip vs) m x=_;unfold Sr;exact tY (i:=i) (Co.mp nd).2 (by simpa using h1) (by simpa using h2) hk
noncomputable def xK (N:Aa Ao)(vs:Aa V):St:=vs.map Ab++Xb (N.length-vs.length) none
noncomputable def mM (CX:CXT)(P:Bi)(w:Ca)(K:Ak)(mg:Ao->Al Ac)(base:Bs)(N:Aa Ao)(qual:Ao)(scope:Do)(f:Ad)(cd:Ac)(A:Br)(outer:Aa Iw)(s:Ah)(H:Hp)(E:XK):Cx where
 prog:=P
 w:=w
 K:=K
 mg:=mg
 base:=base
 A:=A.deeper (Gb qual scope s.heap.objs.size f cd)
 N:=N
 s₀:=s
 H₀:=H
 env:=Gb qual scope s.heap.objs.size f cd
 outer:=outer
 stack:=Gb qual scope s.heap.objs.size f cd::outer
 ex:=[]
 calm:=true
 fn:=λ_=>true
 pn:=[]
 xe:=λe s'=>Av (Ba P w) (A.deeper (Gb qual scope s.heap.objs.size f cd)) (leaving (Gb qual scope s.heap.objs.size f cd) e) (λ_ s''=>CX outer H s E e s'') (λe' s''=>CX outer H s E e' s'') s'
theorem lO {sc:Do}{n:Af}{x:Ao}(h:sc.names.lookup x=Ab .cell):∃ c,(Gp n sc.names []).lookup x=Ab c:=by
 have q:=IR sc.names n [] (.inl h);exact Ix.mp q
theorem nN {base:Bs}{N:Aa Ao}{qual:Ao}{cd:Ac}{outer:Aa Iw}{s s1:Ah}{H:Hp}{E:XK}{us:Aa Ac}{vs:Aa V}
  (S:FnScope N ps scope) (hd:A.handled=none) (e0:Env0 P w K mg base A outer s H) (hl:vs.length=ps.length) (r:qH vs us)
  (x:InCallC s s.heap.objs.size (So (Gb qual scope s.heap.objs.size f cd).kindOf (ps.zip us) λ_=>none) (Gp (s.heap.objs.size+1) scope.names []) (Sr (Gb qual scope s.heap.objs.size f cd).kindOf (ps.zip us) λ_=>none) s1) :
  Inv (mM CX P w K mg base N qual scope f cd A outer s H E) [] (xK N vs) H s1:=by
 have hpl:ps.length<=N.length:=by have:=congrArg Oy S.pre;rw[Gq] at this;omega
 obtain⟨h1,tk,rfl,hk⟩:=x.done;have noA:∀ b:Ad,b ∉ (mM CX P w K mg base N qual scope f cd A outer s H E).ex:=λb z=>absurd (show b∈([]:Aa Ad) from z) (by simp)
 refine⟨⟨e0.mod,S.kind,rfl,rfl,Ax _,λy z c h1 h2=>?_,λy hy=>?_,λy c _ h=>?_,λ_=>hd,Rz e0.frames,.inr ⟨rfl,rfl⟩,λb z=>absurd z (noA b),e0.bs,e0.bsz,λb _ _=>noA b,λb z=>absurd z (noA b),e0.funs,e0.frf⟩,
  rfl,e0.bare,Un.kept hk,⟨_,x.toInCall.ns,λi y v h1 h2 h3=>?_⟩,λy c h=>⟨_,x.cell y c h⟩,e0.hok.fresh (Ax _),λy c h=>?_,λp hp=>absurd (show p∈([]:Aa (Ad × Cg)) from hp) (by simp),e0.hok.kept hk,?_⟩
 .exact name_of_addr x.apart (Fk h1) (Fk h2)
 .have hy:scope.names.lookup y=Ab .cell\/scope.names.lookup y=Ab .free:=hy
  rcases hy with hy|hy
  .exact lO hy
  .exact absurd rfl (S.nofree _ (Fk hy))
 .exact Dz (x.above y c (Fk h))
 .have hi:i<vs.length:=by
   unfold xK at h2;by_cases hi:i<vs.length
   .exact hi
   .rw[Dw (by simpa using hi)] at h2
    rw[Ps] at h2
    split at h2 <;> cases h2
  have ha:vs[i]? = Ab v:=by
   unfold xK at h2;rw[Bo (by simpa using hi),Eb] at h2
   cases e:vs[i]? with
   |none=>rw[e] at h2;cases h2
   |some a=>rw[e] at h2;cases h2;rfl
  obtain⟨u,hu,rv⟩:=r.get ha;have hp:ps[i]? = Ab y:=by
   rw[<- S.pre,OV om];exact h1
  have ndP:ps.Nodup:=by rw[<- S.pre];exact S.nd.sublist (List.take_sublist _ _)
  refine⟨u,rv,?_⟩;rcases S.par y (Ec hp) with k|k
  .exact .inl ⟨k,n6 ndP hp hu k⟩
  .obtain⟨c,e⟩:=lO (n:=s.heap.objs.size+1) k
   refine .inr ⟨.inl k,c,e,?_⟩;have q:=x.cell y c e;rw[tY ndP hp hu (by show scope.names.lookup y≠_;rw[k];decide)] at q
   exact q
 .exact e0.hok.fresh (Dz (x.above y c (Fk h)))
 .unfold xK
  show _=N.length;rw[Dj,Ar,List.length_replicate];omega
theorem DM {base:Bs}{k:Af}{name qual:Ao}{params:Kl}{body:Aa Fb}{dV kV doc pm cdv ct oc:Ac}{an od:Al Ad}
  {osl:Bj (Al Ac)} {N ps:Aa Ao} {sp:Sp} (lk:K.lookup f=Ab ⟨oc,od,.func (Fo name qual params body scope dV kV doc pm an cdv ct),osl⟩) (hcd:Js K cdv qual=true) (S:FnScope N ps scope)
  (len:∀ vs H Q E,sp vs H Q E->vs.length=ps.length)
  (hbody:∀ (A:Br) (outer:Aa Iw) (s:Ah) (H:Hp) (vs:Aa V) (Q:VK) (E:XK),Room k (A.deeper (Gb qual scope s.heap.objs.size f cdv))->sp vs H Q E ->
   ∃ t,PSs (mM CX P w K mg base N qual scope f cdv A outer s H E) body t/\t { nx:=λ_ H'=>Q .non H',rt:=Q } (xK N vs) H) :
  FnOk P w K mg base CX (k+1) f (Fo name qual params body scope dV kV doc pm an cdv ct) ps sp:=by
 refine⟨len,λA outer s H args us vs Q E hr e0 hb r hsp=>?_⟩;have hl:=len _ _ _ _ hsp;have KX:K.In s.heap:=e0.mod.kin.keeps λb o e=>(e0.bs b o e).1;have lim:s.heap.NoLimit:=e0.mod.nolimit.keeps λb o e=>(e0.bs b o e).1;have hkind:∀ y∈ps.zip us,scope.names.lookup y.1=Ab .local \/ (scope.names.lookup y.1=Ab .cell/\((Gp (s.heap.objs.size+1) scope.names []).lookup y.1).isSome=true):=λ⟨n,v⟩ hy=>by
  rcases S.par n (Nl hy).1 with q|q
  .exact .inl q
  .exact .inr ⟨q,IR _ _ _ (.inl q)⟩
 refine Qz hr.depth (KX _ _ lk) rfl S.co S.gen rfl (Tt KX hcd) (hb _ _ _ _ ?_);refine O0 S.kind hkind λenv he s1 x=>?_;subst he;refine⟨lim.keeps x.toInCall.keep,codeAny_func ?_⟩;obtain⟨t,ht,hq⟩:=hbody A outer s H vs Q E (hr.deeper _) hsp;have I:Inv (mM CX P w K mg base N qual scope f cdv A outer s H E) [] (xK N vs) H s1:=nN S hr.hd e0 hl r x;refine ID (ht [] s1 (xK N vs) H _ I hq) (λfl s' hs=>?_) λe s' hs=>hs;have fin:∀ {σ' : St} {H':Hp} {v:V} {u:Ac},Inv (mM CX P w K mg base N qual scope f cdv A outer s H E) [] σ' H' s'->qF v u->Q v H'->CE outer P w H s Q u s':=
  λ{σ' H' v u} J rv q=>⟨v,H',J.os,J.bare,J.base,J.hok,rv,q⟩
 cases fl with
 |ret u =>
  obtain⟨v,σ',H',J,rv,q⟩:=hs;exact fin J rv q
 |next =>
  obtain⟨σ',H',J,q⟩:=hs;exact fin (v:=V.non) (u:=Df) J rfl q
 |brk =>
  obtain⟨_,_,_,q⟩:=hs;exact An q
 |cont =>
  obtain⟨_,_,_,q⟩:=hs;exact An q
end _L
namespace _H
open PySem PyProof.Rows
variable {Q:Ac->Ah->Prop}{hi:Al Ag}{items:Bj Ac}
noncomputable def lexLt:Aa Ag->Aa Ag->Ap
 |[],[]=>false
 |[],_::_=>true
 |_::_,[]=>false
 |x::xs,y::ys=>if x=y then lexLt xs ys else decide (x<y)
theorem lexLt_cons (x y:Ag)(xs ys:Aa Ag):lexLt (x::xs) (y::ys)=if x=y then lexLt xs ys else decide (x<y):=rfl
theorem lexLt_nil_nil:lexLt [] []=false:=rfl
theorem tG (y:Ag)(ys:Aa Ag):lexLt [] (y::ys)=true:=rfl
theorem tF (x:Ag)(xs:Aa Ag):lexLt (x::xs) [] = false:=rfl
theorem XF (A:Br)(s:Ah)(a:Ag)(t:Qk)(c:Ag)(u:Qk):∃ e,SeqAt.EqAt A s (.int a t) (.int c u) e/\(e=true↔a=c):=
 ⟨(a == c),SeqAt.EqAt.int_int a t c u,by simp⟩
theorem Y8 (A:Br)(s:Ah)(a:Ag)(t:Qk)(c:Ag)(u:Qk)(prog:Bi)(w:Ca)(E:Ac->Ah->Prop)(Q:Ac->Ah->Prop)(h:Q (.bool (decide (a<c))) s) :
  Av (Ba prog w) A (richCompare .Lt (.int a t) (.int c u)) Q E s:=
 (Ob h:Av (Ba prog w) A (Ch .Lt (.int a t) (.int c u)) Q E s)
section
open PySem.SeqAt
open PySem.AutoSeq1 (wpAny_loadPart')
open PySem.MeetsSeq PySem.MeetsSeq2 PySem.MeetsSeq3
theorem l5 (l b:Ad)(items items2:Bj Ac)(n n2:Af)(dd dd2:Al Ad)(sl sl2:Bj (Al Ac))(ns ms:Aa Ag)(hi:IS items.toList ns)(hj:IS items2.toList ms) :
  Meets (Mm.«tuple.__lt__» ⟨[.ref l,.ref b],[]⟩)
   (λ_ R s=>s.heap.get? l=Ab { cls:=.type "tuple",dict:=dd,data:=.seq items n,slots:=sl } /\ s.heap.get? b=Ab { cls:=.type "tuple",dict:=dd2,data:=.seq items2 n2,slots:=sl2 } /\
    R (.ok (.ret (.bool (lexLt ns ms)))) s):=
 .of_wp λprog w A R s h=>by
  obtain⟨hp,g,d,tk,os⟩:=s;obtain⟨hl,hb,h⟩:=h;have f2:=OW;have z1:items.size=ns.length:=by rw[<- hi.length];simp
  have z2:items2.size=ms.length:=by rw[<- hj.length];simp
  wp_walk using wpAny_loadPart' hl,wpAny_loadPart' hb,Vk _ (λqE b s'=>b.1=none/\s'=⟨hp,g,d,tk,os⟩/\∃ (vs ws:Aa Ac) (ns' ms':Aa Ag),qE=vs.zip ws /\
   IS vs ns'/\IS ws ms'/\ns'.length+items2.size=ms'.length+items.size/\R (.ok (.ret (.bool (lexLt ns' ms')))) ⟨hp,g,d,tk,os⟩) _
  case turn =>
   rintro⟨y,x⟩ qE b s' ⟨hb',rfl,vs,ws,ns',ms',hz,hvi,hwi,hlen,hR⟩;cases hvi with
   |nil=>rw[List.zip_nil_left] at hz;cases hz
   |cons a t hvi' =>
    cases hwi with
    |nil=>rw[List.zip_nil_right] at hz;cases hz
    |cons c u hwi' =>
     rw[Hr] at hz;injection hz with hyx hrest
     injection hyx with hy hx
     subst hy hx;rw[lexLt_cons] at hR;simp only[By] at hlen;obtain⟨e,he,hiff⟩:=XF A.in1 ⟨hp,g,d,tk,os⟩ a t c u;refine Ai (he prog w _ _ ?_);cases e with
     |true =>
      rw[Bc (hiff.mp rfl)] at hR
      wp_walk
      exact⟨rfl,rfl,_,_,_,_,hrest,hvi',hwi',by omega,hR⟩
     |false =>
      rw[Aw (λq=>absurd (hiff.mpr q) IN)] at hR;have hri:=Y8 A.in1 ⟨hp,g,d,tk,os⟩ a t c u prog w
      wp_walk using hri
      exact⟨_,rfl,by simpa using hR⟩
  case fin =>
   rintro⟨b1,b2⟩ s' ⟨hb',rfl,vs,ws,ns',ms',hz,hvi,hwi,hlen,hR⟩;simp only at hb';subst hb';have hv:lexLt ns' ms'=decide (items.size<items2.size):=by
    cases hvi with
    |nil =>
     cases hwi with
     |nil =>
      simp only[Ew] at hlen;rw[lexLt_nil_nil];exact(Cc om).symm
     |cons c u hw =>
      simp only[Ew,By] at hlen;rw[tG];exact(Bw om).symm
    |cons a t hv =>
     cases hwi with
     |nil =>
      simp only[Ew,By] at hlen;rw[tF];exact(Cc om).symm
     |cons c u hw =>
      rw[Hr] at hz;cases hz
   rw[hv] at hR
   wp_walk
   exact⟨_,rfl,by simpa [Mn] using hR⟩
  case h =>
   exact⟨rfl,rfl,items.toList,items2.toList,ns,ms,rfl,hi,hj,by omega,h⟩
end
section
variable {prog:Bi}{w:Ca}{A:Br}{E:Ac->Ah->Prop}{s:Ah}
theorem lt_tupInts {l b:Ad}{items2:Bj Ac}{ns ms:Aa Ag}(hl:Oh s.heap l items)(hb:Oh s.heap b items2)(hi:IS items.toList ns)(hj:IS items2.toList ms)
  (hu:A.units<Ev) (h:Q (.bool (lexLt ns ms)) s):Av (Ba prog w) A (Ch .Lt (.ref l) (.ref b)) Q E s:=by
 obtain⟨⟨cls,dd,data,sl⟩,ho,hc,n,hd⟩:=id hl;obtain⟨⟨cls2,dd2,data2,sl2⟩,ho2,hc2,n2,hd2⟩:=id hb;simp only at hc hd hc2 hd2;subst hc hd hc2 hd2;exact Qo (op:=.Lt) ⟨_,ho,rfl⟩ ⟨_,ho2,rfl⟩ Ra Qp (Pu _ _) (l5 l b items items2 n n2 dd dd2 sl sl2 ns ms hi hj)
  ⟨ho,ho2,show HT (lexLt ns ms)≠Sa/\Q (.bool (lexLt ns ms)) s from⟨(λx=>nomatch x),h⟩⟩ hu
theorem cat_tup {t b:Ad}{vs ws:Aa Ac}(ht:Oh s.heap t vs.toArray)(hb:Oh s.heap b ws.toArray)(hv:vs≠[])
  (h1:ws=[]->Q (.ref t) s) (h2:ws≠[]->Q (.ref s.heap.objs.size) { s with heap:=s.heap.push { cls:=.type "tuple",data:=.seq (vs++ws).toArray } })
  (hsz:vs.length+ws.length<=sizeLine):Av (Ba prog w) A (Dp .Add (.ref t) (.ref b)) Q E s:=by
 obtain⟨⟨cls,dd,data,sl⟩,ho,hc,n,hd⟩:=id ht;obtain⟨⟨cls2,dd2,data2,sl2⟩,ho2,hc2,n2,hd2⟩:=id hb;simp only at hc hd hc2 hd2;subst hc hd hc2 hd2;have e:vs.toArray++ws.toArray=(vs++ws).toArray:=by simp
 by_cases hw:ws=[]
 .exact Ue ⟨_,ho,rfl⟩ ⟨_,ho2,rfl⟩ Ph Ss Mc Lo (Lf _ _)
   (tuple_addW1 t b vs.toArray ws.toArray n n2 dd dd2 sl sl2 (by simpa using hv) (by simp[hw])) ⟨ho,ho2,h1 hw⟩
 .refine Ue ⟨_,ho,rfl⟩ ⟨_,ho2,rfl⟩ Ph Ss Mc Lo (Lf _ _)
   (tuple_addW2 t b vs.toArray ws.toArray n n2 dd dd2 sl sl2 (by simpa using hv) (by simpa using hw) (by rw[Bh,Bh];exact hsz)) ⟨ho,ho2,?_⟩
  rw[e];exact h2 hw
noncomputable def sIx (n d:Af):Al Ag->Af
 |none=>d
 |some v=>if v<0 then (v+(n:Ag)).toNat else min v.toNat n
theorem sIx_none (n d:Af):sIx n d none=d:=rfl
theorem sIx_nat (n d k:Af):sIx n d (Ab (k:Ag))=min k n:=by
 show (if (k:Ag)<0 then ((k:Ag)+(n:Ag)).toNat else min (k:Ag).toNat n)=min k n
 rw[Aw om,Hc]
theorem L4 (n d:Af)(hd:d<=n)(o:Al Ag):sIx n d o<=n:=by
 cases o with
 |none=>exact hd
 |some v =>
  show (if v<0 then (v+(n:Ag)).toNat else min v.toNat n)<=n
  by_cases hv:v<0
  .rw[Bc hv];omega
  .rw[Aw hv];exact Nat.min_le_right _ _
theorem rH (v:Ag)(n d:Af):(if v<0 then max (v+(n:Ag)) 0 else min v (n:Ag))=((sIx n d (Ab v):Af):Ag):=by
 show (if v<0 then max (v+(n:Ag)) 0 else min v (n:Ag))=(((if v<0 then (v+(n:Ag)).toNat else min v.toNat n):Af):Ag)
 by_cases hv:v<0
 .simp only[Bc hv];omega
 .simp only[Aw hv];omega
theorem cI (lo hi:Al Ag)(n:Af):Km lo hi 1 (n:Ag)=(((sIx n 0 lo:Af):Ag),((sIx n n hi:Af):Ag)):=by
 have h1:¬ ((1:Ag)<0):=by omega
 unfold Km;simp only[h1,Fv];refine Gd ?_ ?_
 .cases lo with
  |none=>rfl
  |some v=>exact rH v n 0
 .cases hi with
  |none=>rfl
  |some v=>exact rH v n n
theorem aH (i j:Af):Im (i:Ag) (j:Ag) 1=j-i:=by
 unfold Im;have h1:(1:Ag)>0:=by omega
 simp only[h1,Dm,Int.ediv_one]
 split <;> omega
theorem mB {v:Ac}{o:Al Ag}{Q:Al Ag->Ah->Prop}(p:O1 v o)(h:Q o s):Av (Ba prog w) A (Wt v) Q E s:=by
 cases p with
 |none=>exact slicePart_none h
 |int i t=>exact slicePart_int h
theorem uT {sl:Ad}{vl vu:Ac}{lo:Al Ag}{n:Af}{Q:Ag × Ag × Af->Ah->Prop}(hs:s.heap.IsSliceOf sl vl vu .none)(pl:O1 vl lo)(pu:O1 vu hi)
  (h:Q (((sIx n 0 lo:Af):Ag),1,sIx n n hi-sIx n 0 lo) s):Av (Ba prog w) A (O6 (.ref sl) (pure (n:Ag))) Q E s:=by
 obtain⟨os,hos,hcs,hds⟩:=id hs;unfold O6 Xr;refine Ai (Ai (Dq hos hds (x:=vl) rfl (Ai (Dq hos hds (x:=vu) rfl (Ai (Dq hos hds (x:=.none) rfl (AT ?_)))))));refine Ai (slicePart_none ?_);show Av _ _ (if ((1:Ag) == 0)=true then _ else _) _ _ s
 rw[Aw (by decide)]
 refine Ai (mB pl (Ai (mB pu (Ai (AT ?_)))));show Av _ _ (match Km lo hi 1 (n:Ag) with|(lo,hi)=>pure (lo,(1:Ag),Im lo hi 1)) _ _ s
 rw[cI lo hi n];show Av _ _ (pure (((sIx n 0 lo:Af):Ag),(1:Ag),Im ((sIx n 0 lo:Af):Ag) ((sIx n n hi:Af):Ag) 1)) _ _ s;rw[aH];exact AT h
theorem WQ (xs:Bj Ac)(i k:Af):((Ds k).filterMap λ(m:Af)=>xs[((i:Ag)+(m:Ag)*1).toNat]?).toArray=((xs.toList.drop i).take k).toArray:=by
 have e:(λ(m:Af)=>xs[((i:Ag)+(m:Ag)*1).toNat]?)=λm=>xs[i+m]?:=by
  funext m
  have:((i:Ag)+(m:Ag)*1).toNat=i+m:=by omega
  rw[this]
 rw[e];have:=pick_run xs i k;rw[List.filterMap_map] at this;have e2:((λx=>xs[x]?)∘λx=>i+x)=λm=>xs[i+m]?:=rfl;rw[e2] at this;rw[this]
theorem getItem_tuple_cut {t sl:Ad}{vl vu:Ac}{lo:Al Ag}(ht:Oh s.heap t items)(hs:s.heap.IsSliceOf sl vl vu .none)(pl:O1 vl lo)(pu:O1 vu hi)
  (hw:¬ (sIx items.size 0 lo=0/\sIx items.size items.size hi=items.size))
  (h:Q (.ref s.heap.objs.size) { s with heap:=s.heap.push { cls:=.type "tuple",data:=.seq ((items.toList.drop (sIx items.size 0 lo)).take (sIx items.size items.size hi-sIx items.size 0 lo)).toArray } })
  (hsz:items.size<=sizeLine):Av (Ba prog w) A (OL (.ref t) (.ref sl)) Q E s:=by
 have htake:sizeOk (.seq ((items.toList.drop (sIx items.size 0 lo)).take (sIx items.size items.size hi-sIx items.size 0 lo)).toArray):=by
  show ((items.toList.drop (sIx items.size 0 lo)).take (sIx items.size items.size hi-sIx items.size 0 lo)).toArray.size<=sizeLine;rw[Bh,Gq,Mp,Ce];omega
 have hj:sIx items.size items.size hi<=items.size:=L4 _ _ (Ax _) hi;obtain⟨os,hos,hcs,hds⟩:=id hs;have hTs:s.TypeIs (.ref sl) "slice":=⟨os,hos,hcs⟩;unfold OL
 try with_reducible refine Fl ?_
 first|refine Ai (AT ?_)|skip
 refine Ai (Ut ht.typeIs (by decide) ?_)
 refine Ai (En (name:=Eo "__getitem__") ht.typeIs El
  (Fg El ht.typeIs Su ?_ (Tu _ _)))
 show Av _ _ (O7 (.ref t) >>= _) _ _ s;refine Ai (tupleItemsOf_ ht ?_);refine Ai (Uf hTs ?_);rw[Bc (by decide)]
 refine Ai (uT hs pl pu ?_);have hno:¬ ((((sIx items.size 0 lo:Af):Ag) == 0&&(1:Ag) == 1&&(sIx items.size items.size hi-sIx items.size 0 lo) == items.size)=true):=by
  intro q;rw[As,As] at q;have q1:((sIx items.size 0 lo:Af):Ag)=0:=eq_of_beq q.1.1;have q2:sIx items.size items.size hi-sIx items.size 0 lo=items.size:=eq_of_beq q.2;exact hw ⟨by omega,by omega⟩
 show Av _ _ (if (((sIx items.size 0 lo:Af):Ag) == 0&&(1:Ag) == 1&&(sIx items.size items.size hi-sIx items.size 0 lo) == items.size)=true then _ else _) _ _ s
 rw[Aw hno,WQ]
 first
  |exact Ai (m:=Iy _) (Fi (AT ⟨_,rfl,AT h⟩) htake)
  |exact Ai (m:=Iy _) (Fi (Ai (AT (AT ⟨_,rfl,AT h⟩))) htake)
  |exact Ai (Ai (m:=Iy _) (Fi (AT (AT ⟨_,rfl,AT h⟩)) htake))
  |exact Ai (Ai (m:=Iy _) (Fi (AT ⟨_,rfl,AT h⟩) htake))
end
end _H
namespace _L
open PySem PySem.Spec PyProof.Rows
abbrev TO:=St->Hp->(Al Ag->Hp->Prop)->Prop
def PO (X:Cx)(e:Al Bn)(t:TO):Prop:=
 ∀ (pins:Aa (Ad × Cg)) (s:Ah) (σ : St) (H:Hp) (Q:Al Ag->Hp->Prop),Inv X pins σ H s->t σ H Q ->
  Av (Ba X.prog X.w) X.A (evalPart e X.env) (λu s'=>∃ o H',Inv X pins σ H' s'/\O1 u o/\Q o H') X.xe s
def GT:TO:=λ_ H Q=>Q none H
def RP (t:TE):TO:=λσ H Q=>t σ H λx H1=>∃ i,x=.int i/\Q (Ab i) H1
theorem fR {ns:Aa Ag}:∀ {us:Aa Ac},qH (ns.map V.int) us->IS us ns:=by
 induction ns with
 |nil=>intro us r;rw[Pv] at r;cases r;exact .nil
 |cons n ns ih =>
  intro us r;rw[Bz] at r;cases r with
  |cons r1 r2 =>
   obtain⟨t,e⟩:=r1;subst e;exact .cons n t (ih r2)
section
variable {X:Cx}{e:Bn}{te:TE}{lo hi:Al Bn}{tl th:TO}{pos p2:Eg}
theorem KJ:PO X none GT:=by
 intro pins s σ H Q I h;rw[evalPart_none];exact AT ⟨none,H,I,.none,h⟩
theorem KL (h:PE X e te):PO X (Ab e) (RP te):=by
 intro pins s σ H Q I hw;rw[evalPart_some];refine thn (h pins s σ H _ I hw) λu s1 ⟨x,H1,I1,r1,q1⟩=>?_;obtain⟨i,rfl,q⟩:=q1;obtain⟨t,rfl⟩:=r1;exact⟨Ab i,H1,I1,.int i t,q⟩
def SlR (X:Cx)(r:V->Al Ag->Al Ag->Hp->VK->Prop):Prop:=
 ∀ (pins:Aa (Ad × Cg)) (s:Ah) (σ : St) (H:Hp) (x:V) (v vl vu:Ac) (lo hi:Al Ag) (sl:Ad) (Q:VK),Inv X pins σ H s->qF x v->s.heap.IsSliceOf sl vl vu .none->O1 vl lo->O1 vu hi->r x lo hi H Q ->
  ∃ T id,typeLookup (.type T) "__getitem__" = pure (Ab (.builtin id))/\s.TypeIs v T/\Av (Ba X.prog X.w) X.A (OL v (.ref sl)) (EP X pins σ Q) X.xe s
theorem SlR.or {r r':V->Al Ag->Al Ag->Hp->VK->Prop}(h:SlR X r)(h':SlR X r'):SlR X (λx lo hi H Q=>r x lo hi H Q\/r' x lo hi H Q):=by
 intro pins s σ H x v vl vu lo hi sl Q I rx hs pl pu q;rcases q with q|q
 .exact h pins s σ H x v vl vu lo hi sl Q I rx hs pl pu q
 .exact h' pins s σ H x v vl vu lo hi sl Q I rx hs pl pu q
def tSl (r:V->Al Ag->Al Ag->Hp->VK->Prop)(te:TE)(tl th:TO):TE:=λσ H Q=>te σ H λx H1=>tl σ H1 λl H2=>th σ H2 λu H3=>r x l u H3 Q
theorem WN {r:V->Al Ag->Al Ag->Hp->VK->Prop}(hr:SlR X r)(he:PE X e te)(hl:PO X lo tl)(hu:PO X hi th):PE X (.Subscript e (.Slice lo hi none p2) pos) (tSl r te tl th):=by
 intro pins s σ H Q I h;refine Wu (thn (he pins s σ H _ I h) λv s1 ⟨x,H1,I1,r1,q1⟩=>?_);refine wpAny_Slice (thn (hl pins s1 σ H1 _ I1 q1) λvl s2 ⟨l,H2,I2,pl,q2⟩=>thn (hu pins s2 σ H2 _ I2 q2) λvu s3 ⟨u,H3,I3,pu,q3⟩=>?_);rw[evalPart_none];refine AT ?_;have I4:Inv X pins σ H3 { s3 with heap:=s3.heap.push { cls:=.type "slice",data:=.fields #[vl,vu,.none] } }:=I3.kept (t':=s3.toks) λb ob q=>Aj _ q
 obtain⟨T,id,hT,ht,hg⟩:=hr pins { s3 with heap:=s3.heap.push { cls:=.type "slice",data:=.fields #[vl,vu,.none] } } σ H3 x v vl vu l u s3.heap.objs.size Q I4 r1 (Zf ..) pl pu q3
 show Av (Ba X.prog X.w) X.A (Sv e (.Slice lo hi none p2) v (.ref s3.heap.objs.size)) (EP X pins σ Q) X.xe { s3 with heap:=s3.heap.push { cls:=.type "slice",data:=.fields #[vl,vu,.none] } }
 exact tail_any (ops:=[.ref s3.heap.objs.size,v]) ht hT hg (by with_unfolding_all rfl)
noncomputable def gT (xs:Aa V)(lo hi:Al Ag):Aa V:=(xs.drop (_H.sIx xs.length 0 lo)).take (_H.sIx xs.length xs.length hi-_H.sIx xs.length 0 lo)
theorem bN (xs:Aa V)(lo hi:Al Ag):(gT xs lo hi).length<=xs.length:=by
 unfold gT;rw[Gq,Mp];omega
def HS (K:Ak):V->Al Ag->Al Ag->Hp->VK->Prop:=λx lo hi H Q=>∃ a xs,x=.ref a/\SqT K H a xs /\
 ¬ (_H.sIx xs.length 0 lo=0/\_H.sIx xs.length xs.length hi=xs.length)/\∀ p,H p=none->Q (.ref p) (upd H p (.tup (gT xs lo hi)))
theorem L7:SlR X (HS X.K):=by
 intro pins s σ H x v vl vu lo hi sl Q I rx hs pl pu h;obtain⟨a,xs,rfl,hx,hw,q⟩:=h;cases rx;obtain⟨its,r,ht,hz⟩:=I.tuple hx;have hlen:its.toArray.size=xs.length:=by rw[Bh];exact r.length.symm
 refine⟨"tuple",_,El.lookup,ht.typeIs,?_⟩;refine _H.getItem_tuple_cut ht hs pl pu (by rw[hlen];exact hw) ?_ (by rw[hlen];exact hz)
 rw[hlen];refine⟨.ref s.heap.objs.size,_,I.laid (t':=s.toks) (o:=.tup (gT xs lo hi)) (λb ob q=>Aj _ q) (Ax _) ?_,rfl,q _ (I.hok.fresh (Ax _))⟩;exact⟨Dd (bN xs lo hi) hz,_,(r.drop (_H.sIx xs.length 0 lo)).take (_H.sIx xs.length xs.length hi-_H.sIx xs.length 0 lo),Uq _ _⟩
end
end _L
namespace _L
open PySem PySem.Spec PyProof.Rows
variable {pins:Aa (Ad × Cg)}{s:Ah}{H:Hp}{σ:St}
noncomputable def ixN (n:Af)(i:Ag):Al Af:=if 0<=i then (if i<n then Ab i.toNat else none) else if -(n:Ag)<=i then Ab (i+n).toNat else none
noncomputable def atI {α:Type}(xs:Aa α)(i:Ag):Al α:=(ixN xs.length i).bind λj=>xs[j]?
theorem rT {n:Af}{i:Ag}{j:Af}(h:ixN n i=Ab j):Xs i n=Ab j/\j<n /\ -(n:Ag)<=i/\i<n:=by
 unfold ixN at h;by_cases h0:0<=i
 .rw[Bc h0] at h
  by_cases h1:i<n
  .rw[Bc h1] at h
   have e:i.toNat=j:=Cj h;exact⟨by rw[Vl h0 h1,e],by omega,by omega,h1⟩
  .rw[Aw h1] at h;cases h
 .rw[Aw h0] at h
  by_cases h1 : -(n:Ag)<=i
  .rw[Bc h1] at h
   have e:(i+n).toNat=j:=Cj h;exact⟨by rw[seqIndex_neg om h1,e],by omega,h1,by omega⟩
  .rw[Aw h1] at h;cases h
theorem mJ {α:Type}{xs:Aa α}{i:Ag}{v:α}(h:atI xs i=Ab v):∃ j,Xs i xs.length=Ab j/\xs[j]? = Ab v/\j<xs.length /\ -(xs.length:Ag)<=i/\i<xs.length:=by
 unfold atI at h;cases e:ixN xs.length i with
 |none=>rw[e] at h;cases h
 |some j =>
  rw[e] at h;obtain⟨h1,h2,h3,h4⟩:=rT e;exact⟨j,h1,h,h2,h3,h4⟩
def mI (b:Bn):Prop:=∀ o i,subscripted b false o i=operate [o,i] (OL o i)
def IxR (X:Cx)(r:R2):Prop:=
 ∀ (value slice:Bn) (pins:Aa (Ad × Cg)) (s:Ah) (σ : St) (H:Hp) (x y:V) (v u:Ac) (Q:VK),Inv X pins σ H s->qF x v->qF y u->r x y H Q ->
  subscripted slice false v u=operate [v,u] (OL v u)->Av (Ba X.prog X.w) X.A (Sv value slice v u) (EP X pins σ Q) X.xe s
def MtR (X:Cx)(id:Dt)(r:V->Aa V->Hp->VK->Prop):Prop:=
 ∀ (pins:Aa (Ad × Cg)) (s:Ah) (σ : St) (H:Hp) (x:V) (xs:Aa V) (v:Ac) (us:Aa Ac) (Q:VK),Inv X pins σ H s->qF x v->qH xs us->r x xs H Q ->
  Av (Ba X.prog X.w) X.A (call (.builtin id) (v::us)) (EP X pins σ Q) X.xe s
section
variable {X:Cx}{a b:Bn}{ta tb:TE}{pos:Eg}
theorem IxR.or {r r':R2}(h:IxR X r)(h':IxR X r'):IxR X (λx y H Q=>r x y H Q\/r' x y H Q):=by
 intro value slice pins s σ H x y v u Q I rx ry q hs;rcases q with q|q
 .exact h value slice pins s σ H x y v u Q I rx ry q hs
 .exact h' value slice pins s σ H x y v u Q I rx ry q hs
theorem MtR.or {id:Dt}{r r':V->Aa V->Hp->VK->Prop}(h:MtR X id r)(h':MtR X id r'):MtR X id (λx xs H Q=>r x xs H Q\/r' x xs H Q):=by
 intro pins s σ H x xs v us Q I rx rs q;rcases q with q|q
 .exact h pins s σ H x xs v us Q I rx rs q
 .exact h' pins s σ H x xs v us Q I rx rs q
theorem R4 {r:R2}(hr:IxR X r)(ha:PE X a ta)(hb:PE X b tb)(hs:mI b):PE X (.Subscript a b pos) (tOp r ta tb):=by
 intro pins s σ H Q I h;exact Wu (EO ha hb I h λv u s2 x y H2 I2 rx ry q=>hr a b pins s2 σ H2 x y v u Q I2 rx ry q (hs _ _))
def HN (K:Ak):R2:=λx y H Q=>∃ p xs i v,x=.ref p/\y=.int i/\SqL K H p xs/\atI xs i=Ab v/\Q v H
def HP (K:Ak):R2:=λx y H Q=>∃ p xs i v,x=.ref p/\y=.int i/\SqT K H p xs/\atI xs i=Ab v/\Q v H
theorem rU:IxR X (HN X.K):=by
 intro value slice pins s σ H x y v u Q I rx ry h hs;obtain⟨p,xs,i,z,rfl,rfl,hq,he,q⟩:=h;cases rx;obtain⟨t,rfl⟩:=ry;obtain⟨its,r,pl,hz⟩:=I.list hq;obtain⟨j,h1,h2,h3,h4,h5⟩:=mJ he;obtain⟨w,ew,rw'⟩:=r.get h2;have hl:=r.length;have hn:=jU;have fin:EP X pins σ Q w s:=⟨z,H,I,rw',q⟩;by_cases h0:0<=i
 .have hj:i.toNat=j:=by
   rw[Vl h0 h5] at h1;exact Cj h1
  exact item_listR pl.isList h0 om (by rw[hj];simpa using ew) fin hs
 .have hj:(i+(its.toArray.size:Ag)).toNat=j:=by
   rw[seqIndex_neg om h4] at h1;rw[Bh,<- hl];exact Cj h1
  exact Md (x:=w) pl.isList.typeIs Uu.lookup
   (wpAny_getItem_list_neg (Q:=λr s'=>r=w/\EP X pins σ Q r s') pl.isList om (by rw[Bh] <;> omega) om (by rw[hj];simpa using ew) ⟨rfl,fin⟩) hs
theorem FV:IxR X (HP X.K):=by
 intro value slice pins s σ H x y v u Q I rx ry h hs;obtain⟨p,xs,i,z,rfl,rfl,hq,he,q⟩:=h;cases rx;obtain⟨t,rfl⟩:=ry;obtain⟨its,r,pl,hz⟩:=I.tuple hq;obtain⟨j,h1,h2,h3,h4,h5⟩:=mJ he;obtain⟨w,ew,rw'⟩:=r.get h2;have hl:=r.length;have hn:=jU;have fin:EP X pins σ Q w s:=⟨z,H,I,rw',q⟩;exact Md (x:=w) pl.typeIs Tv.lookup
  (getItem_tuple (j:=j) (Q:=λr s'=>r=w/\EP X pins σ Q r s') pl om om (by rw[Bh,<- hl];exact h1) (by simpa using ew) ⟨rfl,fin⟩) hs
theorem a8 (its:Aa Ac)(n j:Af)(u:Ac):Ey (·.setIfInBounds j u) { cls:=.type "list",data:=.seq its.toArray n } = { cls:=.type "list",data:=.seq (its.set j u).toArray n }:=by
 simp[Ey]
theorem Inv.lst {p:Ad}{xs:Aa V}(I:Inv X pins σ H s)(h:H p=Ab (.lst xs)) :
  ∃ (its:Aa Ac) (n:Af),qH xs its/\s.heap.get? p=Ab { cls:=.type "list",data:=.seq its.toArray n } /\ xs.length<=sizeLine:=by
 obtain⟨z,its,n,r,e⟩:=I.hok p _ h;exact⟨its,n,r,e,z⟩
theorem Inv.lstUpd {p:Ad}{xs ys:Aa V}{its its':Aa Ac}{n n':Af}{f:Cg->Cg}(I:Inv X pins σ H s)(h:H p=Ab (.lst xs))
  (ho:s.heap.get? p=Ab { cls:=.type "list",data:=.seq its.toArray n }) (hf:f { cls:=.type "list",data:=.seq its.toArray n } = { cls:=.type "list",data:=.seq its'.toArray n' }) (r:qH ys its') (hz:ys.length<=sizeLine) (t:Af) :
  Inv X pins σ (upd H p (.lst ys)) { s with heap:=s.heap.update p f,toks:=t }:=by
 have e:(s.heap.update p f).get? p=Ab { cls:=.type "list",data:=.seq its'.toArray n' }:=by
  rw[Jf f ho (by rw[hf] <;> rfl),hf]
 refine I.write (x:=p) (e:=p) (by rw[h];trivial) (.inl rfl) (λb u hb q=>(Cu _ _ (Eu hb)).trans q) ⟨_,e⟩ ?_
 exact⟨hz,its',n',r,e⟩
def RE:V->V->V->Hp->(Hp->Prop)->Prop:=λo i v H Q=>∃ p xs k j,o=.ref p/\i=.int k/\H p=Ab (.lst xs)/\ixN xs.length k=Ab j/\Q (upd H p (.lst (xs.set j v)))
theorem YD:lK X RE:=by
 intro pins s σ H o i v ov iv u Q I ro ri rv h;obtain⟨p,xs,k,j,rfl,rfl,hp,hj,q⟩:=h;cases ro;obtain⟨t,rfl⟩:=ri;obtain⟨its,n,r,ho,hz⟩:=I.lst hp;obtain⟨h1,h2,h3,h4⟩:=rT hj;have hl:=r.length;have hn:=jU;have I':Inv X pins σ (upd H p (.lst (xs.set j v))) { s with heap:=s.heap.update p (Ey (·.setIfInBounds j u)) }:=
  I.lstUpd hp ho (a8 its n j u) (r.set rv j) (by rw[Wh];exact hz) s.toks
 by_cases h0:0<=k
 .have hk:k.toNat=j:=by
   rw[Vl h0 h4] at h1;exact Cj h1
  exact PySem.W.ki_setAt ho h0 om (by rw[Bh,<- hl];exact h4) (by rw[hk];exact⟨_,I',q⟩)
 .have hk:(k+(its.toArray.size:Ag)).toNat=j:=by
   rw[seqIndex_neg om h3] at h1;rw[Bh,<- hl];exact Cj h1
  exact PySem.W.ki_setBack ho om (by rw[Bh,<- hl];exact h3) om (by rw[hk];exact⟨_,I',q⟩)
theorem sO (lo hi:Al Ag)(n:Af):(Kx lo hi none n).1=((_H.sIx n 0 lo:Af):Ag)/\(Kx lo hi none n).2.1=((_H.sIx n n hi:Af):Ag)/\(Kx lo hi none n).2.2=1:=by
 refine⟨?_,?_,rfl⟩
 .cases lo with
  |none=>simp[Kx,_H.sIx]
  |some i =>
   simp only[Kx,_H.sIx,Vm,show (1:Ag)>0 by decide,Dm]
   by_cases h:i<0
   .simp only[h,Dm] <;> omega
   .simp only[h,Fv] <;> omega
 .cases hi with
  |none=>simp[Kx,_H.sIx]
  |some i =>
   simp only[Kx,_H.sIx,Vm,show (1:Ag)>0 by decide,Dm]
   by_cases h:i<0
   .simp only[h,Dm] <;> omega
   .simp only[h,Fv] <;> omega
theorem l4 (its:Aa Ac)(lo hi:Al Ag):slicePick its.toArray lo hi none=((its.drop (_H.sIx its.length 0 lo)).take (_H.sIx its.length its.length hi-_H.sIx its.length 0 lo)).toArray:=by
 obtain⟨h1,h2,h3⟩:=sO lo hi its.toArray.size;unfold slicePick;rw[h1,h2,h3];simp only[sliceRange_one,pick_run,Bh] <;> rfl
def HR (K:Ak):V->Al Ag->Al Ag->Hp->VK->Prop:=λx lo hi H Q=>∃ a xs,x=.ref a/\SqL K H a xs/\∀ p,H p=none->Q (.ref p) (upd H p (.lst (gT xs lo hi)))
theorem hV:SlR X (HR X.K):=by
 intro pins s σ H x v vl vu lo hi sl Q I rx hs pl pu h;obtain⟨a,xs,rfl,hx,q⟩:=h;cases rx;obtain⟨its,r,ht,hz⟩:=I.list hx;have hlen:=r.length;refine⟨"list",_,Uu.lookup,ht.isList.typeIs,?_⟩;refine wpAny_getItem_list_slice ht.isList hs pl pu .none (by simp) ?_ (by rw[Bh] <;> omega)
 rw[l4,<- hlen];refine⟨.ref s.heap.objs.size,_,I.laid (t':=s.toks) (o:=.lst (gT xs lo hi)) (λb ob q=>Aj _ q) (Ax _) ?_,rfl,q _ (I.hok.fresh (Ax _))⟩;exact⟨Dd (bN xs lo hi) hz,_,0,(r.drop (_H.sIx xs.length 0 lo)).take (_H.sIx xs.length xs.length hi-_H.sIx xs.length 0 lo),Be _ rfl⟩
theorem kE.or {f:Ac}{r r':Aa V->Hp->VK->Prop}(h:kE X f r)(h':kE X f r'):kE X f (λxs H Q=>r xs H Q\/r' xs H Q):=by
 intro pins s σ H xs us Q I rs q;rcases q with q|q
 .exact h pins s σ H xs us Q I rs q
 .exact h' pins s σ H xs us Q I rs q
theorem gN:kE X (.type "tuple") (λxs H Q=>∃ p ys,xs=[.ref p]/\((SqL X.K H p ys/\∀ l,H l=none->Q (.ref l) (upd H l (.tup ys)))\/(SqT X.K H p ys/\Q (.ref p) H))):=by
 intro pins s σ H xs us Q I r h;obtain⟨p,ys,rfl,h⟩:=h;obtain⟨u,rfl,rx⟩:=gH r;cases rx;rcases h with⟨hq,q⟩|⟨hq,q⟩
 .obtain⟨its,r',pl,hz⟩:=I.list hq
  have hlen:=r'.length;refine call_tuple_list pl.isList (λh' kp=>?_) (by simp only[Bh] <;> omega)
  have I1:Inv X pins σ H { s with heap:=h' }:=I.kept (t':=s.toks) kp
  have I2:Inv X pins σ (upd H h'.objs.size (.tup ys)) { s with heap:=h'.push { cls:=.type "tuple",data:=.seq its.toArray } }:=
   I1.laid (t':=s.toks) (λb o e=>Aj _ e) (Ax _) (show zE X.prog X.w _ _ _ (.tup ys) from⟨hz,its,r',Uq _ _⟩)
  exact⟨.ref h'.objs.size,_,I2,rfl,q _ (I1.hok.fresh (Ax _))⟩
 .obtain⟨its,r',pl,hz⟩:=I.tuple hq
  exact call_tuple_same pl ⟨.ref p,H,I,rfl,q⟩
def tyV (K:Ak)(T:Dt)(x:V)(H:Hp):Prop:=match x with
 |.str _=>T = "str"
 |.int _=>T = "int"
 |.ref p=>(T = "list" /\ ∃ xs,SqL K H p xs)\/(T = "tuple" /\ ∃ o,K.lookup p=Ab o/\o.cls=.type "tuple" /\ o.dict=none) \/
   (T = "dict" /\ ((∃ kvs,H p=Ab (.dK kvs))\/∃ kvs,H p=Ab (.dT kvs)))\/(T = "set" /\ ∃ S n,H p=Ab (.set S n))
 |_=>Ez
theorem pN {T:Dt}{x:V}{v:Ac}(I:Inv X pins σ H s)(r:qF x v)(ty:tyV X.K T x H) :
  s.TypeIs v T/\∀ a,v=.ref a->∃ ob,s.heap.get? a=Ab ob/\ob.dict=none:=by
 cases x with
 |str z =>
  obtain⟨t,rfl⟩:=r;cases (show T = "str" from ty)
  exact⟨typeIs_str s z t,λ_ e=>nomatch e⟩
 |int i =>
  obtain⟨t,rfl⟩:=r;cases (show T = "int" from ty)
  exact⟨typeIs_int s i t,λ_ e=>nomatch e⟩
 |ref p =>
  cases r;rcases ty with⟨rfl,xs,hq⟩|⟨rfl,o,hk,hc,hd⟩|⟨rfl,hk⟩|⟨rfl,S,n,hk⟩
  .obtain⟨its,_,pl,_⟩:=I.list hq
   refine⟨pl.isList.typeIs,λa e=>?_⟩;cases e;obtain⟨o,n,e,c,hd,_⟩:=pl;exact⟨o,e,hd⟩
  .refine⟨⟨o,I.kIn p o hk,hc⟩,λa e=>?_⟩
   cases e;exact⟨o,I.kIn _ o hk,hd⟩
  .have z:∃ o,s.heap.get? p=Ab o/\o.ExactDict:=by
    rcases hk with⟨kvs,hk⟩|⟨kvs,hk⟩
    .obtain⟨_,_,_,_,o,_,_,e,ex,_⟩:=I.hok p _ hk
     exact⟨o,e,ex⟩
    .obtain⟨_,_,_,_,o,_,_,e,ex,_⟩:=I.hok p _ hk
     exact⟨o,e,ex⟩
   obtain⟨o,e,ex⟩:=z;refine⟨⟨o,e,ex.1⟩,λa e2=>?_⟩;cases e2;exact⟨o,e,ex.2.1⟩
  .obtain⟨o,_,_,_,e,ex,_⟩:=I.hok p _ hk
   refine⟨⟨o,e,ex.1⟩,λa e2=>?_⟩;cases e2;exact⟨o,e,ex.2.1⟩
 |_=>exact An ty
variable {o e:Bn}{es:Aa Bn}{to:TE}{t:TA}{name:Ao}{apos cpos:Eg}{T id:Dt}{r:V->Aa V->Hp->VK->Prop}
/- xs.append(e),list.index on a module's tuple .. are MtR facts of 06m -/
end
end _L
namespace _L
open PySem PySem.Spec PyProof.Rows
def MtM (X:Cx)(id:Dt)(r:V->Aa V->Hp->VK->Prop):Prop:=
 ∀ (pins:Aa (Ad × Cg)) (s:Ah) (σ : St) (H:Hp) (x:V) (xs:Aa V) (v:Ac) (us:Aa Ac) (Q:VK),Inv X pins σ H s->qF x v->qH xs us->r x xs H Q ->
  Av (Ba X.prog X.w) X.A (call (.builtin id) (v::us)) (EP X pins σ Q) X.xe s
theorem qH.one {x:V}{us:Aa Ac}(h:qH [x] us):∃ u,us=[u]/\qF x u:=gH h
theorem qH.two {x y:V}{us:Aa Ac}(h:qH [x,y] us):∃ u v,us=[u,v]/\qF x u/\qF y v:=aZ h
section
variable {X:Cx}{pins:Aa (Ad × Cg)}{σ : St}{H:Hp}{s:Ah}{l b:Ad}{xs ys zs:Aa V}
theorem Inv.lset {its its':Aa Ac}{n:Af}{f:Bj Ac->Bj Ac}{t':Af}(I:Inv X pins σ H s)(hH:H l=Ab (.lst xs))
  (e:s.heap.get? l=Ab { cls:=.type "list",data:=.seq its.toArray n }) (hf:f its.toArray=its'.toArray) (hv:qH ys its') (hz:ys.length<=sizeLine) :
  Inv X pins σ (upd H l (.lst ys)) { s with heap:=s.heap.update l (Ey f),toks:=t' }:=by
 have q:=Vn e f;rw[hf] at q;refine I.write (x:=l) (e:=l) (by rw[hH];exact trivial) (.inl rfl) (λb' u hb hu=>(Cu s.heap (Ey f) (Eu hb)).trans hu) ⟨_,q⟩ ?_
 exact⟨hz,its',_,hv,q⟩
theorem Inv.lstM (I:Inv X pins σ H s)(hH:H l=Ab (.lst xs)):xs.length<=sizeLine/\∃ (its:Aa Ac) (n:Af),qH xs its/\xs.length=its.length/\s.heap.get? l=Ab { cls:=.type "list",data:=.seq its.toArray n }:=by
 obtain⟨z,its,n,r,e⟩:=I.hok l _ hH;exact⟨z,its,n,r,r.length,e⟩
end
section
variable {X:Cx}
def GD:V->Aa V->Hp->VK->Prop:=λx vs H Q=>∃ l xs y,x=.ref l/\vs=[y]/\H l=Ab (.lst xs)/\xs.length<sizeLine/\Q .non (upd H l (.lst (xs++[y])))
theorem oI:MtM X "list.append" GD:=by
 intro pins s σ H x vs v us Q I rx rv h;obtain⟨l,xs,y,rfl,rfl,hH,hz,q⟩:=h;cases rx;obtain⟨u,rfl,ru⟩:=rv.one;obtain⟨z,its,n,r,hl,e⟩:=I.lstM hH;refine call_meets Tw ⟨_,e,rfl⟩ Sw (Sb _ _) (Uv l its.toArray n u (by rw[Bh];omega)) ⟨e,?_⟩
 refine⟨.non,_,I.lset (its':=its++[u]) hH e (by simp) (r.append (.cons ru .nil)) ?_,rfl,q⟩
 rw[Dj,Mq];omega
end
end _L
namespace _L
open PySem PySem.Spec PyProof.Rows
variable {xs:Aa (Aa Key × Ad × Ac)}{kvs:Aa (Aa Key × V)}{H':Hp}
section
variable {κ : Type}[Vh κ]
noncomputable def yH (kvs:Aa (κ × V))(k:κ):Al V:=(kvs.find? λkv=>decide (kv.1=k)).map (·.2)
noncomputable def yF (kvs:Aa (κ × V))(k:κ)(v:V):Aa (κ × V):=
 if (kvs.any λkv=>decide (kv.1=k))=true then kvs.map (λkv=>if kv.1=k then (kv.1,v) else kv) else kvs++[(k,v)]
theorem fJ {p:κ × V}{r:Aa (κ × V)}{k:κ}(e:p.1=k):yH (p::r) k=Ab p.2:=by simp[yH,Hd,e]
theorem fH {p:κ × V}{r:Aa (κ × V)}{k:κ}(e:¬ p.1=k):yH (p::r) k=yH r k:=by simp[yH,Hd,e]
theorem sW (k:κ):∀ kvs:Aa (κ × V),(kvs.any λkv=>decide (kv.1=k))=(yH kvs k).isSome
 |[]=>rfl
 |p::r=>by
  rw[IT];by_cases e:p.1=k
  .simp only[fJ e,Bw e,Ug,Tx]
  .rw[fH e,Cc e,Xt];exact sW k r
theorem jG (kvs:Aa (κ × V))(k:κ)(v:V):(yF kvs k v).length<=kvs.length+1:=by
 unfold yF
 split
 .rw[Ar];omega
 .rw[Dj,By,Ew];omega
theorem kG.isSome_eq {o:Al V}{u:Al Ac}(r:kG o u):o.isSome=u.isSome:=by
 cases o with
 |none=>cases u with
  |none=>rfl
  |some _=>exact(show Ez from r).elim
 |some _=>cases u with
  |none=>exact(show Ez from r).elim
  |some _=>rfl
theorem kG.getD {o:Al V}{u:Al Ac}{d:V}{d':Ac}(r:kG o u)(rd:qF d d'):qF (o.getD d) (u.getD d'):=by
 cases o with
 |none=>cases u with
  |none=>exact rd
  |some _=>exact(show Ez from r).elim
 |some _=>cases u with
  |none=>exact(show Ez from r).elim
  |some _=>exact r
theorem KV.val {kvs:Aa (κ × V)}{vs:Aa (κ × Ac)}(r:KV kvs vs)(k:κ):kG (yH kvs k) (Sx vs k):=by
 unfold KV at r
 induction r with
 |nil=>exact Ib
 |@cons p q ps qs h t ih =>
  obtain⟨h1,h2⟩:=h;by_cases e:p.1=k
  .have e':q.1=k:=h1.symm.trans e
   have b:Sx (q::qs) k=Ab q.2:=by simp[Sx,Hd,e']
   rw[fJ e,b];exact h2
  .have e':¬ q.1=k:=λz=>e (h1.trans z)
   have b:Sx (q::qs) k=Sx qs k:=by simp[Sx,Hd,e']
   rw[fH e,b];exact ih
theorem KV.any {kvs:Aa (κ × V)}{vs:Aa (κ × Ac)}(r:KV kvs vs)(k:κ):(kvs.any λkv=>decide (kv.1=k))=vs.any λkv=>decide (kv.1=k):=by
 unfold KV at r
 induction r with
 |nil=>rfl
 |cons h t ih=>rw[IT,IT,ih,h.1]
theorem KV.repl {kvs:Aa (κ × V)}{vs:Aa (κ × Ac)}(r:KV kvs vs)(k:κ){y:V}{u:Ac}(ry:qF y u) :
  KV (kvs.map λkv=>if kv.1=k then (kv.1,y) else kv) (vs.map λkv=>if kv.1=k then (kv.1,u) else kv):=by
 unfold KV at r ⊢
 induction r with
 |nil=>exact .nil
 |@cons p q ps qs h t ih =>
  rw[Bz,Bz];refine .cons ?_ ih;obtain⟨h1,h2⟩:=h;by_cases e:p.1=k
  .rw[Bc e,Bc (h1.symm.trans e)];exact⟨h1,ry⟩
  .rw[Aw e,Aw (λz=>e (h1.trans z))];exact⟨h1,h2⟩
theorem KV.put {kvs:Aa (κ × V)}{vs:Aa (κ × Ac)}(r:KV kvs vs)(k:κ){y:V}{u:Ac}(ry:qF y u):KV (yF kvs k y) (stored vs k u):=by
 unfold yF stored;rw[r.any k];by_cases e:(vs.any λkv=>decide (kv.1=k))=true
 .rw[Bc e,Bc e];exact r.repl k ry
 .rw[Aw e,Aw e];exact Paired.snoc r ⟨rfl,ry⟩
theorem KV.length {kvs:Aa (κ × V)}{vs:Aa (κ × Ac)}(r:KV kvs vs):kvs.length=vs.length:=Paired.length r
end
theorem b7 {P:Bi}{w:Ca}{k:Key}{u:Ac}(r:qF (kV k) u):(qZ P w).is k u=true:=by
 cases k with
 |inl i=>obtain⟨t,e⟩:=(show ∃ t,u=OE i t from r);subst e;exact r9 P w i t
 |inr x=>obtain⟨t,e⟩:=(show ∃ t,u=Um x t from r);subst e;exact rA P w x t
theorem nP {P:Bi}{w:Ca}:∀ {ks:Aa Key} {us:Aa Ac},qH (ks.map kV) us->ItemsAre (qZ P w) ks us
 |[],_,r=>by rw[Pv] at r;cases r;exact .nil
 |k::ks,_,r=>by
  rw[Bz] at r;cases r with
  |cons h t=>exact .cons (b7 h) (nP t)
abbrev KT (H:Hp):Aa (Aa Key × V)->Aa (Aa Key × Ad × Ac)->Prop:=Paired λp q=>p.1=q.1/\H q.2.1=Ab (.tup (p.1.map kV))/\qF p.2 q.2.2
theorem KT.val {H:Hp}(r:KT H kvs xs)(k:Aa Key):kG (yH kvs k) ((Uw xs k).map (·.2)):=by
 induction r with
 |nil=>exact Ib
 |@cons p q ps qs h t ih =>
  obtain⟨h1,_,h2⟩:=h;by_cases e:p.1=k
  .have e':q.1=k:=h1.symm.trans e
   have b:Uw (q::qs) k=Ab q.2:=by simp[Uw,Hd,e']
   rw[fJ e,b];exact h2
  .have e':¬ q.1=k:=λz=>e (h1.trans z)
   have b:Uw (q::qs) k=Uw qs k:=by simp[Uw,Hd,e']
   rw[fH e,b];exact ih
theorem KT.repl {H:Hp}(r:KT H kvs xs)(k:Aa Key){y:V}{u:Ac}(ry:qF y u) :
  KT H (kvs.map λkv=>if kv.1=k then (kv.1,y) else kv) (xs.map (putAt k u)):=by
 induction r with
 |nil=>exact .nil
 |@cons p q ps qs h t ih =>
  rw[Bz,Bz];refine .cons ?_ ih;obtain⟨h1,h2,h3⟩:=h;unfold putAt;by_cases e:p.1=k
  .rw[Bc e,Bc (h1.symm.trans e)];exact⟨h1,h2,ry⟩
  .rw[Aw e,Aw (λz=>e (h1.trans z))];exact⟨h1,h2,h3⟩
theorem KT.put {H:Hp}(r:KT H kvs xs)(k:Aa Key){b:Ad}{y:V}{u:Ac}(hb:H b=Ab (.tup (k.map kV)))(ry:qF y u) :
  KT H (yF kvs k y) (storedH xs k b u):=by
 have e:(kvs.any λkv=>decide (kv.1=k))=(Uw xs k).isSome:=by
  rw[sW,(r.val k).isSome_eq,Option.isSome_map]
 unfold yF storedH;rw[e];by_cases q:(Uw xs k).isSome=true
 .rw[Bc q,Bc q];exact r.repl k ry
 .rw[Aw q,Aw q];exact Paired.snoc r ⟨rfl,hb,ry⟩
theorem KT.keeps {H:Hp}(r:KT H kvs xs)(ht:∀ b ys,H b=Ab (.tup ys)->H' b=Ab (.tup ys)):KT H' kvs xs:=
 Paired.mapP r λ_ _ z=>⟨z.1,ht _ _ z.2.1,z.2.2⟩
section
variable {P:Bi}{w:Ca}{H:Hp}{h:Bs}{a:Ad}
theorem VJ {u:HO}(ok:HOk P w H h)(e:Rd H a u):zE P w H h a u:=e.ok ok
theorem YX {kvs:Aa (Key × V)}(ok:HOk P w H h)(e:Rd H a (.dK kvs)):kvs.length<=sizeLine/\(a == Hn)=false/\∃ vs,KV kvs vs/\h.DictOf (qZ P w) a vs:=
 show zE P w H h a (.dK kvs) from VJ ok e
theorem pT {kvs:Aa (Key × V)}(ok:HOk P w H h)(e:H a=Ab (.dK kvs)):kvs.length<=sizeLine/\(a == Hn)=false/\∃ vs,KV kvs vs/\h.DictOf (qZ P w) a vs:=YX ok (.inl e)
theorem jT {ks:Aa Key}(ok:HOk P w H h)(e:H a=Ab (.tup (ks.map kV))):(OF (qZ P w)).is h ks a:=by
 obtain⟨_,its,r,o,h1,h2,n,h3⟩:=(show zE P w H h a (.tup (ks.map kV)) from ok a _ e)
 exact⟨o,its.toArray,n,h1,h2,h3,by simpa using nP r⟩
theorem YY (ok:HOk P w H h)(e:Rd H a (.dT kvs)):kvs.length<=sizeLine/\(a == Hn)=false /\
  ∃ xs,KT H kvs xs/\h.DictOfH (OF (qZ P w)) a xs:=by
 obtain⟨z,y,xs,r,o,es,ep,h1,h2,h3,h4,h5⟩:=(show zE P w H h a (.dT kvs) from VJ ok e)
 refine⟨z,y,xs,r,o,es,ep,h1,h2,h3,h4,λx hx=>?_,h5⟩;have all:∀ {l:Aa (Aa Key × V)} {m:Aa (Aa Key × Ad × Ac)},KT H l m->∀ x∈m,(OF (qZ P w)).is h x.1 x.2.1:=by
  intro l m q
  induction q with
  |nil=>intro x hx;exact nomatch hx
  |@cons p q ps qs hq t ih =>
   intro x hx;rcases Bg.mp hx with e|hx
   .subst e
    exact jT ok (by rw[<- hq.1];exact hq.2.1)
   .exact ih x hx
 exact all r x hx
theorem DD (ok:HOk P w H h)(e:H a=Ab (.dT kvs)):kvs.length<=sizeLine/\(a == Hn)=false /\
  ∃ xs,KT H kvs xs/\h.DictOfH (OF (qZ P w)) a xs:=YY ok (.inl e)
end
def mG (H:Hp)(a:Ad)(y:V)(r:Al V):Prop:=
 (∃ kvs k,Rd H a (.dK kvs)/\y=kV k/\r=yH kvs k)\/∃ kvs k b,Rd H a (.dT kvs)/\y=.ref b/\H b=Ab (.tup (k.map kV))/\r=yH kvs k
def mH (H:Hp)(a:Ad)(y v:V)(H':Hp):Prop:=
 (∃ kvs k,H a=Ab (.dK kvs)/\y=kV k/\kvs.length<sizeLine/\H'=upd H a (.dK (yF kvs k v))) \/
 ∃ kvs k b,H a=Ab (.dT kvs)/\y=.ref b/\H b=Ab (.tup (k.map kV))/\kvs.length<sizeLine/\H'=upd H a (.dT (yF kvs k v))
theorem mG.k {H:Hp}{a:Ad}{kvs:Aa (Key × V)}{k:Key}(e:H a=Ab (.dK kvs)):mG H a (kV k) (yH kvs k):=.inl ⟨kvs,k,.inl e,rfl,rfl⟩
theorem mG.t {H:Hp}{a b:Ad}{k:Aa Key}(e:H a=Ab (.dT kvs))(eb:H b=Ab (.tup (k.map kV))):mG H a (.ref b) (yH kvs k):=.inr ⟨kvs,k,b,.inl e,rfl,eb,rfl⟩
theorem mH.k {H:Hp}{a:Ad}{kvs:Aa (Key × V)}{k:Key}{v:V}(e:H a=Ab (.dK kvs))(hl:kvs.length<sizeLine):mH H a (kV k) v (upd H a (.dK (yF kvs k v))):=.inl ⟨kvs,k,e,rfl,hl,rfl⟩
theorem mH.t {H:Hp}{a b:Ad}{k:Aa Key}{v:V}(e:H a=Ab (.dT kvs))(eb:H b=Ab (.tup (k.map kV)))(hl:kvs.length<sizeLine) :
  mH H a (.ref b) v (upd H a (.dT (yF kvs k v))):=.inr ⟨kvs,k,b,e,rfl,eb,hl,rfl⟩
section
variable {X:Cx}{pins:Aa (Ad × Cg)}{σ : St}{H:Hp}{s:Ah}{a:Ad}{y v:V}{u r:Ac}{o:Al V}{A:Br}{E:Ac->Ah->Prop}
theorem Inv.big (I:Inv X pins σ H s):Hn<s.heap.objs.size:=by
 have h:Ct<s.heap.objs.size:=(I.mod.glob.keeps I.bk).lt;exact Jv (by decide) h
theorem mQ {h':Bs}{t':Af}{ob:HO}(I:Inv X pins σ H s)(mu:Mut (H a))(hs:Fe a s.heap h')(he:∃ q,h'.get? a=Ab q)(new:zE X.prog X.w (upd H a ob) h' a ob) :
  Inv X pins σ (upd H a ob) { s with heap:=h',toks:=t' }:=
 I.write (x:=a) (e:=a) mu (.inl rfl) (λb q hb z=>(hs.2 b hb).trans z) he new
theorem iO {P:Bi}{w:Ca}{h':Bs}{kvs:Aa (Key × V)}{vs:Aa (Key × Ac)}(z:kvs.length<=sizeLine)(hd:(a == Hn)=false)(rel:KV kvs vs)(dd:h'.DictOf (qZ P w) a vs) :
  zE P w H' h' a (.dK kvs):=⟨z,hd,vs,rel,dd⟩
theorem iI {Q:Qm->Ah->Prop}(hu:A.units+1<Ev)(I:Inv X pins σ H s)(g:mH H a y v H')(ry:qF y u)(rv:qF v r)(h:∀ s',Inv X pins σ H' s'->Q () s') :
  Av (Ba X.prog X.w) A (Xp (.ref a) u r) Q E s:=by
 rcases g with⟨kvs,k,e,ey,l,eH⟩|⟨kvs,k,b,e,ey,eb,l,eH⟩
 .subst ey eH
  obtain⟨z,hd,vs,rel,dd⟩:=pT I.hok e;have hz:vs.length<=sizeLine:=by rw[<- rel.length];exact z
  have hl:(yF kvs k v).length<=sizeLine:=by have:=jG kvs k v;omega
  refine wpAny_setItem_pairs (hsz:=hz) (b7 ry) dd λh' dd' hs=>h _ ?_;have he:∃ q,h'.get? a=Ab q:=let ⟨q,_,_,hq,_⟩:=dd';⟨q,hq⟩
  exact mQ I (by rw[e];exact Ib) hs he (iO hl hd (rel.put k rv) dd')
 .subst ey eH
  cases (show u=Cf b from ry)
  obtain⟨z,hd,xs,rel,dd⟩:=DD I.hok e;have hz:xs.length<=sizeLine:=by rw[<- Paired.length rel];exact z
  have hl:(yF kvs k v).length<=sizeLine:=by have:=jG kvs k v;omega
  refine wpAny_setItem_heap (hsz:=hz) (Tz hu) (jT I.hok eb) dd λh' dd' hs=>h _ ?_;obtain⟨q,es,ep,hq,h2,h3,h4,_,h5⟩:=dd';refine mQ I (by rw[e];exact Ib) hs ⟨q,hq⟩ ⟨hl,hd,_,(rel.put k eb rv).keeps λc ys ec=>?_,q,es,ep,hq,h2,h3,h4,h5⟩
  rw[qG (SH ec e (λz=>nomatch z))];exact ec
end
theorem X6 {P:Bi}{w:Ca}{H:Hp}(h:Bs)(hb:Hn<h.objs.size):zE P w H (h.push { cls:=.type "dict",data:=.dict #[] }) h.objs.size (.dK []):=
 ⟨Hg _,Kg.mpr (Eu (Cn hb)),[],.nil,Heap.DictOf.new h⟩
def LC:TE:=λ_ H Q=>∀ p,H p=none->Q (.ref p) (upd H p (.dK []))
section
variable {X:Cx}{pos:Eg}
theorem WM:PE X (.Dict [] [] pos) LC:=λpins s σ H Q I h =>
 wpAny_Dict_empty ⟨.ref s.heap.objs.size,_,I.laid (a:=s.heap.objs.size) (o:=.dK []) (t':=s.toks) (λ_ _ q=>Aj _ q) (Ax _) (X6 s.heap I.big),rfl,h _ (I.hok.fresh (Ax _))⟩
end
section
variable {X:Cx}{pins:Aa (Ad × Cg)}{σ : St}{H:Hp}{s:Ah}{a:Ad}{y d:V}{u r:Ac}{o:Al V}{A:Br}{E:Ac->Ah->Prop}
theorem BG {Q:Ac->Ah->Prop}(hu:A.units+1<Ev)(I:Inv X pins σ H s)(g:mG H a y o)(ry:qF y u)(rd:qF d r)(h:∀ w' s',Inv X pins σ H s'->qF (o.getD d) w'->Q w' s') :
  Av (Ba X.prog X.w) A (call (.builtin "dict.get") [.ref a,u,r]) Q E s:=by
 rcases g with⟨kvs,k,e,ey,l⟩|⟨kvs,k,b,e,ey,eb,l⟩
 .subst ey
  obtain⟨z,hd,vs,rel,dd⟩:=YX I.hok e;refine Lp Jg dd.typeIs Qq (Pw _ _ _) (meets_dict_get_default (qZ X.prog X.w) a (b7 ry) hd r) ⟨_,dd.mapOf,h _ _ (I.tok _) ?_⟩;rw[l];exact(rel.val k).getD rd
 .subst ey
  cases (show u=Cf b from ry)
  obtain⟨z,hd,xs,rel,dd⟩:=YY I.hok e;refine Lp Jg dd.typeIs Qq (Pw _ _ _) (meetsH_dict_get_default (OF (qZ X.prog X.w)) a b hd r) ⟨Tz hu,k,xs,jT I.hok eb,dd,h _ _ (I.tok _) ?_⟩;rw[l];exact(rel.val k).getD rd
end
end _L
namespace _A
open PySem PySem.W PySem.Calls PyProof.Rows
theorem fS {P:Params}{h:Bs}:∀ (ns:Aa Ag) (vs:Aa Ac),WellAll P h vs (ns.map Zg)->IS vs ns:=by
 intro ns
 induction ns with
 |nil =>
  intro vs w;rw[Pv] at w;cases w;exact .nil
 |cons n ns ih =>
  intro vs w;rw[Bz] at w;cases w with
  |cons a b =>
   cases a;exact .cons _ _ (ih _ b)
theorem QD {l:OpenLaw}{n:Af}(hn:l.most=Ab n){P:Params}{h:Bs}{args:Aa WData}{vals:Aa Ac}
  (hpre:l.row.toRowW.claim.pre args=true) (hwl:WellAll P h vals args) :
  ∃ a vs ns,vals=[Cf a]/\args=[WData.list (ns.map Zg)]/\h.get? a=Ab { cls:=.type "list",data:=.seq vs.toArray } /\ IS vs ns/\ns.length<=n:=by
 have hsh:WShape.hasAll [] args [.list .int]=true:=(pre_splitW hpre).1;have hc:l.pre.holds [] { args:=args } = true:=(pre_splitW hpre).2;obtain⟨d,r,rfl,h1,h2⟩:=hasAllW_cons hsh;obtain rfl:=hasAllW_nil h2;obtain⟨xs,rfl,h3⟩:=hasW_list h1;obtain⟨ns,rfl⟩:=items_int h3;have hlen:ns.length<=n:=by
  unfold OpenLaw.pre at hc;have h4:(WTm.not (.lt (.lit (.int (n:Ag))) (.len (.arg 0)))).holds [] { args:=[.list (ns.map .int)] } = true:=by
   have h4:=(holds_andW hc).1;rw[hn] at h4;exact h4
  have h5:=condW_of h4 (w_not (w_lt w_lit (w_len_list (w_arg rfl))));rw[Ar] at h5;refine Vo λq=>?_;have q':(n:Ag)<((ns.length:Af):Ag):=by omega
  first
   |(rw[Bw q'] at h5;exact absurd h5 (by decide))
   |(simp at h5;omega)
 cases hwl with
 |cons w1 w2 =>
  cases w2;cases w1 with
  |list ho hall=>exact⟨_,_,ns,rfl,rfl,ho,fS ns _ hall,hlen⟩
theorem oX (l:OpenLaw)(args:Aa WData):l.row.toRowW.claim.post args (.bool true) args=true:=
 postW_of (r:=l.row.toRowW) (X:=(true == true))
  (show Zc [] (.bool true) .bool=true by first|rfl|decide|simp[Zc,WShape.arms,WShape.armsAll])
  (show (WTm.eq .res (.lit (.bool true))).value [] { args:=args,res:=Ab (.bool true),after:=args } = Ab (.bool (true == true)) from w_eq_bool (w_res rfl) w_lit) rfl
theorem attach_call {l:OpenLaw}{n:Af}{q:Bi}{loose:Aa Ao}{XP:(Ao->Al Ac)->Bs->Prop}{YP:Ca->Bs->Prop}{d:DefRec}
  (hn:l.most=Ab n) (hdf:d.params.defaults=[])
  (call:∀ (w:Ca) (s₀ s₁:Ah) (mg mb:Ao->Al Ac) (fa:Ad) (o:Cg) (pm cd doc:Ac) (a:Ad) (vs:Aa Ac) (ns:Aa Ag),
   Ground q loose [] XP w s₀ mg mb s₁.heap->YP w s₁.heap ->
   s₁.heap.get? fa=Ab o->o.data=.func (docDef d.name d.params d.body d.scope pm cd doc)->s₁.heap.CodeRec cd d.name->mg d.name=Ab (.ref fa) ->
   s₁.heap.get? a=Ab { cls:=.type "list",data:=.seq vs.toArray } -> IS vs ns->ns.length<=n->s₁.gens=#[] ->
   IE (Ba l.prog w) OM (.call (.ref fa) ⟨[.ref a],[]⟩) (λr s'=>r=.ok (.ret (.bool true))/\OldK s₁.heap s'.heap/\s'.os=s₁.os/\Mk s'.gens) s₁) :
  WalkO q loose XP YP l.row.toRowW d [] (λf vs=>Wv f vs):=by
 intro w s₀ s₁ mg mb G Y fa o pm cd doc dV kV ho hd hcd hD hmg hg args vals as hpre hlay hrd hwl hlo;obtain rfl:dV=.none:=Dflts.none hD hdf;obtain rfl:kV=.none:=Dflts.noKw hD;obtain⟨a,vs,ns,rfl,rfl,hobj,hints,hlen⟩:=QD hn hpre hwl;refine enter_call (Px (call w s₀ s₁ mg mb fa o pm cd doc a vs ns G Y ho (fd_plain hd) hcd hmg hobj hints hlen hg) λr s' hq=>?_);obtain⟨rfl,h2,h3,h4⟩:=hq;exact⟨.inl ⟨.bool true,.bool true,[],rfl,λ_=>rfl,.bool true,oX l _,λ_=>⟨ON,λ_ hm=>(nomatch hm)⟩⟩,h2,h3,h4⟩
end _A
namespace _L
open PySem PySem.Spec PyProof.Rows
theorem QX {vs:Aa Ac}{ns:Aa Ag}(h:IS vs ns):qH (ns.map V.int) vs:=by
 induction h with
 |nil=>exact .nil
 |cons n t h ih=>exact .cons ⟨t,rfl⟩ ih
def SqX (K:Ak)(H:Hp)(a:Ad)(xs:Aa V):Prop:=
 Rd H a (.lst xs)\/∃ (its:Aa Ac) (n:Af),K.lookup a=Ab { cls:=.type "list",data:=.seq its.toArray n } /\ xs.length<=sizeLine/\qH xs its
theorem SqX.l {K:Ak}{H:Hp}{a:Ad}{xs:Aa V}(h:SqX K H a xs):SqL K H a xs:=by
 rcases h with h|⟨its,n,e,l,v⟩
 .exact .inl h
 .exact .inr ⟨_,its.toArray,n,e,rfl,rfl,rfl,by rw[Bh,<- v.length];exact l,by simpa using v⟩
end _L
namespace _L
open PySem PySem.Spec PyProof.Rows
variable {ps:Aa Ao}{f:Ad}{x qual:Ao}{H:Hp}
noncomputable def wN (s:Fb):Kl:=match s with
 |.FunctionDef _ a _ _ _ _ _ _ _ _=>a
 |_=>{ posonlyargs:=[],args:=[],vararg:=none,kwonlyargs:=[],kw_defaults:=[],kwarg:=none,defaults:=[] }
noncomputable def zM (s:Fb):Aa Fb:=match s with
 |.FunctionDef _ _ b _ _ _ _ _ _ _=>b
 |_=>[]
noncomputable def qJ (s:Fb):Do:=match s with
 |.FunctionDef _ _ _ _ _ _ sc _ _ _=>sc
 |_=>{ kind:=.function,names:=[],isGenerator:=false,isCoroutine:=false }
abbrev CX0:CXT:=λ_ _ _ _ _ _=>Ez
structure Fun (K:Ak)(x qual:Ao)(st:Fb)(f:Ad)(fd:Et):Prop where
 ex:∃ (oc:Ac) (od:Al Ad) (kV doc pm:Ac) (an:Al Ad) (cdv ct:Ac) (osl:Bj (Al Ac)),
  fd=Fo x qual (wN st) (zM st) (qJ st) .none kV doc pm an cdv ct/\K.lookup f=Ab ⟨oc,od,.func fd,osl⟩/\Js K cdv qual=true
 kp:Fp K (.ref f)=true
section
variable {P:Bi}{w:Ca}{K:Ak}{mg:Ao->Al Ac}{base:Bs}
theorem Fun.ok {st:Fb}{fd:Et}{N:Aa Ao}{k:Af}{sp:Sp}(F:Fun K x qual st f fd)(S:FnScope N ps (qJ st))(len:∀ vs H Q E,sp vs H Q E->vs.length=ps.length)
  (hbody:∀ (cdv:Ac) (A:Br) (outer:Aa Iw) (s:Ah) (H:Hp) (vs:Aa V) (Q:VK) (E:XK),Room k (A.deeper (Gb qual (qJ st) s.heap.objs.size f cdv))->sp vs H Q E ->
   ∃ t,PSs (mM CX0 P w K mg base N qual (qJ st) f cdv A outer s H E).nox (zM st) t/\t { nx:=λ_ H'=>Q .non H',rt:=Q } (xK N vs) H):FnOk P w K mg base CX0 (k+1) f fd ps sp:=by
 obtain⟨oc,od,kV,doc,pm,an,cdv,ct,osl,rfl,lk,hcd⟩:=F.ex;refine DM lk hcd S len λA outer s H vs Q E hr hsp=>?_;obtain⟨t,h,q⟩:=hbody cdv A outer s H vs Q E hr hsp;exact⟨t,h.nox,q⟩
theorem Fun.binds {st:Fb}{fd:Et}(F:Fun K x qual st f fd)
  (h:∀ (kV doc pm:Ac) (an:Al Ad) (cdv ct:Ac) (us:Aa Ac),us.length=ps.length->OB (Fo x qual (wN st) (zM st) (qJ st) .none kV doc pm an cdv ct) ⟨us,[]⟩=pure (ps.zip us)):vY K fd ps []:=by
 obtain⟨oc,od,kV,doc,pm,an,cdv,ct,osl,rfl,lk,hcd⟩:=F.ex;exact .all (h kV doc pm an cdv ct)
theorem FI {st:Fb}{oc:Ac}{od an:Al Ad}{osl:Bj (Al Ac)}{kV doc pm cdv ct:Ac}(l:K.lookup f=Ab ⟨oc,od,.func (Fo x qual (wN st) (zM st) (qJ st) .none kV doc pm an cdv ct),osl⟩)
  (c:Js K cdv qual=true) (k:Fp K (.ref f)=true):Fun K x qual st f (Fo x qual (wN st) (zM st) (qJ st) .none kV doc pm an cdv ct):=⟨⟨oc,od,kV,doc,pm,an,cdv,ct,osl,rfl,l,c⟩,k⟩
end
def qD (H H':Hp):Prop:=∀ b o,H b=Ab o->H' b=Ab o
theorem qD.refl (H:Hp):qD H H:=λ_ _ h=>h
theorem qD.trans {H1 H2:Hp}(a:qD H H1)(b:qD H1 H2):qD H H2:=λc o h=>b c o (a c o h)
theorem qD.free {H':Hp}(e:qD H H'){l:Ad}(h:H' l=Yw):H l=Yw:=by
 cases q:H l with
 |none=>rfl
 |some o =>
  rw[e l o q] at h;cases h
theorem qD.seq {K:Ak}{H':Hp}{a:Ad}{xs:Aa V}(e:qD H H')(h:SqL K H a xs):SqL K H' a xs:=by
 rcases h with (h|⟨o,h⟩)|h
 .exact .inl (.inl (e _ _ h))
 .exact .inl (.inr ⟨o,e _ _ h⟩)
 .exact .inr h
end _L
end
section
namespace _D
open PySem PySem.Spec PyProof.Rows _L
inductive D where
 |non|bl (b:Ap)|int (i:Ag)|str (x:Ao)|ty (n:Dt)|obj (a:Ad)|tup (xs:Aa D)|lst (xs:Aa D)|dct0|loc (i:Af)|exn (c:Ac)|fd (ks:Aa Key) (ds:Aa D)|clo (a:Ad) (vs:Aa V) (ds:Aa D)
noncomputable def EY (a:Ad)(c:Ac):HO:=.ext λh=>∃ ob,h.get? a=Ab ob/\ob.cls=c
inductive MO where
 |dead|lst (xs:Aa D)|dct (kvs:Aa (Key × D))|dcT (kvs:Aa (Aa Ag × D))|ins (C:Ad) (fs:Aa (Ao × D))
abbrev Sto:=Aa MO
inductive Res (β : Type) where
 |ok (d:β) (S:Sto)|ex (c:Ac) (x:D) (S:Sto)|bad
@[inline] def Res.bind {β γ:Type}(r:Res β)(f:β->Sto->Res γ) : Res γ:=
 match r with
 |.ok d S=>f d S
 |.ex c x S=>.ex c x S
 |.bad=>.bad
theorem Res.bind_ok {β γ:Type}(d:β)(S:Sto)(f:β->Sto->Res γ) : (Res.ok d S).bind f=f d S:=rfl
section
variable (K:Ak)(P:Hp)(α : Aa Ad)
mutual
def Rep:D->V->Prop
 |.non,v=>v=.non
 |.bl b,v=>v=.bl b
 |.int i,v=>v=.int i
 |.str x,v=>v=.str x
 |.ty n,v=>v=.ty n
 |.obj a,v=>v=.ref a/\Fp K (.ref a)=true
 |.tup ds,v=>∃ a vs,v=.ref a/\SqT K P a vs/\qB ds vs
 |.lst ds,v=>∃ a vs,v=.ref a/\SqX K P a vs/\qB ds vs
 |.dct0,v=>∃ a,v=.ref a/\P a=Ab (.dK [])
 |.loc i,v=>∃ a,v=.ref a/\α[i]? = Ab a
 |.exn c,v=>∃ a,v=.ref a/\P a=Ab (EY a c)
 |.fd ks ds,v=>∃ a o vs,v=.ref a/\P a=Ab (.frz o (.dK (ks.zip vs)))/\ks.length=vs.length/\qB ds vs
 |.clo a vs ds,v=>v=.ref a/\qB ds vs
def qB:Aa D->Aa V->Prop
 |[],vs=>vs=[]
 |d::ds,vs=>∃ w ws,vs=w::ws/\Rep d w/\qB ds ws
end
end
section
variable {K:Ak}{P P':Hp}{α α':Aa Ad}
theorem wI (e:qD P P'){a:Ad}{xs:Aa V}(h:SqT K P a xs):SqT K P' a xs:=by
 rcases h with (h|⟨o,h⟩)|h
 .exact .inl (.inl (e _ _ h))
 .exact .inl (.inr ⟨o,e _ _ h⟩)
 .exact .inr h
theorem eV (e:qD P P'){a:Ad}{u:HO}(h:Rd P a u):Rd P' a u:=by
 rcases h with h|⟨o,h⟩
 .exact .inl (e _ _ h)
 .exact .inr ⟨o,e _ _ h⟩
theorem xD (e:qD P P'){a:Ad}{xs:Aa V}(h:SqX K P a xs):SqX K P' a xs:=by
 rcases h with h|h
 .exact .inl (eV e h)
 .exact .inr h
theorem bE {i:Af}{a:Ad}(h:α<+:α')(e:α[i]? = Ab a):α'[i]? = Ab a:=by
 obtain⟨r,rfl⟩:=h;rw[Bo (Az.mp e).1];exact e
mutual
theorem Rep.mono (e:qD P P')(h:α<+:α'):∀ (d:D) (v:V),Rep K P α d v->Rep K P' α' d v
 |.non,_,r=>by simpa only [Rep] using r
 |.bl _,_,r=>by simpa only [Rep] using r
 |.int _,_,r=>by simpa only [Rep] using r
 |.str _,_,r=>by simpa only [Rep] using r
 |.ty _,_,r=>by simpa only [Rep] using r
 |.obj _,_,r=>by simpa only [Rep] using r
 |.tup ds,v,r=>by
  simp only[Rep] at r ⊢;obtain⟨a,vs,rfl,q,t⟩:=r;exact⟨a,vs,rfl,wI e q,qB.mono e h ds vs t⟩
 |.lst ds,v,r=>by
  simp only[Rep] at r ⊢;obtain⟨a,vs,rfl,q,t⟩:=r;exact⟨a,vs,rfl,xD e q,qB.mono e h ds vs t⟩
 |.dct0,v,r=>by
  simp only[Rep] at r ⊢;obtain⟨a,rfl,q⟩:=r;exact⟨a,rfl,e _ _ q⟩
 |.loc i,v,r=>by
  simp only[Rep] at r ⊢;obtain⟨a,rfl,q⟩:=r;exact⟨a,rfl,bE h q⟩
 |.exn c,v,r=>by
  simp only[Rep] at r ⊢;obtain⟨a,rfl,q⟩:=r;exact⟨a,rfl,e _ _ q⟩
 |.fd ks ds,v,r=>by
  simp only[Rep] at r ⊢;obtain⟨a,o,vs,rfl,q,hl,t⟩:=r;exact⟨a,o,vs,rfl,e _ _ q,hl,qB.mono e h ds vs t⟩
 |.clo a vs ds,v,r=>by
  simp only[Rep] at r ⊢;exact⟨r.1,qB.mono e h ds vs r.2⟩
theorem qB.mono (e:qD P P')(h:α<+:α'):∀ (ds:Aa D) (vs:Aa V),qB K P α ds vs->qB K P' α' ds vs
 |[],vs,r=>by simpa only [qB] using r
 |d::ds,vs,r=>by
  simp only[qB] at r ⊢;obtain⟨w,ws,rfl,r1,r2⟩:=r;exact⟨w,ws,rfl,Rep.mono e h d w r1,qB.mono e h ds ws r2⟩
end
theorem qB.nil:qB K P α [] []:=by simp only[qB]
theorem qB.cons {d:D}{v:V}{ds:Aa D}{vs:Aa V}(r:Rep K P α d v)(t:qB K P α ds vs):qB K P α (d::ds) (v::vs):=by
 simp only[qB];exact⟨v,vs,rfl,r,t⟩
theorem qB.nil_inv {vs:Aa V}(r:qB K P α [] vs):vs=[]:=by simpa only [qB] using r
theorem qB.cons_inv {d:D}{ds:Aa D}{vs:Aa V}(r:qB K P α (d::ds) vs):∃ w ws,vs=w::ws/\Rep K P α d w/\qB K P α ds ws:=by simpa only [qB] using r
theorem qB.length:∀ {ds:Aa D} {vs:Aa V},qB K P α ds vs->ds.length=vs.length
 |[],vs,r=>by rw[r.nil_inv];rfl
 |d::ds,vs,r=>by
  obtain⟨w,ws,rfl,_,t⟩:=r.cons_inv;rw[By,By,t.length]
theorem qB.append:∀ {ds es:Aa D} {vs ws:Aa V},qB K P α ds vs->qB K P α es ws->qB K P α (ds++es) (vs++ws)
 |[],es,vs,ws,r,t=>by rw[r.nil_inv];exact t
 |d::ds,es,vs,ws,r,t=>by
  obtain⟨w,us,rfl,r1,r2⟩:=r.cons_inv;exact .cons r1 (r2.append t)
theorem qB.get:∀ {ds:Aa D} {vs:Aa V} {i:Af} {d:D},qB K P α ds vs->ds[i]? = Ab d->∃ v,vs[i]? = Ab v/\Rep K P α d v
 |[],_,_,_,_,e=>by simp at e
 |d::ds,vs,i,d',r,e=>by
  obtain⟨w,ws,rfl,r1,r2⟩:=r.cons_inv;cases i with
  |zero=>simp at e;subst e;exact⟨w,rfl,r1⟩
  |succ i =>
   obtain⟨v,h1,h2⟩:=r2.get (i:=i) (d:=d') (by simpa using e)
   exact⟨v,by simpa using h1,h2⟩
theorem qB.drop:∀ {ds:Aa D} {vs:Aa V} (n:Af),qB K P α ds vs->qB K P α (ds.drop n) (vs.drop n)
 |ds,vs,0,r=>by simpa using r
 |[],vs,n+1,r=>by rw[r.nil_inv];exact .nil
 |d::ds,vs,n+1,r=>by
  obtain⟨w,ws,rfl,_,r2⟩:=r.cons_inv;simpa using r2.drop n
theorem qB.take:∀ {ds:Aa D} {vs:Aa V} (n:Af),qB K P α ds vs->qB K P α (ds.take n) (vs.take n)
 |ds,vs,0,r=>by simpa using qB.nil
 |[],vs,n+1,r=>by rw[r.nil_inv];exact .nil
 |d::ds,vs,n+1,r=>by
  obtain⟨w,ws,rfl,r1,r2⟩:=r.cons_inv;simpa using qB.cons r1 (r2.take n)
theorem qB.set {d:D}{v:V}(q:Rep K P α d v):∀ {ds:Aa D} {vs:Aa V} (n:Af),qB K P α ds vs->qB K P α (ds.set n d) (vs.set n v)
 |[],vs,n,r=>by rw[r.nil_inv];exact .nil
 |e::ds,vs,0,r=>by
  obtain⟨w,ws,rfl,r1,r2⟩:=r.cons_inv;exact .cons q r2
 |e::ds,vs,n+1,r=>by
  obtain⟨w,ws,rfl,r1,r2⟩:=r.cons_inv;exact .cons r1 (r2.set q n)
end
abbrev qC:=Aa (Al D)
def z0 (K:Ak)(P:Hp)(α : Aa Ad)(σ : _L.St)(env:qC):Prop:=env.length=σ.length/\∀ (i:Af) (d:D),env[i]? = Ab (Ab d)->∃ v,σ[i]? = Ab (Ab v)/\Rep K P α d v
def KVs (K:Ak)(P:Hp)(α : Aa Ad){κ : Type}:Aa (κ × D)->Aa (κ × V)->Prop:=Paired λ(p:κ × D) (q:κ × V)=>p.1=q.1/\Rep K P α p.2 q.2
noncomputable def DU (ns:Aa Ag):Ag:=reduceHash (Xu (ns.map hashInt))
def EF (a:Ad)(xs:Aa (Aa Ag × Ad × V))(h:Bs):Prop:=∃ us:Aa (Aa Ag × Ad × Ac),Paired (λ(p:Aa Ag × Ad × V) (q:Aa Ag × Ad × Ac)=>p.1=q.1/\p.2.1=q.2.1/\qF p.2.2 q.2.2) xs us /\
 ∃ o es ep,h.get? a=Ab o/\o.ExactDict/\o.data=.dict es ep/\es.toList=us.map λx=>⟨DU x.1,.ref x.2.1,x.2.2⟩
noncomputable abbrev dtO (a:Ad)(xs:Aa (Aa Ag × Ad × V)):HO:=.ext (EF a xs)
def DTs (K:Ak)(P:Hp)(α : Aa Ad):Aa (Aa Ag × D)->Aa (Aa Ag × Ad × V)->Prop:=Paired λ(p:Aa Ag × D) (q:Aa Ag × Ad × V)=>p.1=q.1/\SqT K P q.2.1 (q.1.map V.int)/\Rep K P α p.2 q.2.2
def MOk (K:Ak)(H P:Hp)(α : Aa Ad)(a:Ad):MO->Prop
 |.dead=>NE
 |.lst ds=>∃ vs,H a=Ab (.lst vs)/\qB K P α ds vs
 |.dct kvs=>∃ vs,H a=Ab (.dK vs)/\KVs K P α kvs vs
 |.dcT kvs=>∃ xs,H a=Ab (dtO a xs)/\(a == Hn)=false/\xs.length<=sizeLine/\(xs.map (·.1)).Nodup/\DTs K P α kvs xs
 |.ins C fs=>∃ dx vs,H a=Ab (.ins C dx vs)/\KVs K P α fs vs
inductive TbAt (x:Ao)(H P:Hp)(α : Aa Ad)(T:Ad):Prop
 |mk (ps:Bj Ac) (e:H T=Ab (.tbl ps)) (pn:P T=none) (an:T ∉ α) (ok:Kn ps.toList) (cd:∀ pos cv,Nm pos ps.toList=Ab cv->∃ c oc vs t,cv=.ref c/\H c=Ab (.frz oc (.frz oc (.own 0)))/\oc.data=.fields vs/\vs[1]? = Ab (.str (x ++ ".<locals>." ++ "<lambda>") t)):TbAt x H P α T
def cF (K:Ak)(H P:Hp)(α : Aa Ad):Prop:=∀ x∈w4,∀ c T,Dk K x=Ab (c,T)->TbAt x H P α T
def FR (u:HO):Prop:=(∃ ps,u=.tbl ps)\/∃ o,u=.frz o (.frz o (.own 0))
theorem cF.keep {K:Ak}{H H' P P':Hp}{α α':Aa Ad}(r:cF K H P α)(e:∀ b u,H b=Ab u->FR u->H' b=Ab u)(hp:∀ b u,H b=Ab u->FR u->P b=none->b ∉ α->P' b=none/\b ∉ α'):cF K H' P' α':=λx hx c T h =>
 let ⟨ps,e1,pn,an,ok,cd⟩:=r x hx c T h
 let z:=hp _ _ e1 (.inl ⟨_,rfl⟩) pn an
 ⟨ps,e _ _ e1 (.inl ⟨_,rfl⟩),z.1,z.2,ok,λpos cv q=>let ⟨c,oc,vs,t,a,b,d⟩:=cd pos cv q;⟨c,oc,vs,t,a,e _ _ b (.inr ⟨_,rfl⟩),d⟩⟩
structure Rel (K:Ak)(H P:Hp)(α : Aa Ad)(S:Sto):Prop where
 tb:cF K H P α
 sub:qD P H
 len:α.length=S.length
 nd:α.Nodup
 sep:∀ (i:Af) (a:Ad) (o:MO),α[i]? = Ab a->S[i]? = Ab o->o≠.dead->P a=none
 at':∀ (i:Af) (a:Ad) (o:MO),α[i]? = Ab a->S[i]? = Ab o->MOk K H P α a o
 own:∀ (i:Af) (a:Ad),α[i]? = Ab a->H a≠none
section
variable {K:Ak}{H P P':Hp}{α α':Aa Ad}{S:Sto}
theorem z0.mono {σ : _L.St}{env:qC}(e:qD P P')(h:α<+:α')(r:z0 K P α σ env):z0 K P' α' σ env:=
 ⟨r.1,λi d q=>let ⟨v,h1,h2⟩:=r.2 i d q;⟨v,h1,Rep.mono e h d v h2⟩⟩
theorem KVs.mono {κ : Type}(e:qD P P')(h:α<+:α'){kvs:Aa (κ × D)}{vs:Aa (κ × V)}(r:KVs K P α kvs vs):KVs K P' α' kvs vs:=by
 refine Paired.mapP r λp q z=>⟨z.1,Rep.mono e h _ _ z.2⟩
theorem DTs.mono (e:qD P P')(h:α<+:α'){kvs:Aa (Aa Ag × D)}{xs:Aa (Aa Ag × Ad × V)}(r:DTs K P α kvs xs):DTs K P' α' kvs xs:=
 Paired.mapP r λp q z=>⟨z.1,wI e z.2.1,Rep.mono e h _ _ z.2.2⟩
theorem MOk.mono {a:Ad}(e:qD P P')(h:α<+:α'):∀ {o:MO},MOk K H P α a o->MOk K H P' α' a o
 |.dead,_=>trivial
 |.lst _,⟨vs,q,r⟩=>⟨vs,q,qB.mono e h _ _ r⟩
 |.dct _,⟨vs,q,r⟩=>⟨vs,q,r.mono e h⟩
 |.dcT _,⟨vs,q,d,l,n,r⟩=>⟨vs,q,d,l,n,r.mono e h⟩
 |.ins _ _,⟨dx,vs,q,r⟩=>⟨dx,vs,q,r.mono e h⟩
theorem Rel.grow {H':Hp}(r:Rel K H P α S)(e:qD H H'):Rel K H' P α S where
 tb:=r.tb.keep (λb u q _=>e _ _ q) λ_ _ _ _ p n=>⟨p,n⟩
 sub:=r.sub.trans e
 len:=r.len
 nd:=r.nd
 sep:=r.sep
 at':=λi a o q1 q2=>by
  have m:=r.at' i a o q1 q2;cases o with
  |dead=>trivial
  |lst ds=>obtain⟨vs,q,t⟩:=m;exact⟨vs,e _ _ q,t⟩
  |dct kvs=>obtain⟨vs,q,t⟩:=m;exact⟨vs,e _ _ q,t⟩
  |dcT kvs=>obtain⟨vs,q,t⟩:=m;exact⟨vs,e _ _ q,t⟩
  |ins C fs=>obtain⟨dx,vs,q,t⟩:=m;exact⟨dx,vs,e _ _ q,t⟩
 own:=λi a q=>by
  have m:=r.own i a q;cases z:H a with
  |none=>exact absurd z m
  |some o=>rw[e _ _ z];intro w;cases w
theorem gE {H:Hp}{a:Ad}{o:HO}(h:H a=none):qD H (upd H a o):=λb u e=>by rw[qG (qT e h)];exact e
theorem Rel.pure {a:Ad}{o:HO}(r:Rel K H P α S)(h:H a=none):Rel K (upd H a o) (upd P a o) α S/\qD P (upd P a o):=by
 have hP:P a=none:=by
  cases z:P a with
  |none=>rfl
  |some u=>rw[r.sub _ _ z] at h;cases h
 have sP:qD P (upd P a o):=gE hP;have r1:=r.grow (gE (o:=o) h);refine⟨⟨r.tb.keep (λb u q _=>(qG (qT q h)).trans q) λb u q _ p n=>⟨(qG (qT q h)).trans p,n⟩,λb u e=>?_,r.len,r.nd,λi b u q1 q2 q3=>?_,λi b u q1 q2=>(r1.at' i b u q1 q2).mono sP (Bf _),r1.own⟩,sP⟩
 .by_cases hb:b=a
  .subst hb;rw[qV] at e ⊢;exact e
  .rw[qG hb] at e ⊢;exact r.sub _ _ e
 .have hb:b≠a:=by rintro rfl;exact r.own i b q1 h
  rw[qG hb];exact r.sep i b u q1 q2 q3
theorem Rel.new {a:Ad}{o:HO}{m:MO}(r:Rel K H P α S)(h:H a=none)(hm:MOk K (upd H a o) P (α ++ [a]) a m):Rel K (upd H a o) P (α ++ [a]) (S++[m]):=by
 have hP:P a=none:=by
  cases z:P a with
  |none=>rfl
  |some u=>rw[r.sub _ _ z] at h;cases h
 have r1:=r.grow (gE (o:=o) h);have hp:α<+:α++[a]:=Gy _ _;have split:∀ (i:Af) (b:Ad),(α++[a])[i]? = Ab b->(i<α.length/\α[i]? = Ab b)\/(i=α.length/\b=a):=λi b q=>by
  by_cases hi:i<α.length
  .rw[Bo hi] at q;exact .inl ⟨hi,q⟩
  .rw[Dw om] at q
   cases hk:i-α.length with
   |zero=>rw[hk] at q;simp at q;exact .inr ⟨by omega,q.symm⟩
   |succ k=>rw[hk] at q;simp at q
 refine⟨r.tb.keep (λb u q _=>(qG (qT q h)).trans q) λb u q _ p n=>⟨p,λz=>(Cs.mp z).elim n λw=>qT q h (by simpa using w)⟩,r1.sub,by simp[r.len],?_,λi b u q1 q2 q3=>?_,λi b u q1 q2=>?_,λi b q=>?_⟩
 .rw[Io]
  refine⟨r.nd,by simp,λb hb c hc e=>?_⟩
  simp at hc;subst hc;subst e;obtain⟨i,hi,e⟩:=Cw.mp hb;exact r.own i b (by rw[Am hi,e]) h
 .rcases split i b q1 with⟨hi,z⟩|⟨hi,rfl⟩
  .rw[Bo (by rw[<- r.len];exact hi)] at q2
   exact r.sep i b u z q2 q3
  .exact hP
 .rcases split i b q1 with⟨hi,z⟩|⟨hi,rfl⟩
  .rw[Bo (by rw[<- r.len];exact hi)] at q2
   exact(r1.at' i b u z q2).mono (qD.refl _) hp
  .rw[hi,r.len,Dw (Ax _)] at q2
   simp at q2;subst q2;exact hm
 .rcases split i b q with⟨_,z⟩|⟨_,rfl⟩
  .exact r1.own i b z
  .rw[qV];intro z;cases z
theorem nU {N:Aa Ad}(hN:N.Nodup){i j:Af}{x:Ad}(a:N[i]? = Ab x)(b:N[j]? = Ab x):i=j:=by
 obtain⟨h1,e1⟩:=Az.mp a;obtain⟨h2,e2⟩:=Az.mp b;exact(Pc hN).mp (e1.trans e2.symm)
theorem Rel.put {a:Ad}{i:Af}{o:HO}{m m':MO}(r:Rel K H P α S)(ha:α[i]? = Ab a)(hs:S[i]? = Ab m)(hd:m≠.dead)(hm:MOk K (upd H a o) P α a m'):Rel K (upd H a o) P α (S.set i m'):=by
 have hP:=r.sep i a m ha hs hd;have hi:i<S.length:=(Az.mp hs).1;refine⟨r.tb.keep (λb u q hu=>?_) λ_ _ _ _ p n=>⟨p,n⟩,λb u e=>?_,by simp[r.len],r.nd,λj b u q1 q2 q3=>?_,λj b u q1 q2=>?_,λj b q=>?_⟩
 .refine(qG ?_).trans q
  rintro rfl;have z:=r.at' i _ m ha hs;cases m with
  |dead=>exact hd rfl
  |lst ds=>obtain⟨vs,z,_⟩:=z;rw[q] at z;rcases hu with⟨_,rfl⟩|⟨_,rfl⟩ <;> cases z
  |dct kvs=>obtain⟨vs,z,_⟩:=z;rw[q] at z;rcases hu with⟨_,rfl⟩|⟨_,rfl⟩ <;> cases z
  |dcT kvs=>obtain⟨vs,z,_⟩:=z;rw[q] at z;rcases hu with⟨_,rfl⟩|⟨_,rfl⟩ <;> cases z
  |ins C fs=>obtain⟨dx,vs,z,_⟩:=z;rw[q] at z;rcases hu with⟨_,rfl⟩|⟨_,rfl⟩ <;> cases z
 .have hb:b≠a:=by rintro rfl;rw[hP] at e;cases e
  rw[qG hb];exact r.sub _ _ e
 .by_cases hj:j=i
  .subst hj;rw[ha] at q1;cases q1;exact hP
  .rw[Cb (Eu hj)] at q2;exact r.sep j b u q1 q2 q3
 .by_cases hj:j=i
  .subst hj;rw[ha] at q1;cases q1
   rw[Dl hi] at q2;cases q2;exact hm
  .rw[Cb (Eu hj)] at q2
   have hb:b≠a:=by rintro rfl;exact hj (nU r.nd q1 ha)
   have z:=r.at' j b u q1 q2;cases u with
   |dead=>trivial
   |lst ds=>obtain⟨vs,q,t⟩:=z;exact⟨vs,by rw[qG hb];exact q,t⟩
   |dct kvs=>obtain⟨vs,q,t⟩:=z;exact⟨vs,by rw[qG hb];exact q,t⟩
   |dcT kvs=>obtain⟨vs,q,t⟩:=z;exact⟨vs,by rw[qG hb];exact q,t⟩
   |ins C fs=>obtain⟨dx,vs,q,t⟩:=z;exact⟨dx,vs,by rw[qG hb];exact q,t⟩
 .by_cases hb:b=a
  .subst hb;rw[qV];intro z;cases z
  .rw[qG hb];exact r.own j b q
end
theorem nn {β : Type}{a:β}{p:Prop}(h:(none:Al β) = Ab a):p:=by cases h
theorem uL {β : Type}{c:Prop}[Il c]{a b:β}(h:(if c then Ab a else none)=Ab b):c/\a=b:=by
 by_cases z:c
 .rw[Bc z] at h;exact⟨z,Cj h⟩
 .rw[Aw z] at h;exact nn h
end _D
end
namespace _D
open PySem PySem.Spec PyProof.Rows _L
variable {us:Aa Ac}{body:Aa Fb}{vs:Aa V}{u:Ac}{p C:Ad}{od:Al Ad}{sl:Bj (Al Ac)}{sp:Sp}{S:Sto}{Q:VK}
abbrev DE:=qC->Sto->Res D
abbrev DT:=qC->Sto->Res Ap
abbrev DA:=qC->Sto->Res (Aa D)
inductive Out where
 |nx (env:qC) (S:Sto)|rt (d:D) (S:Sto)|bk (env:qC) (S:Sto)|ct (env:qC) (S:Sto)|ex (c:Ac) (x:D) (env:qC) (S:Sto)|bad
abbrev DS:=qC->Sto->Out
def Old (X:Cx)(pins:Aa (Ad × Cg))(H:Hp)(b:Ad):Prop:=
 (∃ o,X.s₀.heap.get? b=Ab o)\/H b≠none\/(∃ p∈X.pn++pins,p.1=b)\/∃ x,X.env.cells.lookup x=Ab b
def Cv (X:Cx)(pins:Aa (Ad × Cg))(H:Hp)(B h:Bs):Prop:=∀ b o,h.get? b=Ab o->Old X pins H b->b ∉ frs X.stack->B.get? b=Ab o
inductive FlyX (X:Cx)(pins:Aa (Ad × Cg))(H:Hp)(c:Ac)(e:Ad)(h:Bs):Prop where
 |new (g:Bs) (args:Aa Ac):Xc g h e c args->g.FunFrames X.base X.stack->(∀ b o,h.get? b=Ab o->Old X pins H b->g.get? b=Ab o)->FlyX X pins H c e h
 |fly (B:Bs) (a0:Ac):Uh B X.stack e c a0 h->Cv X pins H B h->FlyX X pins H c e h
inductive XOk (X:Cx)(P:Hp)(α : Aa Ad)(c:Ac)(x:D)(S:Sto)(u:Ac)(s:Ah):Prop
 |mk (e:Ad) (pins:Aa (Ad × Cg)) (σ : _L.St) (H:Hp) (P':Hp) (α' : Aa Ad) (e1:u=.ref e) (I:Inv X pins σ H s) (r:Rel X.K H P' α' S) (q1:qD P P') (q2:α<+:α') (q3:X.ex=[]/\X.stack=X.env::X.outer/\X.env.frame=Ab X.env.locals) (q4:FlyX X pins H c e s.heap):XOk X P α c x S u s
theorem XOk.base {X:Cx}{P P1:Hp}{α α1:Aa Ad}{c:Ac}{x:D}{s:Ah}(e:qD P P1)(h:α<+:α1)(k:XOk X P1 α1 c x S u s):XOk X P α c x S u s:=by
 obtain⟨a,pins,σ,H,P',α',e1,I,r,q1,q2,q3,q4⟩:=k;exact⟨a,pins,σ,H,P',α',e1,I,r,e.trans q1,h.trans q2,q3,q4⟩
section
variable (X:Cx)
def qI {β:Type}(P:Hp)(α : Aa Ad)(r:Res β)(Ok:β->Sto->Prop):Prop:=
 match r with
 |.ok d S'=>Ok d S'
 |.ex c x S'=>∀ u s',XOk X P α c x S' u s'->X.xe u s'
 |.bad=>Ez
def OkV (P:Hp)(α : Aa Ad)(Q:VK)(d:D)(S':Sto):Prop:=∀ v H' P' α',Rel X.K H' P' α' S'->qD P P'->α<+:α'->Rep X.K P' α' d v->Q v H'
def OkT (P:Hp)(α : Aa Ad)(Q:Ap->Hp->Prop)(b:Ap)(S':Sto):Prop:=∀ H' P' α',Rel X.K H' P' α' S'->qD P P'->α<+:α'->Q b H'
def OkA (P:Hp)(α : Aa Ad)(Q:Aa V->Hp->Prop)(ds:Aa D)(S':Sto):Prop:=∀ vs H' P' α',Rel X.K H' P' α' S'->qD P P'->α<+:α'->qB X.K P' α' ds vs->Q vs H'
abbrev qP (P:Hp)(α : Aa Ad)(r:Res D)(Q:VK):Prop:=qI X P α r (OkV X P α Q)
abbrev w6 (P:Hp)(α : Aa Ad)(r:Res Ap)(Q:Ap->Hp->Prop):Prop:=qI X P α r (OkT X P α Q)
abbrev gR (P:Hp)(α : Aa Ad)(r:Res (Aa D))(Q:Aa V->Hp->Prop):Prop:=qI X P α r (OkA X P α Q)
def qQ (P:Hp)(α : Aa Ad)(r:Out)(D:Ends):Prop:=
 match r with
 |.nx env' S'=>∀ σ' H' P' α',Rel X.K H' P' α' S'->z0 X.K P' α' σ' env'->qD P P'->α<+:α'->D.nx σ' H'
 |.bk env' S'=>∀ σ' H' P' α',Rel X.K H' P' α' S'->z0 X.K P' α' σ' env'->qD P P'->α<+:α'->D.bk σ' H'
 |.ct env' S'=>∀ σ' H' P' α',Rel X.K H' P' α' S'->z0 X.K P' α' σ' env'->qD P P'->α<+:α'->D.ct σ' H'
 |.rt d S'=>∀ v H' P' α',Rel X.K H' P' α' S'->qD P P'->α<+:α'->Rep X.K P' α' d v->D.rt v H'
 |.ex c x _ S'=>∀ u s',XOk X P α c x S' u s'->X.xe u s'
 |.bad=>Ez
inductive tD (f:DE)(σ : _L.St)(H:Hp)(Q:VK):Prop
 |mk (P:Hp) (α : Aa Ad) (env:qC) (S:Sto) (r:Rel X.K H P α S) (re:z0 X.K P α σ env) (af:qP X P α (f env S) Q):tD f σ H Q
inductive tDT (f:DT)(σ : _L.St)(H:Hp)(Q:Ap->Hp->Prop):Prop
 |mk (P:Hp) (α : Aa Ad) (env:qC) (S:Sto) (r:Rel X.K H P α S) (re:z0 X.K P α σ env) (af:w6 X P α (f env S) Q):tDT f σ H Q
inductive tDA (f:DA)(σ : _L.St)(H:Hp)(Q:Aa V->Hp->Prop):Prop
 |mk (P:Hp) (α : Aa Ad) (env:qC) (S:Sto) (r:Rel X.K H P α S) (re:z0 X.K P α σ env) (af:gR X P α (f env S) Q):tDA f σ H Q
inductive tDS (f:DS)(D:Ends)(σ : _L.St)(H:Hp):Prop
 |mk (P:Hp) (α : Aa Ad) (env:qC) (S:Sto) (r:Rel X.K H P α S) (re:z0 X.K P α σ env) (af:qQ X P α (f env S) D):tDS f D σ H
end
section
variable {X:Cx}{P P1:Hp}{α α1:Aa Ad}
theorem qP.base {r:Res D}(e:qD P P1)(h:α<+:α1)(k:qP X P α r Q):qP X P1 α1 r Q:=by
 cases r with
 |ok d S=>exact λv H' P' α' r q1 q2 q3=>k v H' P' α' r (e.trans q1) (h.trans q2) q3
 |ex c x S=>exact λu s' q=>k u s' (q.base e h)
 |bad=>exact k
theorem w6.base {r:Res Ap}{Q:Ap->Hp->Prop}(e:qD P P1)(h:α<+:α1)(k:w6 X P α r Q):w6 X P1 α1 r Q:=by
 cases r with
 |ok d S=>exact λH' P' α' r q1 q2=>k H' P' α' r (e.trans q1) (h.trans q2)
 |ex c x S=>exact λu s' q=>k u s' (q.base e h)
 |bad=>exact k
theorem gR.base {r:Res (Aa D)}{Q:Aa V->Hp->Prop}(e:qD P P1)(h:α<+:α1)(k:gR X P α r Q):gR X P1 α1 r Q:=by
 cases r with
 |ok d S=>exact λv H' P' α' r q1 q2 q3=>k v H' P' α' r (e.trans q1) (h.trans q2) q3
 |ex c x S=>exact λu s' q=>k u s' (q.base e h)
 |bad=>exact k
theorem qQ.base {r:Out}{D:Ends}(e:qD P P1)(h:α<+:α1)(k:qQ X P α r D):qQ X P1 α1 r D:=by
 cases r with
 |nx env S=>exact λv H' P' α' r q0 q1 q2=>k v H' P' α' r q0 (e.trans q1) (h.trans q2)
 |bk env S=>exact λv H' P' α' r q0 q1 q2=>k v H' P' α' r q0 (e.trans q1) (h.trans q2)
 |ct env S=>exact λv H' P' α' r q0 q1 q2=>k v H' P' α' r q0 (e.trans q1) (h.trans q2)
 |rt d S=>exact λv H' P' α' r q1 q2 q3=>k v H' P' α' r (e.trans q1) (h.trans q2) q3
 |ex c x env S=>exact λu s' q=>k u s' (q.base e h)
 |bad=>exact k
theorem xr {v:V}{H:Hp}{d:D}(k:OkV X P α Q d S)(r:Rel X.K H P α S)(q:Rep X.K P α d v):Q v H:=k v H P α r (qD.refl _) (Bf _) q
end
section
variable {X:Cx}{a b e:Bn}{pos:Eg}
theorem peW {t t':TE}(h:PE X e t)(w:∀ σ H Q,t' σ H Q->t σ H Q):PE X e t':=λpins s σ H Q I q=>h pins s σ H Q I (w σ H Q q)
theorem psW {st:Fb}{t t':TS}(h:PS X st t)(w:∀ D σ H,t' D σ H->t D σ H):PS X st t':=λpins s σ H D I q=>h pins s σ H D I (w D σ H q)
theorem N1 {st:Aa Fb}{t t':TS}(h:PSs X st t)(w:∀ D σ H,t' D σ H->t D σ H):PSs X st t':=λpins s σ H D I q=>h pins s σ H D I (w D σ H q)
theorem paW {es:Aa Bn}{t t':TA}(h:PA X es t)(w:∀ σ H Q,t' σ H Q->t σ H Q):PA X es t':=λpos pins s σ H Q I q=>h pos pins s σ H Q I (w σ H Q q)
structure Got (X:Cx)(pins:Aa (Ad × Cg))(σ : _L.St)(env:qC)(P:Hp)(α : Aa Ad)(u:Ac)(s1:Ah)(v:V)(H1 P1:Hp)(α1:Aa Ad)(d:D)(S1:Sto):Prop where
 inv:Inv X pins σ H1 s1
 val:qF v u
 rel:Rel X.K H1 P1 α1 S1
 env:z0 X.K P1 α1 σ env
 rep:Rep X.K P1 α1 d v
 same:qD P P1
 pre:α<+:α1
inductive GotG (X:Cx)(pins:Aa (Ad × Cg))(σ : _L.St)(env:qC)(P:Hp)(α : Aa Ad)(u:Ac)(s1:Ah){γ : Type}(g:D->Sto->Res γ)(Ok:γ->Sto->Prop):Prop
 |mk (v:V) (H1 P1:Hp) (α1:Aa Ad) (d:D) (S1:Sto) (G:Got X pins σ env P α u s1 v H1 P1 α1 d S1) (q:qI X P α (g d S1) Ok):GotG X pins σ env P α u s1 g Ok
inductive GotAG (X:Cx)(pins:Aa (Ad × Cg))(σ : _L.St)(env:qC)(P:Hp)(α : Aa Ad)(us:Aa Ac)(s1:Ah){γ : Type}(g:Aa D->Sto->Res γ)(Ok:γ->Sto->Prop):Prop
 |mk (vs:Aa V) (H1 P1:Hp) (α1:Aa Ad) (ds:Aa D) (S1:Sto) (I:Inv X pins σ H1 s1) (rv:qH vs us) (r:Rel X.K H1 P1 α1 S1) (re:z0 X.K P1 α1 σ env) (rp:qB X.K P1 α1 ds vs) (e1:qD P P1) (e2:α<+:α1) (q:qI X P α (g ds S1) Ok):GotAG X pins σ env P α us s1 g Ok
inductive GotT (X:Cx)(pins:Aa (Ad × Cg))(σ : _L.St)(env:qC)(P:Hp)(α : Aa Ad)(b:Ap)(s1:Ah){γ : Type}(g:Ap->Sto->Res γ)(Ok:γ->Sto->Prop):Prop
 |mk (H1 P1:Hp) (α1:Aa Ad) (S1:Sto) (I:Inv X pins σ H1 s1) (r:Rel X.K H1 P1 α1 S1) (re:z0 X.K P1 α1 σ env) (e1:qD P P1) (e2:α<+:α1) (q:qI X P α (g b S1) Ok):GotT X pins σ env P α b s1 g Ok
theorem zL {γ:Type}{f:DE}{g:D->Sto->Res γ}{Ok:γ->Sto->Prop}{pins:Aa (Ad × Cg)}{s:Ah}{σ:_L.St}{H P:Hp}{α:Aa Ad}{env:qC}(he:PE X e (tD X f))(I:Inv X pins σ H s)(r:Rel X.K H P α S)
  (re:z0 X.K P α σ env) (af:qI X P α ((f env S).bind g) Ok) :
  Av (Ba X.prog X.w) X.A (eval e X.env) (λu s1=>GotG X pins σ env P α u s1 g Ok) X.xe s:=by
 refine thn (he pins s σ H (λv H1=>∃ P1 α1 d S1,Rel X.K H1 P1 α1 S1/\z0 X.K P1 α1 σ env/\Rep X.K P1 α1 d v/\qD P P1/\α<+:α1/\qI X P α (g d S1) Ok) I ⟨P,α,env,S,r,re,?_⟩) λu s1 ⟨v,H1,I1,rv,P1,α1,d,S1,q1,q2,q3,q4,q5,q6⟩=>⟨v,H1,P1,α1,d,S1,⟨I1,rv,q1,q2,q3,q4,q5⟩,q6⟩;cases q:f env S with
 |bad=>rw[q] at af;exact af
 |ex c x S'=>rw[q] at af;exact af
 |ok d S' =>
  rw[q] at af;exact λv H' P' α' r' e1 e2 rp=>⟨P',α',d,S',r',re.mono e1 e2,rp,e1,e2,af⟩
theorem wC {γ:Type}{es:Aa Bn}{f:DA}{g:Aa D->Sto->Res γ}{Ok:γ->Sto->Prop}{pins:Aa (Ad × Cg)}{s:Ah}{σ:_L.St}{H P:Hp}{α:Aa Ad}{env:qC}(he:PA X es (tDA X f))(I:Inv X pins σ H s)(r:Rel X.K H P α S)
  (re:z0 X.K P α σ env) (af:qI X P α ((f env S).bind g) Ok) (pos:Eg) :
  Av (Ba X.prog X.w) X.A (spliced (Ft pos (Bl es X.env))) (λus s1=>GotAG X pins σ env P α us s1 g Ok) X.xe s:=by
 refine thn (he pos pins s σ H (λvs H1=>∃ P1 α1 ds S1,Rel X.K H1 P1 α1 S1/\z0 X.K P1 α1 σ env/\qB X.K P1 α1 ds vs/\qD P P1/\α<+:α1/\qI X P α (g ds S1) Ok) I ⟨P,α,env,S,r,re,?_⟩) λu s1 ⟨v,H1,I1,rv,P1,α1,d,S1,q1,q2,q3,q4,q5,q6⟩=>⟨v,H1,P1,α1,d,S1,I1,rv,q1,q2,q3,q4,q5,q6⟩;cases q:f env S with
 |bad=>rw[q] at af;exact af
 |ex c x S'=>rw[q] at af;exact af
 |ok d S' =>
  rw[q] at af;exact λv H' P' α' r' e1 e2 rp=>⟨P',α',d,S',r',re.mono e1 e2,rp,e1,e2,af⟩
theorem jR {γ:Type}{f:DT}{g:Ap->Sto->Res γ}{Ok:γ->Sto->Prop}{pins:Aa (Ad × Cg)}{s:Ah}{σ:_L.St}{H P:Hp}{α:Aa Ad}{env:qC}{m:Ke Ap}
  (he:∀ (Q:Ap->Hp->Prop),tDT X f σ H Q->Av (Ba X.prog X.w) X.A m (TP X pins σ Q) X.xe s) (r:Rel X.K H P α S) (re:z0 X.K P α σ env) (af:qI X P α ((f env S).bind g) Ok) :
  Av (Ba X.prog X.w) X.A m (λb s1=>GotT X pins σ env P α b s1 g Ok) X.xe s:=by
 refine thn (he (λb H1=>∃ P1 α1 S1,Rel X.K H1 P1 α1 S1/\z0 X.K P1 α1 σ env/\qD P P1/\α<+:α1/\qI X P α (g b S1) Ok) ⟨P,α,env,S,r,re,?_⟩) λb s1 ⟨H1,I1,P1,α1,S1,q1,q2,q4,q5,q6⟩=>⟨H1,P1,α1,S1,I1,q1,q2,q4,q5,q6⟩;cases q:f env S with
 |bad=>rw[q] at af;exact af
 |ex c x S'=>rw[q] at af;exact af
 |ok d S' =>
  rw[q] at af;exact λH' P' α' r' e1 e2=>⟨P',α',S',r',re.mono e1 e2,e1,e2,af⟩
noncomputable def dC (d:D):DE:=λ_ S=>.ok d S
noncomputable def q9 (i:Af):DE:=λenv S=>match env[i]? with
 |some (Ab d)=>.ok d S
 |_=>.bad
theorem BO:PE X (.Constant (.int i) j pos) (tD X (dC (.int i))):=peW TF λσ H Q ⟨P,α,env,S,r,re,af⟩=>xr af r (by simp only[Rep])
theorem D3:PE X (.Constant (.bool i) j pos) (tD X (dC (.bl i))):=peW R0 λσ H Q ⟨P,α,env,S,r,re,af⟩=>xr af r (by simp only[Rep])
theorem BU:PE X (.Constant (.str i) j pos) (tD X (dC (.str i))):=peW TK λσ H Q ⟨P,α,env,S,r,re,af⟩=>xr af r (by simp only[Rep])
theorem BQ:PE X (.Constant .none j pos) (tD X (dC .non)):=peW TH λσ H Q ⟨P,α,env,S,r,re,af⟩=>xr af r (by simp only[Rep])
set_option tactic.hygienic true in
theorem GU {i:Af}{σ:_L.St}{H:Hp}(h:tD X (q9 i) σ H Q):LD i σ H Q:=by
 obtain⟨P,α,env,S,r,re,af⟩:=h;unfold q9 at af
 split at af
 .rename_i d q
  obtain⟨v,h1,h2⟩:=re.2 i d q;exact⟨v,h1,xr af r h2⟩
 .exact An af
theorem dv (i:Af){x:Ao}(hN:X.N[i]? = Ab x:=by rfl)(hv:Vis X.env.scope x:=by first|exact Xl rfl|exact Vp (Xl rfl)|exact Vp (Vp rfl))(hd:(x == ("__debug__" : Ao))=false:=by decide)
  (hcd:(x == ("__classdict__" : Ao))=false:=by decide):PE X (.Name x pos) (tD X (q9 i)):=peW (TM hN hv hd hcd) λσ H Q h=>GU h
theorem U9 {x:Ao}{d:D}{v:V}(hg:Gl X x)(hm:X.mg x=Ab u)(r:qF v u)(q:∀ P α,Rep X.K P α d v)(hd:(x == ("__debug__" : Ao))=false:=by decide):PE X (.Name x pos) (tD X (dC d)):=
 peW (KD hg hm r hd) λσ H Q ⟨P,α,env,S,r,re,af⟩=>xr af r (q _ _)
theorem U7 {x:Ao}{n:Dt}(hg:Gl X x)(hm:X.mg x=none)(hv:Fd x=Ab (.type n))(hn:x ≠ "__name__":=by decide)(hd:(x == ("__debug__" : Ao))=false:=by decide):PE X (.Name x pos) (tD X (dC (.ty n))):=
 peW (KC (v:=.ty n) hg hm hv rfl hn hd) λσ H Q ⟨P,α,env,S,r,re,af⟩=>xr af r (by simp only[Rep])
abbrev G2:=D->D->Sto->Res D
def OpD (X:Cx)(f:Ac->Ac->Ke Ac)(g:G2):Prop:=
 ∀ (pins:Aa (Ad × Cg)) (σ : _L.St) (H:Hp) (s:Ah) (P:Hp) (α : Aa Ad) (S:Sto) (v u:V) (vv uu:Ac) (a b:D) (Q:VK),Inv X pins σ H s->Rel X.K H P α S->qF v vv->qF u uu->Rep X.K P α a v->Rep X.K P α b u->qP X P α (g a b S) Q ->
  Av (Ba X.prog X.w) X.A (f vv uu) (EP X pins σ Q) X.xe s
theorem OpD.of {f:Ac->Ac->Ke Ac}{r:R2}{g:G2}(h:OpR X f r)(w:∀ H P α S v u a b Q,Rel X.K H P α S->Rep X.K P α a v->Rep X.K P α b u->qP X P α (g a b S) Q->r v u H Q):OpD X f g:=
 λpins σ H s P α S v u vv uu a b Q I rl r1 r2 p1 p2 af=>h pins s σ H v u vv uu Q I r1 r2 (w H P α S v u a b Q rl p1 p2 af)
def IxD (X:Cx)(g:G2):Prop:=
 ∀ (value slice:Bn) (pins:Aa (Ad × Cg)) (σ : _L.St) (H:Hp) (s:Ah) (P:Hp) (α : Aa Ad) (S:Sto) (v u:V) (vv uu:Ac) (a b:D) (Q:VK),Inv X pins σ H s->Rel X.K H P α S->qF v vv->qF u uu->Rep X.K P α a v->Rep X.K P α b u->qP X P α (g a b S) Q ->
  subscripted slice false vv uu=operate [vv,uu] (OL vv uu)->Av (Ba X.prog X.w) X.A (Sv value slice vv uu) (EP X pins σ Q) X.xe s
def wL (X:Cx)(f:Ac)(g:Aa D->Sto->Res D):Prop:=
 ∀ (pins:Aa (Ad × Cg)) (σ : _L.St) (H:Hp) (s:Ah) (P:Hp) (α : Aa Ad) (S:Sto) (vs:Aa V) (us:Aa Ac) (ds:Aa D) (Q:VK),Inv X pins σ H s->Rel X.K H P α S->qH vs us->qB X.K P α ds vs->qP X P α (g ds S) Q ->
  Av (Ba X.prog X.w) X.A (call f us) (EP X pins σ Q) X.xe s
noncomputable def d2 (g:G2)(fa fb:DE):DE:=λenv S=>(fa env S).bind λx S1=>(fb env S1).bind λy S2=>g x y S2
noncomputable def d1 (g:D->Sto->Res D)(fa:DE):DE:=λenv S=>(fa env S).bind g
variable {fa fb:DE}
theorem lU {g:G2}{f:Ac->Ac->Ke Ac}{pins:Aa (Ad × Cg)}{s:Ah}{σ:_L.St}{H:Hp}(ho:OpD X f g)(ha:PE X a (tD X fa))(hb:PE X b (tD X fb))(I:Inv X pins σ H s)(h:tD X (d2 g fa fb) σ H Q) :
  Av (Ba X.prog X.w) X.A (eval a X.env) (λv s₁=>Av (Ba X.prog X.w) X.A (eval b X.env) (λu s₂=>Av (Ba X.prog X.w) X.A (f v u) (EP X pins σ Q) X.xe s₂) X.xe s₁) X.xe s:=by
 obtain⟨P,α,env,S,r,re,af⟩:=h;refine thn (zL ha I r re af) λvv s1 ⟨v,H1,P1,α1,d,S1,G1,af1⟩=>?_;refine thn (zL hb G1.inv G1.rel G1.env (P:=P1) (α:=α1) (Ok:=OkV X P1 α1 Q) (g:=λy S2=>g d y S2) ?_) λuu s2 ⟨u,H2,P2,α2,d',S2,G2,af2⟩=>?_
 .exact qP.base G1.same G1.pre af1
 .exact ho pins σ H2 s2 P2 α2 S2 v u vv uu d d' Q G2.inv G2.rel G1.val G2.val (Rep.mono G2.same G2.pre _ _ G1.rep) G2.rep (qP.base G2.same G2.pre af2)
theorem D7 {op:Mb}{g:G2}(ho:OpD X (Dp op) g)(ha:PE X a (tD X fa))(hb:PE X b (tD X fb)):PE X (.BinOp a op b pos) (tD X (d2 g fa fb)):=
 λpins s σ H Q I h=>wpAny_BinOp (lU ho ha hb I h)
theorem BL {op:Sm}{g:G2}(ho:OpD X (Ch op) g)(ha:PE X a (tD X fa))(hb:PE X b (tD X fb))(hm:Kk op b=false:=by first|exact pA _|with_unfolding_all rfl):PE X (.Compare a [op] [b] pos) (tD X (d2 g fa fb)):=
 λpins s σ H Q I h=>wpAny_Compare1 (lU ho ha hb I h) hm
theorem D6 {g:G2}(ho:IxD X g)(ha:PE X a (tD X fa))(hb:PE X b (tD X fb))(hs:mI b:=by intro _ _;rfl):PE X (.Subscript a b pos) (tD X (d2 g fa fb)):=by
 intro pins s σ H Q I h;obtain⟨P,α,env,S,r,re,af⟩:=h;have IxR':IxR X (λx y H Q=>∃ P α S a b,Rel X.K H P α S/\Rep X.K P α a x/\Rep X.K P α b y/\qP X P α (g a b S) Q):=λvalue slice pins s σ H x y v u Q I rx ry ⟨P,α,S,a,b,r,p1,p2,af⟩ hsl =>
  ho value slice pins σ H s P α S x y v u a b Q I r rx ry p1 p2 af hsl
 refine peW (R4 IxR' ha hb hs) (t':=tD X (d2 g fa fb)) (λσ H Q h=>?_) pins s σ H Q I ⟨P,α,env,S,r,re,af⟩;obtain⟨P,α,env,S,r,re,af⟩:=h;refine⟨P,α,env,S,r,re,?_⟩;unfold d2 at af;cases q:fa env S with
 |bad=>rw[q] at af;exact af
 |ex c x S'=>rw[q] at af;exact af
 |ok d S1 =>
  rw[q] at af;intro v H1 P1 α1 r1 e1 e2 rp;refine⟨P1,α1,env,S1,r1,re.mono e1 e2,?_⟩;have af':qP X P α ((fb env S1).bind λy S2=>g d y S2) Q:=af;cases q2:fb env S1 with
  |bad=>rw[q2] at af';exact af'
  |ex c x S'=>rw[q2] at af';exact λu s' z=>af' u s' (z.base e1 e2)
  |ok d' S2 =>
   rw[q2] at af';intro u H2 P2 α2 r2 e3 e4 rp2;exact⟨P2,α2,S2,d,d',r2,Rep.mono e3 e4 _ _ rp,rp2,qP.base (e1.trans e3) (e2.trans e4) af'⟩
noncomputable def qA:DA:=λ_ S=>.ok [] S
noncomputable def q8 (f:DE)(g:DA):DA:=λenv S=>(f env S).bind λx S1=>(g env S1).bind λxs S2=>.ok (x::xs) S2
theorem BH:PA X [] (tDA X qA):=paW TC λσ H Q ⟨P,α,env,S,r,re,af⟩=>af [] H P α r (qD.refl _) (Bf _) .nil
theorem U6 {es:Aa Bn}{g:DA}(ha:PE X e (tD X fa))(hr:PA X es (tDA X g))(hs:Bl (e::es) X.env=(false,eval e X.env)::Bl es X.env:=by rfl):PA X (e::es) (tDA X (q8 fa g)):=by
 intro pos pins s σ H Q I h;obtain⟨P,α,env,S,r,re,af⟩:=h;rw[hs];show Av _ _ (spliced ((false,eval e X.env)::Ft pos (Bl es X.env))) _ _ s;refine Ot (thn (zL ha I r re af) λu s1 ⟨x,H1,P1,α1,d,S1,G1,af1⟩=>?_);refine thn (wC hr G1.inv G1.rel G1.env (P:=P1) (α:=α1) (Ok:=OkA X P1 α1 Q) (gR.base G1.same G1.pre af1) pos) λus s2 ⟨xs,H2,P2,α2,ds,S2,I2,rv,r2,re2,rp2,e1,e2,af2⟩=>?_;exact⟨x::xs,H2,I2,.cons G1.val rv,af2 _ _ _ _ r2 e1 e2 (.cons (Rep.mono e1 e2 _ _ G1.rep) rp2)⟩
noncomputable def lim:Af:=16777216
theorem zS:lim=sizeLine:=Fu.symm
noncomputable def jF (f:DA):DE:=λenv S=>(f env S).bind λxs S1=>if xs.length<=lim then .ok (.tup xs) S1 else .bad
noncomputable def jE (f:DA):DE:=λenv S=>(f env S).bind λxs S1=>if xs.length<=lim then .ok (.lst xs) S1 else .bad
noncomputable def pS (f:DA):DE:=λenv S=>(f env S).bind λxs S1=>if xs.length<=lim then .ok (.loc S1.length) (S1++[.lst xs]) else .bad
theorem bF {K:Ak}{P:Hp}{α:Aa Ad}{a:Ad}{ds:Aa D}(h:SqT K P a vs)(r:qB K P α ds vs):Rep K P α (.tup ds) (.ref a):=by simp only[Rep];exact⟨a,vs,rfl,h,r⟩
theorem tQ {K:Ak}{P:Hp}{α:Aa Ad}{a:Ad}{ds:Aa D}(h:SqX K P a vs)(r:qB K P α ds vs):Rep K P α (.lst ds) (.ref a):=by simp only[Rep];exact⟨a,vs,rfl,h,r⟩
theorem gA {H P:Hp}{α:Aa Ad}{ds:Aa D}(r:Rel X.K H P α S)(hp:H p=none)(rp:qB X.K P α ds vs)(af:OkV X P α Q (.tup ds) S):Q (.ref p) (upd H p (.tup vs)):=by
 obtain⟨r1,e1⟩:=r.pure (o:=.tup vs) hp;exact af _ _ _ α r1 e1 (Bf _) (bF (.of qV) (qB.mono e1 (Bf _) _ _ rp))
theorem vF {H P:Hp}{α:Aa Ad}{ds:Aa D}(r:Rel X.K H P α S)(hp:H p=none)(rp:qB X.K P α ds vs)(af:OkV X P α Q (.lst ds) S):Q (.ref p) (upd H p (.lst vs)):=by
 obtain⟨r1,e1⟩:=r.pure (o:=.lst vs) hp;exact af _ _ _ α r1 e1 (Bf _) (tQ (.inl (.inl qV)) (qB.mono e1 (Bf _) _ _ rp))
theorem tL {H P:Hp}{α:Aa Ad}{ds:Aa D}(r:Rel X.K H P α S)(hp:H p=none)(rp:qB X.K P α ds vs)(af:OkV X P α Q (.loc S.length) (S++[.lst ds])):Q (.ref p) (upd H p (.lst vs)):=by
 have hpre:α<+:α++[p]:=Gy _ _;have r1:=r.new (o:=.lst vs) (m:=.lst ds) hp ⟨vs,qV,qB.mono (qD.refl _) hpre _ _ rp⟩;refine af _ _ _ _ r1 (qD.refl _) hpre ?_;simp only[Rep];exact⟨p,rfl,by rw[<- r.len];simp⟩
theorem mR {f:DA}{σ:_L.St}{H:Hp}{G:Aa D->Sto->Res D}{mk:Aa V->HO}(h:tD X (λenv S=>(f env S).bind λxs S1=>if xs.length<=lim then G xs S1 else .bad) σ H Q)
  (k:∀ H1 P1 α1 S1 ds vs p,Rel X.K H1 P1 α1 S1->H1 p=none->qB X.K P1 α1 ds vs->qP X P1 α1 (G ds S1) Q->Q (.ref p) (upd H1 p (mk vs))) :
  tDA X f σ H λvs H1=>vs.length<=sizeLine/\∀ p,H1 p=none->Q (.ref p) (upd H1 p (mk vs)):=by
 obtain⟨P,α,env,S,r,re,af⟩:=h;refine⟨P,α,env,S,r,re,?_⟩;have af':qP X P α ((f env S).bind λxs S1=>if xs.length<=lim then G xs S1 else .bad) Q:=af
 cases q:f env S with
 |bad=>rw[q] at af';exact af'
 |ex c x S'=>rw[q] at af';exact af'
 |ok ds S1 =>
  rw[q] at af';intro vs H1 P1 α1 r1 e1 e2 rp;have af2:qP X P α (if ds.length<=lim then G ds S1 else .bad) Q:=af'
  by_cases hl:ds.length<=lim
  .rw[Bc hl] at af2
   exact⟨by rw[<- rp.length,<- zS];exact hl,λp hp=>k H1 P1 α1 S1 ds vs p r1 hp rp (qP.base e1 e2 af2)⟩
  .rw[Aw hl] at af2;exact An af2
theorem BV {es:Aa Bn}{f:DA} {x1} (h:PA X es (tDA X f)):PE X (.Tuple es x1 pos) (tD X (jF f)):=
 peW (TL h) λσ H Q q=>mR (G:=λxs S1=>.ok (.tup xs) S1) (mk:=.tup) q λH1 P1 α1 S1 ds vs p r hp rp af=>gA r hp rp af
theorem BP {es:Aa Bn}{f:DA}(h:PA X es (tDA X f)):PE X (.List es pos) (tD X (jE f)):=
 peW (oU h) λσ H Q q=>mR (G:=λxs S1=>.ok (.lst xs) S1) (mk:=.lst) q λH1 P1 α1 S1 ds vs p r hp rp af=>vF r hp rp af
theorem UB {es:Aa Bn}{f:DA}(h:PA X es (tDA X f)):PE X (.List es pos) (tD X (pS f)):=
 peW (oU h) λσ H Q q=>mR (G:=λxs S1=>.ok (.loc S1.length) (S1++[MO.lst xs])) (mk:=.lst) q λH1 P1 α1 S1 ds vs p r hp rp af=>tL r hp rp af
end
section
variable {X:Cx}{a b c e:Bn}{pos:Eg}{fa fb fc:DE}{ta tb:DT}
noncomputable def x5:D->Sto->Al Ap
 |.non,_=>Ab false
 |.bl b,_=>Ab b
 |.int i,_=>Ab (i != 0)
 |.str x,_=>if x.length<=lim then Ab ((x.length:Ag) != 0) else none
 |.tup xs,_=>Ab (!xs.isEmpty)
 |.lst xs,_=>Ab (!xs.isEmpty)
 |.dct0,_=>Ab false
 |.loc i,S=>match S[i]? with
  |some (.lst xs)=>Ab (!xs.isEmpty)
  |some (.dct kvs)=>Ab (!kvs.isEmpty)
  |_=>none
 |_,_=>none
theorem qB.isEmpty {K:Ak}{P:Hp}{α:Aa Ad}{ds:Aa D}(r:qB K P α ds vs):(!ds.isEmpty)=!vs.isEmpty:=by
 cases ds with
 |nil=>rw[r.nil_inv];rfl
 |cons d ds=>obtain⟨w,ws,rfl,_,_⟩:=r.cons_inv;rfl
theorem xS {K:Ak}{H P:Hp}(e:qD P H){a:Ad}{xs:Aa V}(h:SqT K P a xs):SqT K H a xs:=wI e h
theorem vJ {H P:Hp}{α:Aa Ad}{v:V}{d:D}{k:Ap}(r:Rel X.K H P α S)(p:Rep X.K P α d v)(h:x5 d S=Ab k):cG X.K v H k:=by
 cases d with
 |non=>simp only[Rep] at p;subst p;cases h;rfl
 |bl b=>simp only[Rep] at p;subst p;cases h;rfl
 |int i=>simp only[Rep] at p;subst p;cases h;rfl
 |str x =>
  simp only[Rep] at p;subst p;obtain⟨hl,rfl⟩:=uL h;exact⟨by rw[<- zS];exact hl,rfl⟩
 |tup xs =>
  simp only[Rep] at p;obtain⟨a,vs,rfl,q,t⟩:=p;cases h;exact .inr (.inl ⟨vs,xS r.sub q,t.isEmpty⟩)
 |lst xs =>
  simp only[Rep] at p;obtain⟨a,vs,rfl,q,t⟩:=p;cases h;exact .inl ⟨vs,(xD r.sub q).l,t.isEmpty⟩
 |dct0 =>
  simp only[Rep] at p;obtain⟨a,rfl,q⟩:=p;cases h;exact .inr (.inr ⟨[],r.sub _ _ q,rfl⟩)
 |loc i =>
  simp only[Rep] at p;obtain⟨a,rfl,q⟩:=p;have h:(match S[i]? with|some (.lst xs)=>Ab (!xs.isEmpty)|some (.dct kvs)=>Ab (!kvs.isEmpty)|_=>none)=Ab k:=h
  cases hs:S[i]? with
  |none=>rw[hs] at h;exact nn h
  |some m =>
   rw[hs] at h;cases m with
   |lst xs =>
    cases h;obtain⟨vs,z,t⟩:=r.at' i a _ q hs;exact .inl ⟨vs,.of z,t.isEmpty⟩
   |dct kvs =>
    cases h;obtain⟨vs,z,t⟩:=r.at' i a _ q hs;refine .inr (.inr ⟨vs,z,?_⟩);cases t <;> rfl
   |_=>exact nn h
 |ty n=>exact nn h
 |obj a=>exact nn h
 |exn c=>exact nn h
 |fd ks ds=>exact nn h
 |clo a vs ds=>exact nn h
theorem VQ {pins:Aa (Ad × Cg)}{s:Ah}{σ:_L.St}{H P:Hp}{α:Aa Ad}{v:V}{vv:Ac}{d:D}{k:Ap}{Q:Ap->Hp->Prop}(I:Inv X pins σ H s)(r:Rel X.K H P α S)(rv:qF v vv)(p:Rep X.K P α d v)(h:x5 d S=Ab k)(q:Q k H) :
  Av (Ba X.prog X.w) X.A (truthy vv) (TP X pins σ Q) X.xe s:=pI pins s σ H v vv Q I rv ⟨k,vJ r p h,q⟩
noncomputable def vU (o:Al Ap)(S:Sto):Res Ap:=match o with
 |some b=>.ok b S
 |none=>.bad
noncomputable def dTr (f:DE):DT:=λenv S=>(f env S).bind λd S1=>vU (x5 d S1) S1
theorem tS {o:Al Ap}{P:Hp}{α:Aa Ad}{Ok:Ap->Sto->Prop}(h:qI X P α (vU o S) Ok):∃ b,o=Ab b/\Ok b S:=by
 cases o with
 |none=>exact An h
 |some b=>exact⟨b,rfl,h⟩
theorem FB (ha:PE X a (tD X fa))(he:∀ whole,isTrue a X.env whole=(do let v <- whole;OO a.pos;holding [v] (truthy v)):=by intro _;rfl):PT X a (tDT X (dTr fa)):=by
 intro pins s σ H Q I h;obtain⟨P,α,env,S,r,re,af⟩:=h;refine isTrue_plain (thn (zL ha I r re af) λvv s1 ⟨v,H1,P1,α1,d,S1,G1,af1⟩=>?_) (he _);obtain⟨k,e1,q⟩:=tS af1;exact VQ G1.inv G1.rel G1.val G1.rep e1 (q H1 P1 α1 G1.rel G1.same G1.pre)
theorem F9 {op:Sm}{g:G2}(ho:OpD X (Ch op) g)(ha:PE X a (tD X fa))(hb:PE X b (tD X fb))(hm:Kk op b=false:=by first|exact pA _|with_unfolding_all rfl):PT X (.Compare a [op] [b] pos) (tDT X (dTr (d2 g fa fb))):=by
 intro pins s σ H Q I h;obtain⟨P,α,env,S,r,re,af⟩:=h;refine wpAny_isTrue_Compare1 ?_ hm;have key:tD X (d2 g fa fb) σ H (λv H1=>∃ k,cG X.K v H1 k/\Q k H1):=by
  refine⟨P,α,env,S,r,re,?_⟩;have af':qI X P α ((d2 g fa fb env S).bind λd S1=>vU (x5 d S1) S1) (OkT X P α Q):=af;cases q:d2 g fa fb env S with
  |bad=>rw[q] at af';exact af'
  |ex c x S'=>rw[q] at af';exact af'
  |ok d S1 =>
   rw[q] at af';obtain⟨k,e1,qk⟩:=tS (X:=X) af';exact λv H1 P1 α1 r1 e3 e4 rp=>⟨k,vJ r1 rp e1,qk H1 P1 α1 r1 e3 e4⟩
 exact thn (lU ho ha hb I key) λv s1 h1=>thn h1 λu s2 h2=>thn h2 λx s3 ⟨y,H3,I3,r3,k,tk,qk⟩=>pI pins s3 σ H3 y x Q I3 r3 ⟨k,tk,qk⟩
noncomputable def wB (g g':G2)(fa fb fc:DE):DE:=λenv S=>(fa env S).bind λx S1=>(fb env S1).bind λy S2=>(g x y S2).bind λz S3 =>
 match x5 z S3 with
 |some true=>(fc env S3).bind λw S4=>g' y w S4
 |some false=>.ok z S3
 |none=>.bad
inductive GotO (X:Cx)(pins:Aa (Ad × Cg))(σ : _L.St)(P:Hp)(α : Aa Ad)(w:Ac)(s1:Ah){γ : Type}(k:D->Sto->Res γ)(Ok:γ->Sto->Prop):Prop
 |mk (y:V) (H1 P1:Hp) (α1:Aa Ad) (d:D) (S1:Sto) (I:Inv X pins σ H1 s1) (rv:qF y w) (r:Rel X.K H1 P1 α1 S1) (rp:Rep X.K P1 α1 d y) (e1:qD P P1) (e2:α<+:α1) (q:qI X P α (k d S1) Ok):GotO X pins σ P α w s1 k Ok
theorem sC {γ:Type}{f:Ac->Ac->Ke Ac}{g:G2}{k:D->Sto->Res γ}{Ok:γ->Sto->Prop}{pins:Aa (Ad × Cg)}{σ:_L.St}{H:Hp}{s:Ah}{P:Hp}{α:Aa Ad}{v u:V}{vv uu:Ac}{a b:D}(ho:OpD X f g)(I:Inv X pins σ H s)(r:Rel X.K H P α S)
  (rv:qF v vv) (ru:qF u uu) (pa:Rep X.K P α a v) (pb:Rep X.K P α b u) (af:qI X P α ((g a b S).bind k) Ok) :
  Av (Ba X.prog X.w) X.A (f vv uu) (λw s1=>GotO X pins σ P α w s1 k Ok) X.xe s:=by
 refine thn (ho pins σ H s P α S v u vv uu a b (λy H1=>∃ P1 α1 d S1,Rel X.K H1 P1 α1 S1/\Rep X.K P1 α1 d y/\qD P P1/\α<+:α1/\qI X P α (k d S1) Ok) I r rv ru pa pb ?_) λw s1 ⟨y,H1,I1,r1,P1,α1,d,S1,q1,q2,q3,q4,q5⟩=>⟨y,H1,P1,α1,d,S1,I1,r1,q1,q2,q3,q4,q5⟩;cases q:g a b S with
 |bad=>rw[q] at af;exact af
 |ex c x S'=>rw[q] at af;exact af
 |ok d S' =>
  rw[q] at af;exact λv H' P' α' r' e1 e2 rp=>⟨P',α',d,S',r',rp,e1,e2,af⟩
theorem qI.base' {β:Type}{P P1:Hp}{α α1:Aa Ad}{r:Res β}{Ok Ok1:β->Sto->Prop}(e:qD P P1)(h:α<+:α1)(ho:∀ d S,Ok d S->Ok1 d S)(k:qI X P α r Ok):qI X P1 α1 r Ok1:=by
 cases r with
 |ok d S=>exact ho d S k
 |ex c x S=>exact λu s' q=>k u s' (q.base e h)
 |bad=>exact k
theorem ZZ {op op':Sm}{g g':G2}(ho:OpD X (Ch op) g)(ho':OpD X (Ch op') g')(ha:PE X a (tD X fa))(hb:PE X b (tD X fb))(hc:PE X c (tD X fc))
  (hm:Ux [op,op'] [b,c]=false:=by with_unfolding_all rfl):PE X (.Compare a [op,op'] [b,c] pos) (tD X (wB g g' fa fb fc)):=by
 intro pins s σ H Q I h;obtain⟨P,α,env,S,r,re,af⟩:=h;refine Compare_chain (thn (zL ha I r re af) λvv s1 ⟨v,H1,P1,α1,d,S1,G1,af1⟩=>chain_link (thn (zL hb G1.inv G1.rel G1.env (qP.base G1.same G1.pre af1)) λuu s2 ⟨u,H2,P2,α2,d',S2,G2,af2⟩ =>
  thn (sC ho G2.inv G2.rel G1.val G2.val (Rep.mono G2.same G2.pre _ _ G1.rep) G2.rep (qP.base G2.same G2.pre af2)) λw s3 ⟨y,H3,P3,α3,z,S3,I3,r3,rl3,rp3,e3,e4,af3⟩=>?_)) hm
 cases ht:x5 z S3 with
 |none=>simp only[ht] at af3;exact An af3
 |some k =>
  simp only[ht] at af3;have tv:=vJ rl3 rp3 ht;refine thn (pI pins s3 σ H3 y w (λk' H'=>k'=k/\H'=H3) I3 r3 ⟨k,tv,rfl,rfl⟩) λk' s4 ⟨H4,I4,hk,hH⟩=>?_;subst hk;subst hH;cases k' with
  |false=>exact ite_ff ⟨y,H4,I4,r3,af3 y H4 P3 α3 rl3 e3 e4 rp3⟩
  |true =>
   refine ite_tt (chain_last (thn (zL hc I4 rl3 (G2.env.mono e3 e4) (qP.base e3 e4 af3)) λww s5 ⟨w',H5,P5,α5,d5,S5,G5,af5⟩=>?_));exact ho' pins σ H5 s5 P5 α5 S5 u w' uu ww d' d5 Q G5.inv G5.rel G2.val G5.val (Rep.mono (e3.trans G5.same) (e4.trans G5.pre) _ _ G2.rep) G5.rep (qP.base G5.same G5.pre af5)
theorem X9 {op op':Sm}{g g':G2}(ho:OpD X (Ch op) g)(ho':OpD X (Ch op') g')(ha:PE X a (tD X fa))(hb:PE X b (tD X fb))(hc:PE X c (tD X fc))
  (hm:Ux [op,op'] [b,c]=false:=by with_unfolding_all rfl):PT X (.Compare a [op,op'] [b,c] pos) (tDT X (dTr (wB g g' fa fb fc))):=by
 intro pins s σ H Q I h;obtain⟨P,α,env,S,r,re,af⟩:=h;have af':qI X P α ((wB g g' fa fb fc env S).bind λd S1=>vU (x5 d S1) S1) (OkT X P α Q):=af;have assoc:(wB g g' fa fb fc env S).bind (λd S1=>vU (x5 d S1) S1)=(fa env S).bind λx S1=>(fb env S1).bind λy S2=>(g x y S2).bind λz S3 =>
   match x5 z S3 with
   |some true=>((fc env S3).bind λw S4=>g' y w S4).bind λd S1=>vU (x5 d S1) S1
   |some false=>.ok false S3
   |none=>.bad:=by
  unfold wB;cases fa env S with
  |bad=>rfl
  |ex _ _ _=>rfl
  |ok x S1 =>
   show Res.bind (Res.bind (fb env S1) _) _=Res.bind (fb env S1) _;cases fb env S1 with
   |bad=>rfl
   |ex _ _ _=>rfl
   |ok y S2 =>
    show Res.bind (Res.bind (g x y S2) _) _=Res.bind (g x y S2) _;cases g x y S2 with
    |bad=>rfl
    |ex _ _ _=>rfl
    |ok z S3 =>
     show Res.bind (match x5 z S3 with|some true=>(fc env S3).bind λw S4=>g' y w S4|some false=>.ok z S3|none=>.bad) _=_
     cases ht:x5 z S3 with
     |none=>simp only[ht,Res.bind]
     |some k=>cases k <;> simp only[ht,Res.bind,vU]
 rw[assoc] at af';refine isTrue_chain (thn (zL ha I r re af') λvv s1 ⟨v,H1,P1,α1,d,S1,G1,af1⟩=>test_link (thn (zL hb G1.inv G1.rel G1.env (w6.base G1.same G1.pre af1)) λuu s2 ⟨u,H2,P2,α2,d',S2,G2,af2⟩ =>
  thn (sC ho G2.inv G2.rel G1.val G2.val (Rep.mono G2.same G2.pre _ _ G1.rep) G2.rep (w6.base G2.same G2.pre af2)) λw s3 ⟨y,H3,P3,α3,z,S3,I3,r3,rl3,rp3,e3,e4,af3⟩=>?_)) hm
 cases ht:x5 z S3 with
 |none=>simp only[ht] at af3;exact An af3
 |some k =>
  simp only[ht] at af3;have tv:=vJ rl3 rp3 ht;refine thn (pI pins s3 σ H3 y w (λk' H'=>k'=k/\H'=H3) I3 r3 ⟨k,tv,rfl,rfl⟩) λk' s4 ⟨H4,I4,hk,hH⟩=>?_;subst hk;subst hH;cases k' with
  |false=>exact ite_ff ⟨H4,I4,af3 H4 P3 α3 rl3 e3 e4⟩
  |true =>
   have af4:qI X P2 α2 ((fc env S3).bind λw S4=>(g' d' w S4).bind λd S1=>vU (x5 d S1) S1) (OkT X P2 α2 Q):=by
    have e:((fc env S3).bind λw S4=>(g' d' w S4).bind λd S1=>vU (x5 d S1) S1)=(((fc env S3).bind λw S4=>g' d' w S4).bind λd S1=>vU (x5 d S1) S1):=by
     cases fc env S3 <;> rfl
    rw[e];exact af3
   refine ite_tt (test_last (thn (zL hc I4 rl3 (G2.env.mono e3 e4) (w6.base e3 e4 af4)) λww s5 ⟨w',H5,P5,α5,d5,S5,G5,af5⟩ =>
    thn (sC ho' G5.inv G5.rel G2.val G5.val (Rep.mono (e3.trans G5.same) (e4.trans G5.pre) _ _ G2.rep) G5.rep (w6.base G5.same G5.pre af5)) λx6 s6 ⟨y6,H6,P6,α6,d6,S6,I6,r6,rl6,rp6,e5,e6,af6⟩=>?_))
   obtain⟨k6,q6,z6⟩:=tS af6;exact VQ I6 rl6 r6 rp6 q6 (z6 H6 P6 α6 rl6 e5 e6)
noncomputable def vZ (t:DT):DT:=λenv S=>(t env S).bind λb S1=>.ok (!b) S1
noncomputable def xJ (t u:DT):DT:=λenv S=>(t env S).bind λb S1=>if b then u env S1 else .ok false S1
noncomputable def gV (t u:DT):DT:=λenv S=>(t env S).bind λb S1=>if b then .ok true S1 else u env S1
theorem FA (ha:PT X a (tDT X ta)):PT X (.UnaryOp .Not a pos) (tDT X (vZ ta)):=by
 intro pins s σ H Q I h;obtain⟨P,α,env,S,r,re,af⟩:=h;refine isTrue_not (thn (jR (λQ' q=>ha pins s σ H Q' I q) r re af) λb s1 ⟨H1,P1,α1,S1,I1,r1,re1,e1,e2,af1⟩=>⟨H1,I1,af1 H1 P1 α1 r1 e1 e2⟩)
def PWD (X:Cx)(e:Bn)(t:DT):Prop:=PW X e (tDT X t)
theorem PWD.pt {t:DT}(h:PWD X e t):PT X e (tDT X t):=h _
theorem UP (ha:PT X a (tDT X ta)):PWD X (.BoolOp .And [a] pos) ta:=KO ha
theorem FD (ha:PT X a (tDT X ta)):PWD X (.BoolOp .Or [a] pos) ta:=N3 ha
theorem FC {qE:Aa Bn}(ha:PT X a (tDT X ta))(hb:PWD X (.BoolOp .And (b::qE) pos) tb):PWD X (.BoolOp .And (a::b::qE) pos) (xJ ta tb):=by
 intro wh pins s σ H Q I h;obtain⟨P,α,env,S,r,re,af⟩:=h;refine isTrue_and (thn (jR (λQ' q=>ha pins s σ H Q' I q) r re af) λk s1 ⟨H1,P1,α1,S1,I1,r1,re1,e1,e2,af1⟩=>?_);cases k with
 |true=>exact hb wh pins s1 σ H1 Q I1 ⟨P1,α1,env,S1,r1,re1,w6.base e1 e2 af1⟩
 |false=>exact⟨H1,I1,af1 H1 P1 α1 r1 e1 e2⟩
theorem DH {qE:Aa Bn}(ha:PT X a (tDT X ta))(hb:PWD X (.BoolOp .Or (b::qE) pos) tb):PWD X (.BoolOp .Or (a::b::qE) pos) (gV ta tb):=by
 intro wh pins s σ H Q I h;obtain⟨P,α,env,S,r,re,af⟩:=h;refine isTrue_or (thn (jR (λQ' q=>ha pins s σ H Q' I q) r re af) λk s1 ⟨H1,P1,α1,S1,I1,r1,re1,e1,e2,af1⟩=>?_);cases k with
 |true=>exact⟨H1,I1,af1 H1 P1 α1 r1 e1 e2⟩
 |false=>exact hb wh pins s1 σ H1 Q I1 ⟨P1,α1,env,S1,r1,re1,w6.base e1 e2 af1⟩
noncomputable def mO (f g:DE):DE:=λenv S=>(f env S).bind λx S1=>match x5 x S1 with
 |some true=>g env S1
 |some false=>.ok x S1
 |none=>.bad
noncomputable def dOr (f g:DE):DE:=λenv S=>(f env S).bind λx S1=>match x5 x S1 with
 |some true=>.ok x S1
 |some false=>g env S1
 |none=>.bad
noncomputable def ZX (f:DE):DE:=λenv S=>(f env S).bind λx S1=>match x5 x S1 with
 |some b=>.ok (.bl (!b)) S1
 |none=>.bad
theorem BS  (h:PE X a (tD X fa)):PE X (.BoolOp op [a] pos) (tD X fa):=TJ h
theorem YH {pins:Aa (Ad × Cg)}{s:Ah}{σ:_L.St}{H:Hp}{v:V}{vv:Ac}{k:Ap}{R:Ap->Ah->Prop}(I:Inv X pins σ H s)(rv:qF v vv)(t:cG X.K v H k)(h:∀ s',Inv X pins σ H s'->R k s') :
  Av (Ba X.prog X.w) X.A (truthy vv) R X.xe s:=thn (pI pins s σ H v vv (λk' H'=>k'=k/\H'=H) I rv ⟨k,t,rfl,rfl⟩) λk' s4 ⟨H4,I4,hk,hH⟩=>by subst hk;subst hH;exact h s4 I4
theorem BJ {qE:Aa Bn}(ha:PE X a (tD X fa))(hb:PE X (.BoolOp .And (b::qE) pos) (tD X fb)):PE X (.BoolOp .And (a::b::qE) pos) (tD X (mO fa fb)):=by
 intro pins s σ H Q I h;obtain⟨P,α,env,S,r,re,af⟩:=h;refine BoolOp_and (thn (zL ha I r re af) λvv s1 ⟨v,H1,P1,α1,d,S1,G1,af1⟩=>?_);cases ht:x5 d S1 with
 |none=>simp only[ht] at af1;exact An af1
 |some k =>
  simp only[ht] at af1;refine YH G1.inv G1.val (vJ G1.rel G1.rep ht) λs2 I2=>?_;cases k with
  |true=>exact hb pins s2 σ H1 Q I2 ⟨P1,α1,env,S1,G1.rel,G1.env,qP.base G1.same G1.pre af1⟩
  |false=>exact⟨v,H1,I2,G1.val,af1 v H1 P1 α1 G1.rel G1.same G1.pre G1.rep⟩
theorem D8 {qE:Aa Bn}(ha:PE X a (tD X fa))(hb:PE X (.BoolOp .Or (b::qE) pos) (tD X fb)):PE X (.BoolOp .Or (a::b::qE) pos) (tD X (dOr fa fb)):=by
 intro pins s σ H Q I h;obtain⟨P,α,env,S,r,re,af⟩:=h;refine BoolOp_or (thn (zL ha I r re af) λvv s1 ⟨v,H1,P1,α1,d,S1,G1,af1⟩=>?_);cases ht:x5 d S1 with
 |none=>simp only[ht] at af1;exact An af1
 |some k =>
  simp only[ht] at af1;refine YH G1.inv G1.val (vJ G1.rel G1.rep ht) λs2 I2=>?_;cases k with
  |false=>exact hb pins s2 σ H1 Q I2 ⟨P1,α1,env,S1,G1.rel,G1.env,qP.base G1.same G1.pre af1⟩
  |true=>exact⟨v,H1,I2,G1.val,af1 v H1 P1 α1 G1.rel G1.same G1.pre G1.rep⟩
theorem BR (ha:PE X a (tD X fa)):PE X (.UnaryOp .Not a pos) (tD X (ZX fa)):=by
 intro pins s σ H Q I h;obtain⟨P,α,env,S,r,re,af⟩:=h;refine UnaryOp_ (thn (zL ha I r re af) λvv s1 ⟨v,H1,P1,α1,d,S1,G1,af1⟩=>?_);cases ht:x5 d S1 with
 |none=>simp only[ht] at af1;exact An af1
 |some k =>
  simp only[ht] at af1;exact not_of (YH G1.inv G1.val (vJ G1.rel G1.rep ht) λs2 I2=>⟨.bl (!k),H1,I2,rfl,af1 (.bl (!k)) H1 P1 α1 G1.rel G1.same G1.pre (by simp only[Rep])⟩)
noncomputable def dIf (t:DT)(f g:DE):DE:=λenv S=>(t env S).bind λb S1=>if b then f env S1 else g env S1
theorem D5 (hc:PT X c (tDT X ta))(ha:PE X a (tD X fa))(hb:PE X b (tD X fb)):PE X (.IfExp c a b pos) (tD X (dIf ta fa fb)):=by
 intro pins s σ H Q I h;obtain⟨P,α,env,S,r,re,af⟩:=h;refine wpAny_IfExp (thn (jR (λQ' q=>hc pins s σ H Q' I q) r re af) λk s1 ⟨H1,P1,α1,S1,I1,r1,re1,e1,e2,af1⟩=>?_);cases k with
 |true=>exact ha pins s1 σ H1 Q I1 ⟨P1,α1,env,S1,r1,re1,qP.base e1 e2 af1⟩
 |false=>exact hb pins s1 σ H1 Q I1 ⟨P1,α1,env,S1,r1,re1,qP.base e1 e2 af1⟩
end
@[inline] def Res.toS {β:Type}(env:qC)(r:Res β)(k:β->Sto->Out):Out:=
 match r with
 |.ok d S=>k d S
 |.ex c x S=>.ex c x env S
 |.bad=>.bad
section
variable {X:Cx}{a b c e:Bn}{pos:Eg}{fa fb fc:DE}{ta tb:DT}{f g:DS}{st:Fb}{qE:Aa Fb}
noncomputable def zT:DS:=λenv S=>.nx env S
noncomputable def qL (f g:DS):DS:=λenv S=>match f env S with
 |.nx env1 S1=>g env1 S1
 |o=>o
theorem F4:PSs X [] (tDS X zT):=N1 KM λD σ H ⟨P,α,env,S,r,re,af⟩=>af σ H P α r re (qD.refl _) (Bf _)
theorem UJ (h1:PS X st (tDS X f))(h2:PSs X qE (tDS X g)):PSs X (st::qE) (tDS X (qL f g)):=N1 (WT h1 h2) λD σ H ⟨P,α,env,S,r,re,af⟩=>by
 refine⟨P,α,env,S,r,re,?_⟩;unfold qL at af;cases q:f env S with
 |nx env1 S1 =>
  rw[q] at af;exact λσ' H' P' α' r' re' e1 e2=>⟨P',α',env1,S1,r',re',qQ.base e1 e2 af⟩
 |rt d S1=>rw[q] at af;exact af
 |bk env1 S1=>rw[q] at af;exact af
 |ct env1 S1=>rw[q] at af;exact af
 |ex c x env1 S1=>rw[q] at af;exact af
 |bad=>rw[q] at af;exact af
theorem F5 (h1:PS X st (tDS X f)):PSs X [st] (tDS X f):=KN h1
theorem zZ {β:Type}{P:Hp}{α:Aa Ad}{env:qC}{r:Res β}{k:β->Sto->Out}{D:Ends}(h:qQ X P α (r.toS env k) D):qI X P α r λd S=>qQ X P α (k d S) D:=by
 cases r with
 |ok d S=>exact h
 |ex c x S=>exact h
 |bad=>exact h
inductive GotS (X:Cx)(pins:Aa (Ad × Cg))(σ : _L.St)(env:qC)(P:Hp)(α : Aa Ad)(u:Ac)(s1:Ah)(k:D->Sto->Out)(E:Ends):Prop
 |mk (v:V) (H1 P1:Hp) (α1:Aa Ad) (d:D) (S1:Sto) (G:Got X pins σ env P α u s1 v H1 P1 α1 d S1) (q:qQ X P1 α1 (k d S1) E):GotS X pins σ env P α u s1 k E
theorem fN {k:D->Sto->Out}{pins:Aa (Ad × Cg)}{s:Ah}{σ:_L.St}{H P:Hp}{α:Aa Ad}{env:qC}{D:Ends}(he:PE X e (tD X fa))(I:Inv X pins σ H s)(r:Rel X.K H P α S)
  (re:z0 X.K P α σ env) (af:qQ X P α ((fa env S).toS env k) D) :
  Av (Ba X.prog X.w) X.A (eval e X.env) (λu s1=>GotS X pins σ env P α u s1 k D) X.xe s:=by
 have af1:qI X P α ((fa env S).bind λd S=>.ok d S) λd S=>qQ X P α (k d S) D:=by
  have:=zZ af;cases q:fa env S <;> rw[q] at this <;> exact this
 exact thn (zL he I r re af1) λu s1 ⟨v,H1,P1,α1,d,S1,G,q⟩=>⟨v,H1,P1,α1,d,S1,G,qQ.base G.same G.pre q⟩
noncomputable def xV (f:DE):DS:=λenv S=>(f env S).toS env λ_ S1=>.nx env S1
theorem UK (he:PE X e (tD X fa))(hs:Rb e none pos.line X.env=pure false:=by rfl):PS X (.Expr e pos) (tDS X (xV fa)):=by
 intro pins s σ H D I h;obtain⟨P,α,env,S,r,re,af⟩:=h;exact wpAny_Expr_any (thn (fN he I r re af) λv s1 ⟨x,H1,P1,α1,d,S1,G,q⟩=>⟨σ,H1,G.inv,q σ H1 P1 α1 G.rel G.env (qD.refl _) (Bf _)⟩) I.quiet hs
noncomputable def qY (f:DE):DS:=λenv S=>(f env S).toS env λd S1=>.rt d S1
theorem F7 (he:PE X e (tD X fa)):PS X (.Return (Ab e) pos) (tDS X (qY fa)):=by
 intro pins s σ H D I h;obtain⟨P,α,env,S,r,re,af⟩:=h;exact wpAny_Return_some (thn (fN he I r re af) λv s1 ⟨x,H1,P1,α1,d,S1,G,q⟩=>⟨x,σ,H1,G.inv,G.val,q x H1 P1 α1 G.rel (qD.refl _) (Bf _) G.rep⟩)
noncomputable def sIf (t:DT)(f g:DS):DS:=λenv S=>(t env S).toS env λb S1=>if b then f env S1 else g env S1
theorem DC {as bs:Aa Fb}(hc:PT X c (tDT X ta))(ha:PSs X as (tDS X f))(hb:PSs X bs (tDS X g)):PS X (.If c as bs pos) (tDS X (sIf ta f g)):=by
 intro pins s σ H D I h;obtain⟨P,α,env,S,r,re,af⟩:=h;have af1:qI X P α ((ta env S).bind λd S=>.ok d S) λb S=>qQ X P α (if b then f env S else g env S) D:=by
  have:=zZ af;cases q:ta env S <;> rw[q] at this <;> exact this
 refine wpAny_If (thn (jR (λQ' q=>hc pins s σ H Q' I q) r re af1) λk s1 ⟨H1,P1,α1,S1,I1,r1,re1,e1,e2,af2⟩=>?_);cases k with
 |true=>exact ha pins s1 σ H1 D I1 ⟨P1,α1,env,S1,r1,re1,qQ.base e1 e2 af2⟩
 |false=>exact hb pins s1 σ H1 D I1 ⟨P1,α1,env,S1,r1,re1,qQ.base e1 e2 af2⟩
abbrev DG:=D->qC->Sto->Res qC
abbrev DGs:=Aa D->qC->Sto->Res qC
def OkE (X:Cx)(P:Hp)(α : Aa Ad)(Q:_L.St->Hp->Prop)(env':qC)(S':Sto):Prop:=∀ σ' H' P' α',Rel X.K H' P' α' S'->z0 X.K P' α' σ' env'->qD P P'->α<+:α'->Q σ' H'
def tDG (X:Cx)(g:DG):TG:=λv σ H Q=>∃ P α env S d,Rel X.K H P α S/\z0 X.K P α σ env/\Rep X.K P α d v/\qI X P α (g d env S) (OkE X P α Q)
def sR (X:Cx)(g:DGs):TGs:=λvs σ H Q=>∃ P α env S ds,Rel X.K H P α S/\z0 X.K P α σ env/\qB X.K P α ds vs/\qI X P α (g ds env S) (OkE X P α Q)
theorem z0.set {K:Ak}{P:Hp}{α:Aa Ad}{σ:_L.St}{env:qC}{d:D}{v:V}(re:z0 K P α σ env)(i:Af)(rp:Rep K P α d v):z0 K P α (σ.set i (Ab v)) (env.set i (Ab d)):=by
 refine⟨by simp[re.1],λj d' e=>?_⟩
 by_cases hj:i=j
 .subst hj
  by_cases hi:i<env.length
  .rw[Dl hi] at e
   cases e;exact⟨v,by rw[Dl (by rw[<- re.1];exact hi)],rp⟩
  .rw[List.getElem?_eq_none (by simp;omega)] at e;cases e
 .rw[Cb hj] at e ⊢
  exact re.2 j d' e
noncomputable def gNm (i:Af):DG:=λd env S=>.ok (env.set i (Ab d)) S
theorem UD {i:Af}{x:Ao}(hN:X.N.Nodup)(hi:X.N[i]? = Ab x:=by rfl)(hx:Loc X.env.scope x:=by first|exact Xl rfl|exact Vp rfl)(hf:X.fn x=true\/X.env.scope.names.lookup x=Ab .local:=by first|exact .inl rfl|exact .inr rfl|assumption):PG X (.Name x pos) (tDG X (gNm i)):=by
 intro pins s σ H v u Q I rv h;obtain⟨P,α,env,S,d,r,re,rp,af⟩:=h;exact KE hN hi hx hf pins s σ H v u Q I rv (af _ H P α r (re.set i rp) (qD.refl _) (Bf _))
noncomputable def w5:DGs:=λds env S=>match ds with
 |[]=>.ok env S
 |_=>.bad
noncomputable def zH (g:DG)(gs:DGs):DGs:=λds env S=>match ds with
 |d::r=>(g d env S).bind λenv1 S1=>gs r env1 S1
 |[]=>.bad
theorem UE:PGs X [] (sR X w5):=by
 intro pins s σ H vs us Q I rv h;obtain⟨P,α,env,S,ds,r,re,rp,af⟩:=h;cases ds with
 |nil=>exact KF pins s σ H vs us Q I rv ⟨rp.nil_inv,af σ H P α r re (qD.refl _) (Bf _)⟩
 |cons d ds=>exact An af
theorem X3 {es:Aa Bn}{g:DG}{gs:DGs}(h1:PG X e (tDG X g))(h2:PGs X es (sR X gs))(hs:(Fz (e::es) X.env).map (·.2)=assign e X.env::(Fz es X.env).map (·.2):=by rfl):PGs X (e::es) (sR X (zH g gs)):=by
 intro pins s σ H vs us Q I rv h;obtain⟨P,α,env,S,ds,r,re,rp,af⟩:=h;cases ds with
 |nil=>exact An af
 |cons d ds =>
  obtain⟨w,ws,rfl,p1,p2⟩:=rp.cons_inv;refine WO h1 h2 hs pins s σ H _ us Q I rv ⟨w,ws,rfl,P,α,env,S,d,r,re,p1,?_⟩;have af':qI X P α ((g d env S).bind λenv1 S1=>gs ds env1 S1) (OkE X P α Q):=af;cases q:g d env S with
  |bad=>rw[q] at af';exact af'
  |ex c x S'=>rw[q] at af';exact af'
  |ok env1 S1 =>
   rw[q] at af';intro σ' H' P' α' r' re' e1 e2;refine⟨P',α',env1,S1,ds,r',re',qB.mono e1 e2 _ _ p2,qI.base' e1 e2 (λenv' S' ok σ2 H2 P2 α2 r2 re2 e3 e4=>ok σ2 H2 P2 α2 r2 re2 (e1.trans e3) (e2.trans e4)) af'⟩
noncomputable def gTp (n:Af)(gs:DGs):DG:=λd env S=>match d with
 |.tup xs=>if xs.length=n then gs xs env S else .bad
 |_=>.bad
set_option tactic.hygienic true in
theorem BY {es:Aa Bn}{k:Af}{gs:DGs}{n:Af}(hc:X.calm=true)(h:PGs X es (sR X gs))(hn:(Fz es X.env).length=n:=by rfl)(hst:(Fz es X.env).findIdx? (·.1)=none:=by rfl):PG X (.Tuple es k pos) (tDG X (gTp n gs)):=by
 intro pins s σ H v u Q I rv hw;obtain⟨P,α,env,S,d,r,re,rp,af⟩:=hw;cases d with
 |tup xs =>
  simp only[Rep] at rp;obtain⟨a,vs,rfl,q,t⟩:=rp;simp only[gTp] at af
  split at af
  .rename_i hl
   exact TQ hc h hn hst pins s σ H _ u Q I rv ⟨a,vs,rfl,xS r.sub q,by rw[<- t.length];exact hl,P,α,env,S,xs,r,re,t,af⟩
  .exact An af
 |_=>exact An af
abbrev G3:=D->D->D->Sto->Res Qm
def OkU (X:Cx)(P:Hp)(α : Aa Ad)(Q:Hp->Prop)(_:Qm)(S':Sto):Prop:=∀ H' P' α',Rel X.K H' P' α' S'->qD P P'->α<+:α'->Q H'
def lI (X:Cx)(g:G3):ZC:=λo i v H Q=>∃ P α S a b d,Rel X.K H P α S/\Rep X.K P α a o/\Rep X.K P α b i/\Rep X.K P α d v/\qI X P α (g a b d S) (OkU X P α Q)
noncomputable def gSb (fo fi:DE)(g:G3):DG:=λd env S=>(fo env S).bind λo S1=>(fi env S1).bind λi S2=>(g o i d S2).bind λ_ S3=>.ok env S3
theorem BX {o i:Bn}{fo fi:DE}{g:G3}(ho:PE X o (tD X fo))(hi:PE X i (tD X fi))(hs:lK X (lI X g))
  (ha:∀ v,assign (.Subscript o i pos) X.env v=(do
   let ov <- holding [v] (eval o X.env)
   let iv <- holding [v,ov] (eval i X.env)
   OO pos
   holding [v,ov,iv] (Xp ov iv v)
   release [v,ov,iv] []):=by intro _;rfl):PG X (.Subscript o i pos) (tDG X (gSb fo fi g)):=by
 intro pins s σ H v u Q I rv h;obtain⟨P,α,env,S,d,r,re,rp,af⟩:=h;rw[ha];refine Ai (Fl (thn (zL ho I r re af) λov s1 ⟨x,H1,P1,α1,d1,S1,G1,af1⟩=>?_));refine Ai (Fl (thn (zL hi G1.inv G1.rel G1.env (P:=P1) (α:=α1) (Ok:=OkE X P1 α1 Q) (qI.base' G1.same G1.pre (λenv' S' ok σ2 H2 P2 α2 r2 re2 e3 e4=>ok σ2 H2 P2 α2 r2 re2 (G1.same.trans e3) (G1.pre.trans e4)) af1)) λiv s2 ⟨y,H2,P2,α2,d2,S2,G2,af2⟩=>?_));refine Ai (OH (Ai (Fl (thn (hs pins s2 σ H2 x y v ov iv u (λH3=>Q σ H3) G2.inv G1.val G2.val rv ⟨P2,α2,S2,d1,d2,d,G2.rel,Rep.mono G2.same G2.pre _ _ G1.rep,G2.rep,Rep.mono (G1.same.trans G2.same) (G1.pre.trans G2.pre) _ _ rp,?_⟩) λ_ s3 ⟨H3,I3,q3⟩=>?_))))
 .cases q:g d1 d2 d S2 with
  |bad=>rw[q] at af2;exact af2
  |ex c x S'=>rw[q] at af2;exact λu s' z=>af2 u s' (z.base G2.same G2.pre)
  |ok w S3 =>
   rw[q] at af2;exact λH' P' α' r' e1 e2=>af2 σ H' P' α' r' (G2.env.mono e1 e2) (G2.same.trans e1) (G2.pre.trans e2)
 .exact wpAny_release ⟨σ,H3,I3,q3⟩
noncomputable def qR (f:DE)(g:DG):DS:=λenv S=>(f env S).toS env λd S1=>(g d env S1).toS env λenv' S2=>.nx env' S2
theorem i8 {g:DG}{d:D}{env:qC}{P:Hp}{α:Aa Ad}{D':Ends}(h:qQ X P α ((g d env S).toS env λenv' S2=>.nx env' S2) D'):qI X P α (g d env S) (OkE X P α D'.nx):=by
 cases q:g d env S with
 |bad=>rw[q] at h;exact h
 |ex c x S'=>rw[q] at h;exact h
 |ok env1 S1=>rw[q] at h;exact h
theorem F1 {tg:Bn}{g:DG}(he:PE X e (tD X fa))(hg:PG X tg (tDG X g))(hs:Kj [tg] e pos.line X.env=pure false:=by rfl)(hw:Ki [tg] e X.env=pure none:=by rfl)
  (h1:(Fz [tg] X.env).map (·.2)=[assign tg X.env]:=by rfl):PS X (.Assign [tg] e pos) (tDS X (qR fa g)):=by
 intro pins s σ H D I h;obtain⟨P,α,env,S,r,re,af⟩:=h;refine wpAny_Assign_stores (thn (fN he I r re af) λv s1 ⟨x,H1,P1,α1,d,S1,G,q⟩=>?_) hs hw;rw[h1];exact thn (hg pins s1 σ H1 x v _ G.inv G.val ⟨P1,α1,env,S1,d,G.rel,G.env,G.rep,i8 q⟩) λ_ s2 q=>q
theorem F8 {i:Af}{x:Ao}{pos':Eg}(hN:X.N.Nodup)(he:PE X e (tD X fa))(hi:X.N[i]? = Ab x:=by rfl)(hx:Loc X.env.scope x:=by first|exact Xl rfl|exact Vp rfl)(hs:Rb e (Ab (.Name x pos')) pos.line X.env=pure false:=by rfl)
  (hf:X.fn x=true\/X.env.scope.names.lookup x=Ab .local:=by first|exact .inl rfl|exact .inr rfl|assumption):PS X (.Assign [.Name x pos'] e pos) (tDS X (qR fa (gNm i))):=by
 intro pins s σ H D I h;obtain⟨P,α,env,S,r,re,af⟩:=h;refine wpAny_Assign_Name (thn (fN he I r re af) λv s1 ⟨y,H1,P1,α1,d,S1,G,q⟩=>?_) hs;exact uU G.inv hN hi hx G.val (λs2 I2=>⟨_,H1,I2,q _ H1 P1 α1 G.rel (G.env.set i G.rep) (qD.refl _) (Bf _)⟩) hf
noncomputable def sD (i j:Af)(env:qC)(S1:Sto):Aa D->Out
 |[x,y]=>.nx ((env.set i (Ab x)).set j (Ab y)) S1
 |_=>.bad
noncomputable def tU (i j:Af)(f:DA):DS:=λenv S=>(f env S).toS env λds S1=>sD i j env S1 ds
theorem F6 {i j:Af}{x y:Ao}{f:DA}{px py pt:Eg} {kt k2 pt2} (hc:X.calm=true) (hN:X.N.Nodup) (ha:PA X [a,b] (tDA X f)) (hi:X.N[i]? = Ab x:=by rfl) (hj:X.N[j]? = Ab y:=by rfl) (hij:i≠j:=by decide)
  (hx:X.env.scope.names.lookup x=Ab .local:=by rfl) (hy:X.env.scope.names.lookup y=Ab .local:=by rfl)
  (hw:Ki [.Tuple [.Name x px,.Name y py] kt pt] (.Tuple [a,b] k2 pt2) X.env=pure (Ab [x,y]):=by rfl)
  (hs:Kj [.Tuple [.Name x px,.Name y py] kt pt] (.Tuple [a,b] k2 pt2) pos.line X.env=pure false:=by rfl) :
  PS X (.Assign [.Tuple [.Name x px,.Name y py] kt pt] (.Tuple [a,b] k2 pt2) pos) (tDS X (tU i j f)):=psW (N0 hc hN hi hj hij hx hy ha hw hs) λD σ H ⟨P,α,env,S,r,re,af⟩=>by
 refine⟨P,α,env,S,r,re,?_⟩;have af1:=zZ af;cases q:f env S with
 |bad=>rw[q] at af1;exact af1
 |ex c x S'=>rw[q] at af1;exact af1
 |ok ds S1 =>
  rw[q] at af1;intro vs H' P' α' r' e1 e2 rp;have af2:qQ X P α (sD i j env S1 ds) D:=af1;cases ds with
  |nil=>exact An af2
  |cons d ds=>cases ds with
   |nil=>exact An af2
   |cons d' ds=>cases ds with
    |cons _ _=>exact An af2
    |nil =>
     obtain⟨w,ws,rfl,p1,t⟩:=rp.cons_inv;obtain⟨w',ws',rfl,p2,t⟩:=t.cons_inv;rw[t.nil_inv];exact⟨w,w',rfl,af2 _ _ P' α' r' (((re.mono e1 e2).set i p1).set j p2) e1 e2⟩
end
structure ItD (K:Ak)(J:It)(P:Hp)(α : Aa Ad)(ds:Aa D):Prop where
 go:∀ i H P1 α1 S,i<ds.length->Rel K H P1 α1 S->qD P P1->α<+:α1->J.go i H
 yld:∀ i H x H' P1 α1 S,i<ds.length->Rel K H P1 α1 S->qD P P1->α<+:α1->J.yld i H x H'->∃ P2 d,ds[i]? = Ab d/\Rel K H' P2 α1 S/\qD P1 P2/\Rep K P2 α1 d x
 stop:∀ i H P1 α1 S,ds.length<=i->Rel K H P1 α1 S->qD P P1->α<+:α1->J.stop i H
abbrev DI:=qC->Sto->Res (Aa D)
def OkI (X:Cx)(P:Hp)(α : Aa Ad)(R:It->Hp->Prop)(ds:Aa D)(S':Sto):Prop:=∀ J H' P' α',Rel X.K H' P' α' S'->qD P P'->α<+:α'->ItD X.K J P' α' ds->R J H'
inductive tDI (X:Cx)(f:DI)(σ : _L.St)(H:Hp)(R:It->Hp->Prop):Prop
 |mk (P:Hp) (α : Aa Ad) (env:qC) (S:Sto) (r:Rel X.K H P α S) (re:z0 X.K P α σ env) (af:qI X P α (f env S) (OkI X P α R)):tDI X f σ H R
noncomputable def vV {β:Type}(o:Al β)(S:Sto):Res β:=match o with
 |some b=>.ok b S
 |none=>.bad
theorem vH {X:Cx}{β:Type}{o:Al β}{P:Hp}{α:Aa Ad}{Ok:β->Sto->Prop}(h:qI X P α (vV o S) Ok):∃ b,o=Ab b/\Ok b S:=by
 cases o with
 |none=>exact An h
 |some b=>exact⟨b,rfl,h⟩
theorem y7 {X:Cx}{β:Type}{c:Prop}[Il c]{r:Res β}{P:Hp}{α : Aa Ad}{Ok:β->Sto->Prop}(h:qI X P α (if c then r else .bad) Ok):c/\qI X P α r Ok:=by
 by_cases z:c
 .rw[Bc z] at h;exact⟨z,h⟩
 .rw[Aw z] at h;exact An h
theorem sA {X:Cx}{β:Type}{ds:Aa D}{g:D->Res β}{P:Hp}{α:Aa Ad}{Ok:β->Sto->Prop}(h:qI X P α (match ds with|[d]=>g d|_=>.bad) Ok):∃ d,ds=[d]/\qI X P α (g d) Ok:=by
 cases ds with
 |nil=>exact An h
 |cons d ds =>
  cases ds with
  |nil=>exact⟨d,rfl,h⟩
  |cons _ _=>exact An h
theorem tK {β:Type}{i:Af}{f:Aa D->Al β}{g:Aa (Key × D)->Al β}{b:β}(h:(match S[i]? with|some (.lst xs)=>f xs|some (.dct kvs)=>g kvs|_=>none)=Ab b):(∃ xs,S[i]? = Ab (.lst xs)/\f xs=Ab b)\/∃ kvs,S[i]? = Ab (.dct kvs)/\g kvs=Ab b:=by
 cases e:S[i]? with
 |none=>rw[e] at h;exact nn h
 |some m =>
  rw[e] at h;cases m with
  |lst xs=>exact .inl ⟨xs,rfl,h⟩
  |dct kvs=>exact .inr ⟨kvs,rfl,h⟩
  |_=>exact nn h
theorem M9 {β:Type}{i:Af}{f:Aa D->Al β}{b:β}(h:(match S[i]? with|some (.lst xs)=>f xs|_=>none)=Ab b):∃ xs,S[i]? = Ab (.lst xs)/\f xs=Ab b:=by
 cases e:S[i]? with
 |none=>rw[e] at h;exact nn h
 |some m =>
  rw[e] at h;cases m with
  |lst xs=>exact⟨xs,rfl,h⟩
  |_=>exact nn h
inductive ItV (d:D)(xs:Aa D):Prop
 |tup (e:d=.tup xs)
 |lst (e:d=.lst xs)
noncomputable def VH {β:Type}(S:Sto)(n:Af)(f:Aa D->Res β) : Res β:=match S[n]? with
 |some (.lst xs)=>f xs
 |_=>.bad
theorem g9 {X:Cx}{β:Type}{n:Af}{f:Aa D->Res β}{P:Hp}{α:Aa Ad}{Ok:β->Sto->Prop}(h:qI X P α (VH S n f) Ok):∃ xs,S[n]? = Ab (.lst xs)/\qI X P α (f xs) Ok:=by
 unfold VH at h;cases e:S[n]? with
 |none=>rw[e] at h;exact An h
 |some m =>
  rw[e] at h;cases m with
  |lst xs=>exact⟨xs,rfl,h⟩
  |_=>exact An h
noncomputable def zJ:D->Al (Aa D)
 |.tup xs=>Ab xs
 |.lst xs=>Ab xs
 |_=>none
theorem itV {d:D}{xs:Aa D}(h:zJ d=Ab xs):ItV d xs:=by
 cases d with
 |tup ys=>exact .tup (congrArg D.tup (Cj h))
 |lst ys=>exact .lst (congrArg D.lst (Cj h))
 |_=>exact nn h
noncomputable def wY (f:DE):DI:=λenv S=>(f env S).bind λd S1=>vV (zJ d) S1
section
variable {X:Cx}{K:Ak}{tg e:Bn}{fa:DE}{pos:Eg}
theorem XX {P:Hp}{α:Aa Ad}{a:Ad}{ds:Aa D}(q:SqL K P a vs)(t:qB K P α ds vs):ItD K (Itl K a) P α ds where
 go:=λi H P1 α1 S hi r e _=>⟨vs,vs[i]'(by rw[<- t.length];exact hi),(e.trans r.sub).seq q,by simp⟩
 yld:=λi H x H' P1 α1 S hi r e e2 y=>by
  obtain⟨rfl,y⟩:=y;have hx:=y vs ((e.trans r.sub).seq q);obtain⟨v,h1,h2⟩:=t.get (Am hi);rw[hx] at h1;cases h1;exact⟨P1,_,Am hi,r,qD.refl _,Rep.mono e e2 _ _ h2⟩
 stop:=λi H P1 α1 S hi r e _=>⟨vs,(e.trans r.sub).seq q,by rw[<- t.length];exact hi⟩
theorem JI {P:Hp}{α:Aa Ad}{a:Ad}{ds:Aa D}(q:SqT K P a vs)(t:qB K P α ds vs):ItD K (Itt K a) P α ds where
 go:=λi H P1 α1 S hi r e _=>⟨vs,vs[i]'(by rw[<- t.length];exact hi),wI (e.trans r.sub) q,by simp⟩
 yld:=λi H x H' P1 α1 S hi r e e2 y=>by
  obtain⟨rfl,y⟩:=y;have hx:=y vs (wI (e.trans r.sub) q);obtain⟨v,h1,h2⟩:=t.get (Am hi);rw[hx] at h1;cases h1;exact⟨P1,_,Am hi,r,qD.refl _,Rep.mono e e2 _ _ h2⟩
 stop:=λi H P1 α1 S hi r e _=>⟨vs,wI (e.trans r.sub) q,by rw[<- t.length];exact hi⟩
theorem dG {pins:Aa (Ad × Cg)}{σ:_L.St}{H P:Hp}{α:Aa Ad}{s:Ah}{v:V}{vv:Ac}{d:D}{ds:Aa D}{R:It->Hp->Prop}(I:Inv X pins σ H s)(r:Rel X.K H P α S)(rv:qF v vv)(rp:Rep X.K P α d v)(hd:zJ d=Ab ds)
  (q:OkI X P α R ds S):Av (Ba X.prog X.w) X.A (Pg vv) (PIE X pins σ tg R) X.xe s:=by
 cases d with
 |tup xs =>
  cases hd;simp only[Rep] at rp;obtain⟨a,vs,rfl,sq,t⟩:=rp;cases rv;obtain⟨its,rv,p,hz⟩:=I.tuple (xS r.sub sq);refine Fy (show s.heap.IsTuple a its.toArray from p) ?_
  refine⟨s.heap.objs.size,[s.heap.objs.size],_,_,H,rfl,I.kept (t':=s.toks) λb o e=>Aj _ e,aX a _,⟨_,Be _ rfl,rfl,rfl⟩,λb hb=>?_,q _ _ P α r (qD.refl _) (Bf _) (JI sq t)⟩;have e:b=s.heap.objs.size:=by simpa using hb
  subst e;exact I.fpOk (Ax _) (I.hok.fresh (Ax _))
 |lst xs =>
  cases hd;simp only[Rep] at rp;obtain⟨a,vs,rfl,sq,t⟩:=rp;cases rv;obtain⟨its,rv,p,hz⟩:=I.list ((xD r.sub sq).l);refine EQ p.isList ?_;refine⟨s.heap.objs.size,[s.heap.objs.size],_,_,H,rfl,I.kept (t':=s.toks) λb o e=>Aj _ e,l0 a _,⟨_,Be _ rfl,rfl,rfl⟩,λb hb=>?_,q _ _ P α r (qD.refl _) (Bf _) (XX sq.l t)⟩;have e:b=s.heap.objs.size:=by simpa using hb
  subst e;exact I.fpOk (Ax _) (I.hok.fresh (Ax _))
 |_=>cases hd
theorem OkI.base {P P1:Hp}{α α1:Aa Ad}{R:It->Hp->Prop}{ds:Aa D}(e:qD P P1)(h:α<+:α1)(k:OkI X P α R ds S):OkI X P1 α1 R ds S:=λJ H' P' α' r q1 q2 q3=>k J H' P' α' r (e.trans q1) (h.trans q2) q3
theorem BZ (ha:PE X e (tD X fa)):PI X tg e (tDI X (wY fa)):=by
 intro pins s σ H R I h;obtain⟨P,α,env,S,r,re,af⟩:=h;refine thn (zL ha I r re af) λvv s1 ⟨v,H1,P1,α1,d,S1,G1,af1⟩=>?_;obtain⟨ds,e1,q⟩:=vH af1;exact dG G1.inv G1.rel G1.val G1.rep e1 (q.base G1.same G1.pre)
noncomputable def xR (lo:Ag)(n:Af):Aa D:=(Ds n).map λ(i:Af)=>D.int (lo+(i:Ag))
theorem gB (lo:Ag)(n:Af):(xR lo n).length=n:=by simp[xR]
theorem nO {P:Hp}{α:Aa Ad}{lo:Ag}{n:Af}:ItD K (Itr lo n) P α (xR lo n) where
 go:=λi H P1 α1 S hi r e _=>by rw[gB] at hi;exact hi
 yld:=λi H x H' P1 α1 S hi r e e2 y=>by
  obtain⟨rfl,rfl⟩:=y;rw[gB] at hi;exact⟨P1,.int (lo+i),by simp[xR,hi],r,qD.refl _,by simp only[Rep]⟩
 stop:=λi H P1 α1 S hi r e _=>by rw[gB] at hi;exact hi
noncomputable def gD (ds:Aa D):Al (Aa D):=match ds with
 |[.int j]=>if -(2 ^ 62)<=j/\j<2 ^ 62 then Ab (xR 0 j.toNat) else none
 |[.int i,.int j]=>if -(2 ^ 62)<=i/\i<2 ^ 62 /\ -(2 ^ 62)<=j/\j<2 ^ 62 then Ab (xR i (j-i).toNat) else none
 |_=>none
noncomputable def gW (f:DA):DI:=λenv S=>(f env S).bind λds S1=>vV (gD ds) S1
noncomputable def asI:D->Al Ag
 |.int i=>Ab i
 |_=>none
theorem bP {d:D}{i:Ag}(h:asI d=Ab i):d=.int i:=by
 cases d with
 |int k=>exact congrArg D.int (Cj h)
 |_=>exact nn h
inductive RngV:Aa D->Aa D->Prop
 |one (j:Ag) (h : -(2 ^ 62)<=j/\j<2 ^ 62):RngV [.int j] (xR 0 j.toNat)
 |two (i j:Ag) (h : -(2 ^ 62)<=i/\i<2 ^ 62 /\ -(2 ^ 62)<=j/\j<2 ^ 62):RngV [.int i,.int j] (xR i (j-i).toNat)
theorem RG (d:D):gD [d]=(asI d).bind λj=>if -(2 ^ 62)<=j/\j<2 ^ 62 then Ab (xR 0 j.toNat) else none:=by cases d <;> rfl
theorem VL (d d':D):gD [d,d']=(asI d).bind λi=>(asI d').bind λj=>if -(2 ^ 62)<=i/\i<2 ^ 62 /\ -(2 ^ 62)<=j/\j<2 ^ 62 then Ab (xR i (j-i).toNat) else none:=by
 cases d with
 |int i=>cases d' <;> rfl
 |_=>rfl
theorem GG {ds its:Aa D}(h:gD ds=Ab its):RngV ds its:=by
 cases ds with
 |nil=>exact nn h
 |cons d ds =>
  cases ds with
  |nil =>
   obtain⟨j,e,h⟩:=Ep.mp ((RG d).symm.trans h);obtain⟨c,rfl⟩:=uL h;rw[bP e];exact .one j c
  |cons d' ds =>
   cases ds with
   |nil =>
    obtain⟨i,e,h⟩:=Ep.mp ((VL d d').symm.trans h);obtain⟨j,e',h⟩:=Ep.mp h;obtain⟨c,rfl⟩:=uL h;rw[bP e,bP e'];exact .two i j c
   |cons _ _ =>
    have h0:∀ d'' t,gD (d::d'::d''::t)=none:=λd'' t=>by cases d <;> first|rfl|(cases d' <;> rfl)
    exact nn ((h0 _ _).symm.trans h)
theorem tR {P:Hp}{α:Aa Ad}{i:Ag}{ds:Aa D}(r:qB K P α (.int i::ds) vs):∃ ws,vs=.int i::ws/\qB K P α ds ws:=by
 obtain⟨w,ws,rfl,p,t⟩:=r.cons_inv;exact⟨ws,congrArg (· :: ws) (by simpa only [Rep] using p),t⟩
theorem PI.weak {iter:Bn}{t t':TI}(h:PI X tg iter t)(w:∀ σ H R,t' σ H R->t σ H R):PI X tg iter t':=λpins s σ H R I q=>h pins s σ H R I (w σ H R q)
end
section
variable {X:Cx}{tg a b:Bn}{f:DA}{p pos:Eg}
theorem X5 {e:Bn}{es:Aa Bn}(hg:Gl X "range")(hm:X.mg "range" = none)(ha:PA X (e::es) (tDA X f))(hs:Bl (e::es) X.env=(false,eval e X.env)::Bl es X.env:=by rfl)(hpl:(Ft pos (Bl es X.env)).any (·.1)=false:=by rfl) :
  PI X tg (.Call (.Name "range" p) (e::es) [] pos) (tDI X (gW f)):=by
 intro pins s σ H R I h;obtain⟨P,α,env,S,r,re,af⟩:=h;refine Call_ (yU I hg hm boot_range (Gg (thn (wC ha I r re af pos) λus s1 ⟨vs,H1,P1,α1,ds,S1,I1,rv,r1,re1,rp,e1,e2,af1⟩=>?_) hs hpl));obtain⟨its,hi,q⟩:=vH af1;cases GG hi with
 |one j c =>
  obtain⟨ws,rfl,t1⟩:=tR rp;cases t1.nil_inv;obtain⟨u,rfl,t,rfl⟩:=gH rv;refine call_range_1 (sI I1 om om c.1 c.2 ?_);have z:=q (Itr 0 j.toNat) H1 P1 α1 r1 e1 e2 nO;rw[Int.sub_zero];exact z
 |two i j c =>
  obtain⟨ws,rfl,t1⟩:=tR rp;obtain⟨ws2,rfl,t2⟩:=tR t1;cases t2.nil_inv;obtain⟨u,u',rfl,⟨t,rfl⟩,t',rfl⟩:=aZ rv;exact call_range_2 (sI I1 c.1 c.2.1 c.2.2.1 c.2.2.2 (q (Itr i (j-i).toNat) H1 P1 α1 r1 e1 e2 nO))
noncomputable def xF (g:DG)(f:DS):Aa D->qC->Sto->Out
 |[],env,S=>.nx env S
 |d::ds,env,S=>(g d env S).toS env λenv1 S1=>match f env1 S1 with
  |.nx env2 S2=>xF g f ds env2 S2
  |.ct env2 S2=>xF g f ds env2 S2
  |.bk env2 S2=>.nx env2 S2
  |o=>o
noncomputable def v7 (fi:DI)(g:DG)(f:DS):DS:=λenv S=>(fi env S).toS env λds S1=>xF g f ds env S1
inductive LoopW (X:Cx)(P1:Hp)(α1:Aa Ad)(g:DG)(f:DS)(ds:Aa D)(D:Ends)(i m:Af)(σ : _L.St)(H:Hp):Prop
 |mk (hi:i<=ds.length) (hm:m=ds.length-i) (P2:Hp) (α2:Aa Ad) (env2:qC) (S2:Sto) (r:Rel X.K H P2 α2 S2) (re:z0 X.K P2 α2 σ env2) (e1:qD P1 P2) (e2:α1<+:α2) (af:qQ X P2 α2 (xF g f (ds.drop i) env2 S2) D):LoopW X P1 α1 g f ds D i m σ H
theorem F3 {iter:Bn}{fi:DI}{g:DG}{f:DS}(hp:Nj (Ba X.prog X.w) X.A X.env X.xe)(hc:X.calm=true)(hi:PI X tg iter (tDI X fi))(hg:PG X tg (tDG X g))(hb:PSs X body (tDS X f))
  (hs:∀ x,Fj iter X.env x=pure x:=by intro _;rfl):PS X (.For tg iter body [] pos) (tDS X (v7 fi g f)):=psW (Q0 hp hc hi hg hb hs) λD σ H ⟨P,α,env,S,r,re,af⟩=>by
 refine⟨P,α,env,S,r,re,?_⟩;have af1:=zZ af;cases q:fi env S with
 |bad=>rw[q] at af1;exact af1
 |ex c x S'=>rw[q] at af1;exact af1
 |ok ds S1 =>
  rw[q] at af1;have af2:qQ X P α (xF g f ds env S1) D:=af1;intro J H1 P1 α1 r1 e1 e2 it;refine⟨LoopW X P1 α1 g f ds D,
   ⟨ds.length,Hg _,rfl,P1,α1,env,S1,r1,re.mono e1 e2,qD.refl _,Bf _,qQ.base e1 e2 af2⟩,?_⟩
  rintro i m σ2 H2 ⟨hi,rfl,P2,α2,env2,S2,r2,re2,e3,e4,af3⟩;by_cases hlt:i<ds.length
  .refine .inr ⟨it.go i H2 P2 α2 S2 hlt r2 e3 e4,LoopW X P1 α1 g f ds D (i+1) (ds.length-(i+1)),λσ' H' w=>⟨_,?_,w⟩,λx H3 y=>?_⟩
   .omega
   .obtain⟨P3,d,hd,r3,e5,rp⟩:=it.yld i H2 x H3 P2 α2 S2 hlt r2 e3 e4 y
    have hdr:ds.drop i=d::ds.drop (i+1):=by
     rw[Fm hlt];rw[Am hlt] at hd;rw[Cj hd]
    rw[hdr] at af3;have af4:=zZ (qQ.base e5 (Bf _) af3);refine⟨P3,α2,env2,S2,d,r3,re2.mono e5 (Bf _),rp,?_⟩;cases q2:g d env2 S2 with
    |bad=>rw[q2] at af4;exact af4
    |ex c x S'=>rw[q2] at af4;exact af4
    |ok env3 S3 =>
     rw[q2] at af4;intro σ4 H4 P4 α4 r4 re4 e6 e7;refine⟨P4,α4,env3,S3,r4,re4,?_⟩;have af5:=qQ.base e6 e7 af4;cases q3:f env3 S3 with
     |bad=>simp only[q3] at af5;exact af5
     |ex c x env4 S4=>simp only[q3] at af5;exact af5
     |rt d4 S4=>simp only[q3] at af5;exact af5
     |bk env4 S4=>simp only[q3] at af5;exact af5
     |nx env4 S4 =>
      simp only[q3] at af5;exact λσ5 H5 P5 α5 r5 re5 e8 e9=>⟨hlt,rfl,P5,α5,env4,S4,r5,re5,((e3.trans e5).trans e6).trans e8,(e4.trans e7).trans e9,qQ.base e8 e9 af5⟩
     |ct env4 S4 =>
      simp only[q3] at af5;exact λσ5 H5 P5 α5 r5 re5 e8 e9=>⟨hlt,rfl,P5,α5,env4,S4,r5,re5,((e3.trans e5).trans e6).trans e8,(e4.trans e7).trans e9,qQ.base e8 e9 af5⟩
  .have hdr:ds.drop i=[]:=IU om
   rw[hdr] at af3;exact .inl ⟨it.stop i H2 P2 α2 S2 om r2 e3 e4,af3 σ2 H2 P2 α2 r2 re2 (qD.refl _) (Bf _)⟩
end
abbrev DF:=Aa D->Sto->Res D
section
variable {X:Cx}{x:Ao}{p pos:Eg}{e:Bn}{es:Aa Bn}{F:DF}{fa:DA}
noncomputable def qX (F:DF)(fa:DA):DE:=λenv S=>(fa env S).bind λds S1=>F ds S1
theorem nB {pins:Aa (Ad × Cg)}{s1:Ah}{σ:_L.St}{H1 P P1:Hp}{α α1:Aa Ad}{ds:Aa D}{S1:Sto}(hc:wL X u F)(I1:Inv X pins σ H1 s1)(r1:Rel X.K H1 P1 α1 S1)(rv:qH vs us)
  (rp:qB X.K P1 α1 ds vs) (e1:qD P P1) (e2:α<+:α1) (af:qI X P α (F ds S1) (OkV X P α Q)):Av (Ba X.prog X.w) X.A (call u us) (EP X pins σ Q) X.xe s1:=hc pins σ H1 s1 P1 α1 S1 vs us ds Q I1 r1 rv rp (qP.base e1 e2 af)
theorem ZY {id:Dt}(hc:wL X (.builtin id) F)(hg:Gl X x)(hm:X.mg x=none)(hv:Fd x=Ab (.builtin id))(ha:PA X (e::es) (tDA X fa))(hn:x ≠ "__name__":=by decide)(hdb:(x == ("__debug__" : Ao))=false:=by decide)
  (he:Bl (e::es) X.env=(false,eval e X.env)::Bl es X.env:=by rfl) (hpl:(Ft pos (Bl es X.env)).any (·.1)=false:=by rfl):PE X (.Call (.Name x p) (e::es) [] pos) (tD X (qX F fa)):=by
 intro pins s σ H Q I h;obtain⟨P,α,env,S,r,re,af⟩:=h;refine Hs (yU I hg hm hv ?_ hn hdb);exact Na (thn (wC ha I r re af pos) λus s1 ⟨vs,H1,P1,α1,ds,S1,I1,rv,r1,re1,rp,e1,e2,af1⟩=>nB hc I1 r1 rv rp e1 e2 af1) he hpl
theorem iL {T:Dt}(hc:wL X (.type T) F)(hg:Gl X x)(hm:X.mg x=none)(hv:Fd x=Ab (.type T))(ha:PA X (e::es) (tDA X fa))(hn:x ≠ "__name__":=by decide)(hdb:(x == ("__debug__" : Ao))=false:=by decide)
  (he:Bl (e::es) X.env=(false,eval e X.env)::Bl es X.env:=by rfl) (hpl:(Ft pos (Bl es X.env)).any (·.1)=false:=by rfl):PE X (.Call (.Name x p) (e::es) [] pos) (tD X (qX F fa)):=by
 intro pins s σ H Q I h;obtain⟨P,α,env,S,r,re,af⟩:=h;refine Hs (yU I hg hm hv ?_ hn hdb);exact Gg (thn (wC ha I r re af pos) λus s1 ⟨vs,H1,P1,α1,ds,S1,I1,rv,r1,re1,rp,e1,e2,af1⟩=>nB hc I1 r1 rv rp e1 e2 af1) he hpl
end
theorem zE.there {P:Bi}{w:Ca}{H:Hp}{h:Bs}{a:Ad}{o:HO}(x:zE P w H h a o):∃ ob,h.get? a=Ab ob:=by
 cases o with
 |lst xs=>obtain⟨_,_,_,_,e⟩:=x;exact⟨_,e⟩
 |tup xs=>obtain⟨_,_,_,ob,e,_⟩:=x;exact⟨_,e⟩
 |dK kvs=>obtain⟨_,_,_,_,o,_,_,e,_⟩:=x;exact⟨_,e⟩
 |dT kvs=>obtain⟨_,_,_,_,o,_,_,e,_⟩:=x;exact⟨_,e⟩
 |set S n=>obtain⟨o,_,_,_,e,_⟩:=x;exact⟨_,e⟩
 |ins C dx fs=>obtain⟨_,_,_,e,_⟩:=x;exact⟨_,e⟩
 |own y=>obtain⟨_,e⟩:=x;exact⟨_,e⟩
 |xd fs=>obtain⟨_,⟨_,_,_,e,_⟩,_⟩:=x;exact⟨_,e⟩
 |rng lo hi=>obtain⟨_,_,_,e⟩:=x;exact⟨_,e⟩
 |frz ob u=>obtain⟨e,_⟩:=x;exact⟨_,e⟩
 |tbl ps=>exact⟨_,show h.get? a=Ab _ from x⟩
 |met f y=>exact⟨_,show h.get? a=Ab _ from x⟩
 |ext φ => obtain⟨_,e,_⟩:=x;exact e
section
variable {X:Cx}{pins:Aa (Ad × Cg)}{σ : _L.St}{H:Hp}{s:Ah}{B h':Bs}
abbrev Fn1 (X:Cx):Prop:=X.ex=[]/\X.stack=X.env::X.outer/\X.env.frame=Ab X.env.locals
theorem Fn1.mem (F:Fn1 X){b:Ad}:b∈frs X.stack↔b=X.env.locals\/b∈X.fs:=by
 rw[F.2.1];unfold frs;rw[Kh,F.2.2];exact Bg
theorem Old.there (I:Inv X pins σ H s)(F:Fn1 X){b:Ad}(o:Old X pins H b):∃ ob,s.heap.get? b=Ab ob:=by
 rcases o with⟨o,e⟩|e|⟨p,hp,rfl⟩|⟨x,e⟩
 .exact I.base.there b o e (by rw[F.1];simp)
 .cases q:H b with
  |none=>exact absurd q e
  |some u=>exact zE.there (I.hok b u q)
 .exact⟨_,(I.pin p hp).1⟩
 .obtain⟨v,ob,ho,_⟩:=I.cell x b e
  exact⟨ob,ho⟩
theorem Inv.fly (I:Inv X pins σ H s)(F:Fn1 X)(cv:Cv X pins H B s.heap)(st:B.StaysIn h')(up:s.heap.UpToSlots h'):Inv X pins σ H { s with heap:=h' } /\ Cv X pins H B h':=by
 have kp:∀ b o,s.heap.get? b=Ab o->Old X pins H b->b ∉ frs X.stack->h'.get? b=Ab o:=λb o e q n=>st b o (cv b o e q n);have neL:∀ b o,X.s₀.heap.get? b=Ab o->b≠X.env.locals:=λb o e=>Cn (Bd (Ay e) I.ok.above);have nofr:∀ b o,X.s₀.heap.get? b=Ab o->b ∉ X.fs->b ∉ frs X.stack:=λb o e n z=>(F.mem.mp z).elim (neL b o e) n;have nx:∀ b,b ∉ X.ex:=λb=>by rw[F.1];simp
 have frU:∀ b,b∈frs X.stack->∀ o,s.heap.get? b=Ab o->∃ sl,h'.get? b=Ab { o with slots:=sl }:=λb hb o e=>by
  obtain⟨_,o',e',nf⟩:=I.stack.mem hb;rw[e] at e';cases e';exact up b o e nf
 have cellK:∀ x c,X.env.cells.lookup x=Ab c->∀ v,s.heap.IsCell c v->h'.IsCell c v:=λx c e v ⟨o,ho,hd⟩=>by
  obtain⟨sl,q⟩:=up c o ho λvs z=>by rw[hd] at z;cases z
  exact⟨_,q,hd⟩
 refine⟨⟨I.ok,I.os,I.bare,⟨λb o e n hb hx=>?_,λb o e n hb hx=>?_,I.base.free,λb o e hx=>?_,I.base.tups,I.base.frzs,I.base.tbls⟩,?_,λx c e=>?_,I.free,I.freeC,λp hp=>?_,λa o e=>?_,I.len⟩,λb o e q n=>?_⟩
 .exact kp b o (I.base.keep b o e n hb hx) (.inl ⟨o,e⟩) (nofr b o e hb)
 .obtain⟨sl,e1⟩:=I.base.slot b o e n hb hx
  obtain⟨sl',e2⟩:=frU b (F.mem.mpr (.inr hb)) _ e1;exact⟨sl',e2⟩
 .obtain⟨o',e1⟩:=I.base.there b o e hx
  by_cases hb:b∈frs X.stack
  .obtain⟨sl,e2⟩:=frU b hb _ e1
   exact⟨_,e2⟩
  .exact⟨o',kp b o' e1 (.inl ⟨o,e⟩) hb⟩
 .obtain⟨m,hn,hl⟩:=I.loc
  refine⟨m,up.ns hn,λi x v e1 e2 e3=>?_⟩;obtain⟨u,r,l⟩:=hl i x v e1 e2 e3;refine⟨u,r,?_⟩;rcases l with l|⟨k,c,e,z⟩
  .exact .inl l
  .exact .inr ⟨k,c,e,cellK x c e _ z⟩
 .obtain⟨v,z⟩:=I.cell x c e
  exact⟨v,cellK x c e v z⟩
 .obtain⟨e,n,ne,nf,d⟩:=I.pin p hp
  exact⟨kp p.1 p.2 e (.inr (.inr (.inl ⟨p,hp,rfl⟩))) λz=>(F.mem.mp z).elim ne nf,n,ne,nf,d⟩
 .refine(I.hok a o e).stay (λb u hb q=>?_) (λ_ q=>q) λ_ _ q=>q
  have hn:H b≠none:=by
   rcases hb with rfl|hb
   .rw[e];intro z;cases z
   .rw[hb];intro z;cases z
  exact kp b u q (.inr (.inl hn)) λz=>hn (I.stkFree b z)
 .obtain⟨o1,e1⟩:=Old.there I F q
  have e2:=cv b o1 e1 q n;have e3:=st b o1 e2;rw[e] at e3;cases e3;exact e2
theorem MB {c:Ac}{e:Ad}{g:Bs}{args:Aa Ac}(I:Inv X pins σ H s)(hm:Xc g s.heap e c args)(hf:g.FunFrames X.base X.stack)(hk:∀ b o,s.heap.get? b=Ab o->Old X pins H b->g.get? b=Ab o) :
  (Nh g (frs X.stack)).StaysIn g/\g.FunFrames (Nh g (frs X.stack)) X.stack/\Cv X pins H (Nh g (frs X.stack)) s.heap:=
 ⟨λb o q=>Tp _ q,PySem.W.funFrames_hide hf λenv he a ha=>Lh.mpr ⟨env,he,ha⟩,λb o e q n=>Si _ (hk b o e q) n⟩
theorem oA {M:Lz}{A:Br}{E:Ac->Ah->Prop}{c:Ac}{e:Ad}{Q:Qm->Ah->Prop}(I:Inv X pins σ H s)(F:Fn1 X)(hA:A.frames=Ab X.stack)(f:FlyX X pins H c e s.heap)
  (hQ:∀ h' B a0,Uh B X.outer e c a0 h'->Inv X pins σ H { s with heap:=h' } -> Cv X pins H B h'->Q () { s with heap:=h' }) : Av M A (leaving X.env (.ref e)) Q E s:=by
 cases f with
 |new g args hm hf hk =>
  obtain⟨k1,k2,k3⟩:=MB I hm hf hk;rw[F.2.1] at hA;refine wpAny_leaves_madeW hA F.2.2 k1 (by rw[<- F.2.1];exact k2) hm λh' t x1 x2 x3 x4=>?_
  obtain⟨I1,cv1⟩:=Inv.fly I F k3 x1.1 x4;exact hQ h' _ _ x1 I1 cv1
 |fly B a0 fl cv =>
  rw[F.2.1] at hA;refine wpAny_leaves_onW hA F.2.2 (by rw[<- F.2.1];exact fl) λh' x1 x2=>?_
  obtain⟨I1,cv1⟩:=Inv.fly I F cv x1.1 x2;exact hQ h' _ _ x1 I1 cv1
end
def CXd (P:Bi)(w:Ca):CXT:=λouter H s E u s' =>
 ∃ e c H' B a0,u=.ref e/\s'.os=s.os/\Mk s'.gens/\Un (frs outer) [] H H' s.heap s'.heap/\HOk P w H' s'.heap/\Uh B outer e c a0 s'.heap /\
  (∀ b o,s'.heap.get? b=Ab o->((∃ o,s.heap.get? b=Ab o)\/H' b≠none)->b ∉ frs outer->B.get? b=Ab o)/\E c none H'
section
variable {X:Cx}{pins:Aa (Ad × Cg)}{σ : _L.St}{H:Hp}{s s':Ah}
theorem FF {E:XK}(I:Inv X pins σ H s)(F:Fn1 X)(h:CXd X.prog X.w X.stack H s E u s'):∃ e c H',u=.ref e/\Inv X pins σ H' s'/\FlyX X pins H' c e s'.heap/\E c none H':=by
 obtain⟨e,c,H',B,a0,rfl,os,bare,un,hok,fl,cov,q⟩:=h;have I':Inv X pins σ H' s':=Inv.call' I os un hok bare (ch:=[]) λb z=>absurd z (by simp)
 refine⟨e,c,H',rfl,I',.fly B a0 fl λb o eb old n=>cov b o eb ?_ n,q⟩;rcases old with⟨o,z⟩|z|⟨p,hp,rfl⟩|⟨x,z⟩
 .exact .inl (I.base.there b o z (by rw[F.1];simp))
 .exact .inr z
 .exact .inl ⟨_,(I.pin p hp).1⟩
 .obtain⟨v,ob,ho,_⟩:=I.cell x b z
  exact .inl ⟨ob,ho⟩
end
structure RoomC (cm:Ap)(k:Af)(A:Br):Prop where
 hd:cm=true->A.handled=none
 dp:A.depth+3*k+5<Lx
 un:A.units+16*k+200<Ev
 gd:A.guards=Ab []
theorem RoomC.mono {cm:Ap}{j k:Af}{A:Br}(r:RoomC cm k A)(h:j<=k:=by decide):RoomC cm j A:=⟨r.hd,by have:=r.dp;omega,by have:=r.un;omega,r.gd⟩
theorem RoomC.deeper {cm:Ap}{k:Af}{A:Br}(r:RoomC cm (k+1) A)(env:Iw):RoomC cm k (A.deeper env):=
 ⟨r.hd,by have:=r.dp;show A.depth+1+3*k+5<_;omega,by have:=r.un;show A.units+3+16*k+200<_;omega,r.gd⟩
theorem RoomC.depth {cm:Ap}{k:Af}{A:Br}(r:RoomC cm k A):A.depth<Lx:=by have:=r.dp;omega
theorem RoomC.units {cm:Ap}{k:Af}{A:Br}(r:RoomC cm k A):A.units+64<Ev:=by have:=r.un;omega
theorem RoomC.of {k:Af}{A:Br}(r:Room k A):RoomC true k A:=⟨λ_=>r.hd,r.dp,r.un,r.gd⟩
theorem RoomC.any {cm:Ap}{k:Af}{A:Br}(r:RoomC cm k A):RoomC false k A:=⟨(λz=>nomatch z),r.dp,r.un,r.gd⟩
theorem RoomC.mark {cm:Ap}{k:Af}{A:Br}(r:RoomC cm k A)(h:Al Ac):RoomC false k (A.mark h):=⟨(λz=>nomatch z),r.dp,r.un,r.gd⟩
abbrev Cx.re (X:Cx)(A:Br)(cm:Ap)(E:Ac->Ah->Prop):Cx:={ X with A:=A,calm:=cm,xe:=E }
theorem Inv.re {X:Cx}{pins:Aa (Ad × Cg)}{σ:_L.St}{H:Hp}{s:Ah}(I:Inv X pins σ H s)(A:Br)(cm:Ap)(E:Ac->Ah->Prop)(hf:A.frames=Ab X.stack)(hh:cm=true->A.handled=none):Inv (Cx.re X A cm E) pins σ H s:=
 ⟨⟨I.ok.mod,I.ok.kind,I.ok.glob,I.ok.blt,I.ok.above,I.ok.inj,I.ok.has,I.ok.cab,hh,hf,I.ok.stk,I.ok.exf,I.ok.bs,I.ok.bsz,I.ok.noex,I.ok.exfs,I.ok.funs,I.ok.frf⟩,I.os,I.bare,I.base,I.loc,I.cell,I.free,I.freeC,I.pin,I.hok,I.len⟩
structure FnX (P:Bi)(w:Ca)(K:Ak)(mg:Ao->Al Ac)(base:Bs)(cm:Ap)(k:Af)(f:Ad)(fd:Et)(ps:Aa Ao)(sp:Sp):Prop where
 len:∀ vs H Q E,sp vs H Q E->vs.length=ps.length
 run:∀ (A:Br) (outer:Aa Iw) (s:Ah) (H:Hp) (args:Args) (us:Aa Ac) (vs:Aa V) (Q:VK) (E:XK),RoomC cm k A->Env0 P w K mg base A outer s H->Ml s fd args (ps.zip us)->qH vs us->sp vs H Q E ->
  IE (Ba P w) A (.call (.ref f) args) (CR (CXd P w) outer P w H s Q E) s
theorem FnX.ok {P:Bi}{w:Ca}{K:Ak}{mg:Ao->Al Ac}{base:Bs}{k:Af}{f:Ad}{fd:Et}{ps:Aa Ao}(F:FnX P w K mg base true k f fd ps sp):FnOk P w K mg base (CXd P w) k f fd ps sp:=
 ⟨F.len,λA outer s H args us vs Q E hr=>F.run A outer s H args us vs Q E (.of hr)⟩
theorem FnX.any {P:Bi}{w:Ca}{K:Ak}{mg:Ao->Al Ac}{base:Bs}{cm:Ap}{k:Af}{f:Ad}{fd:Et}{ps:Aa Ao}(F:FnX P w K mg base false k f fd ps sp):FnX P w K mg base cm k f fd ps sp:=
 ⟨F.len,λA outer s H args us vs Q E hr=>F.run A outer s H args us vs Q E hr.any⟩
theorem FnX.imp {P:Bi}{w:Ca}{K:Ak}{mg:Ao->Al Ac}{base:Bs}{cm:Ap}{k:Af}{f:Ad}{fd:Et}{ps:Aa Ao}{sp':Sp}(F:FnX P w K mg base cm k f fd ps sp)
  (h:∀ vs H Q E,sp' vs H Q E->sp vs H Q E):FnX P w K mg base cm k f fd ps sp':=
 ⟨λvs H Q E q=>F.len vs H Q E (h _ _ _ _ q),λA outer s H args us vs Q E hr he hb hv hs=>F.run A outer s H args us vs Q E hr he hb hv (h _ _ _ _ hs)⟩
noncomputable def cxC (cm:Ap)(P:Bi)(w:Ca)(K:Ak)(mg:Ao->Al Ac)(base:Bs)(N:Aa Ao)(qual:Ao)(scope:Do)(f:Ad)(cd:Ac)(A:Br)(outer:Aa Iw)(s:Ah)(H:Hp)(E:XK):Cx where
 prog:=P
 w:=w
 K:=K
 mg:=mg
 base:=base
 A:=A.deeper (Gb qual scope s.heap.objs.size f cd)
 N:=N
 s₀:=s
 H₀:=H
 env:=Gb qual scope s.heap.objs.size f cd
 outer:=outer
 stack:=Gb qual scope s.heap.objs.size f cd::outer
 ex:=[]
 calm:=cm
 fn:=λ_=>true
 pn:=[]
 xe:=λe s'=>Av (Ba P w) (A.deeper (Gb qual scope s.heap.objs.size f cd)) (leaving (Gb qual scope s.heap.objs.size f cd) e) (λ_ s''=>CXd P w outer H s E e s'') (λe' s''=>CXd P w outer H s E e' s'') s'
section
variable {P:Bi}{w:Ca}{K:Ak}{mg:Ao->Al Ac}{base:Bs}{cm:Ap}{N:Aa Ao}{qual:Ao}{scope:Do}{f:Ad}{cd:Ac}{A:Br}{outer:Aa Iw}{s:Ah}{H:Hp}{E:XK}
theorem ZU:Nj (Ba P w) (A.deeper (Gb qual scope s.heap.objs.size f cd)) (Gb qual scope s.heap.objs.size f cd) (cxC cm P w K mg base N qual scope f cd A outer s H E).xe:=PassesOwn.leaving (Q₁:=λe s''=>CXd P w outer H s E e s'')
abbrev xeL (P:Bi)(w:Ca)(A:Br)(env:Iw)(outer:Aa Iw)(H:Hp)(s:Ah)(E:XK):Ac->Ah->Prop:=λe s'=>Av (Ba P w) (A.deeper env) (leaving env e) (λ_ s''=>CXd P w outer H s E e s'') (λe' s''=>CXd P w outer H s E e' s'') s'
theorem ZV {X:Cx}{P0:Hp}{α:Aa Ad}{c:Ac}{x:D}{s':Ah}(hA:X.A=A.deeper X.env)(k:XOk X P0 α c x S u s')
  (q:∀ H' P' α',Rel X.K H' P' α' S->qD P0 P'->α<+:α'->E c none H'):xeL X.prog X.w A X.env X.outer X.H₀ X.s₀ E u s':=by
 obtain⟨e,pins,σ,H1,P1,α1,rfl,I,r,e1,e2,F,fl⟩:=k;unfold xeL;rw[<- hA];refine oA I F I.ok.frames fl λh' B a0 x1 I1 cv=>?_;refine⟨e,c,H1,B,a0,rfl,I1.os,I1.bare,by have z:=I1.base;rw[F.1] at z;exact z,I1.hok,x1,λb o eb hb n=>cv b o eb ?_ λz=>?_,q H1 P1 α1 r e1 e2⟩
 .rcases hb with z|z
  .exact .inl z
  .exact .inr (.inl z)
 .rcases (Fn1.mem F).mp z with z|z
  .subst z
   rcases hb with⟨o',e'⟩|z
   .exact absurd (Ay e') (Oc.mpr I1.ok.above)
   .exact z I1.free
  .exact n z
theorem cR {ps:Aa Ao}{s1:Ah}(S:FnScope N ps scope)(hd:cm=true->A.handled=none)(e0:Env0 P w K mg base A outer s H)(hl:vs.length=ps.length)(r:qH vs us)
  (x:InCallC s s.heap.objs.size (So (Gb qual scope s.heap.objs.size f cd).kindOf (ps.zip us) λ_=>none) (Gp (s.heap.objs.size+1) scope.names []) (Sr (Gb qual scope s.heap.objs.size f cd).kindOf (ps.zip us) λ_=>none) s1) :
  Inv (cxC cm P w K mg base N qual scope f cd A outer s H E) [] (_L.xK N vs) H s1:=by
 have I:=nN (CX:=CXd P w) (E:=E) (A:={ A with handled:=none }) S rfl ⟨e0.frames,e0.mod,e0.bs,e0.bsz,e0.funs,e0.frf,e0.hok,e0.bare⟩ hl r x
 have J:=Inv.re I (A.deeper (Gb qual scope s.heap.objs.size f cd)) cm (cxC cm P w K mg base N qual scope f cd A outer s H E).xe (Rz e0.frames) hd;exact J
end
theorem FH {P:Bi}{w:Ca}{K:Ak}{mg:Ao->Al Ac}{base:Bs}{cm:Ap}{k:Af}{f:Ad}{qual:Ao}{params:Kl}{scope:Do}{oc:Ac}{an:Al Ad}{osl:Bj (Al Ac)}{x:Ao}{kV doc pm cdv ct:Ac}{N ps:Aa Ao}
  {A:Br} {outer:Aa Iw} {s:Ah} {H:Hp} {args:Args} {us:Aa Ac} {vs:Aa V} {Q:VK} {E:XK} (lk:K.lookup f=Ab ⟨oc,od,.func (Fo x qual params body scope .none kV doc pm an cdv ct),osl⟩) (hcd:Js K cdv qual=true) (S:FnScope N ps scope) (hl:vs.length=ps.length) (hr:RoomC cm (k+1) A)
  (e0:Env0 P w K mg base A outer s H) (hb:Ml s (Fo x qual params body scope .none kV doc pm an cdv ct) args (ps.zip us)) (r:qH vs us)
  (hbody:∃ t,PSs (cxC cm P w K mg base N qual scope f cdv A outer s H E) body t/\t { nx:=λ_ H'=>Q .non H',rt:=Q } (_L.xK N vs) H) :
  IE (Ba P w) A (.call (.ref f) args) (CR (CXd P w) outer P w H s Q E) s:=by
 have KX:K.In s.heap:=e0.mod.kin.keeps λb o e=>(e0.bs b o e).1;have lim:s.heap.NoLimit:=e0.mod.nolimit.keeps λb o e=>(e0.bs b o e).1;have hkind:∀ y∈ps.zip us,scope.names.lookup y.1=Ab .local \/ (scope.names.lookup y.1=Ab .cell/\((Gp (s.heap.objs.size+1) scope.names []).lookup y.1).isSome=true):=λ⟨n,v⟩ hy=>by
  rcases S.par n (Nl hy).1 with q|q
  .exact .inl q
  .exact .inr ⟨q,IR _ _ _ (.inl q)⟩
 refine Qz hr.depth (KX _ _ lk) rfl S.co S.gen rfl (Tt KX hcd) (hb _ _ _ _ ?_);refine O0 S.kind hkind λenv he s1 x=>?_;subst he;refine⟨lim.keeps x.toInCall.keep,codeAny_func ?_⟩;obtain⟨t,ht,hq⟩:=hbody;have I:Inv (cxC cm P w K mg base N qual scope f cdv A outer s H E) [] (_L.xK N vs) H s1:=cR S hr.hd e0 hl r x;refine ID (ht [] s1 (_L.xK N vs) H _ I hq) (λfl s' hs=>?_) λe s' hs=>hs;have fin:∀ {σ' : _L.St} {H':Hp} {v:V} {u:Ac},Inv (cxC cm P w K mg base N qual scope f cdv A outer s H E) [] σ' H' s'->qF v u->Q v H'->CE outer P w H s Q u s':=
  λ{σ' H' v u} J rv q=>⟨v,H',J.os,J.bare,J.base,J.hok,rv,q⟩
 cases fl with
 |ret u =>
  obtain⟨v,σ',H',J,rv,q⟩:=hs;exact fin J rv q
 |next =>
  obtain⟨σ',H',J,q⟩:=hs;exact fin (v:=V.non) (u:=Df) J rfl q
 |brk =>
  obtain⟨_,_,_,q⟩:=hs;exact An q
 |cont =>
  obtain⟨_,_,_,q⟩:=hs;exact An q
def kF (K:Ak)(x:Ao)(cdv:Ac):Prop:=∀ c T,Dk K x=Ab (c,T)->cdv=.ref c
theorem FG {P:Bi}{w:Ca}{K:Ak}{mg:Ao->Al Ac}{base:Bs}{cm:Ap}{k:Af}{f:Ad}{x qual:Ao}{st:Fb}{fd:Et}{N ps:Aa Ao}(F:Fun K x qual st f fd)(S:FnScope N ps (qJ st))
  (len:∀ vs H Q E,sp vs H Q E->vs.length=ps.length)
  (hbody:∀ (cdv:Ac) (A:Br) (outer:Aa Iw) (s:Ah) (H:Hp) (vs:Aa V) (Q:VK) (E:XK),fd.code=cdv/\Mod K mg base->RoomC cm k (A.deeper (Gb qual (qJ st) s.heap.objs.size f cdv))->sp vs H Q E ->
   ∃ t,PSs (cxC cm P w K mg base N qual (qJ st) f cdv A outer s H E) (zM st) t/\t { nx:=λ_ H'=>Q .non H',rt:=Q } (_L.xK N vs) H) :
  FnX P w K mg base cm (k+1) f fd ps sp:=by
 obtain⟨oc,od,kV,doc,pm,an,cdv,ct,osl,rfl,lk,hcd⟩:=F.ex;exact⟨len,λA outer s H args us vs Q E hr e0 hb r hsp=>FH lk hcd S (len _ _ _ _ hsp) hr e0 hb r (hbody cdv A outer s H vs Q E ⟨rfl,e0.mod⟩ (hr.deeper _) hsp)⟩
noncomputable def y8 (n:Af)(ds:Aa D):qC:=ds.map Ab++Xb (n-ds.length) none
noncomputable def aG:Out->Res D
 |.rt d S=>.ok d S
 |.nx _ S=>.ok .non S
 |.ex c x _ S=>.ex c x S
 |_=>.bad
noncomputable def qO (n:Af)(g:DS):DF:=λds S=>aG (g (y8 n ds) S)
def spR (K:Ak)(P:Hp)(α : Aa Ad)(R:Res D)(Q:VK)(E:XK):Prop:=match R with
 |.ok d S'=>∀ v H' P' α',Rel K H' P' α' S'->qD P P'->α<+:α'->Rep K P' α' d v->Q v H'
 |.ex c _ S'=>∀ H' P' α',Rel K H' P' α' S'->qD P P'->α<+:α'->E c none H'
 |.bad=>Ez
def spD (K:Ak)(n:Af)(F:DF):Sp:=λvs H Q E=>vs.length=n/\∃ P α ds S,Rel K H P α S/\qB K P α ds vs/\spR K P α (F ds S) Q E
theorem aJ {K:Ak}{P:Hp}{α:Aa Ad}{N:Aa Ao}{ds:Aa D}(r:qB K P α ds vs):z0 K P α (_L.xK N vs) (y8 N.length ds):=by
 refine⟨by simp[y8,_L.xK,r.length],λi d e=>?_⟩
 unfold y8 at e;unfold _L.xK;by_cases hi:i<ds.length
 .rw[Bo (by simpa using hi),Eb] at e
  rw[Bo (by rw[Ar,<- r.length];exact hi),Eb]
  cases q:ds[i]? with
  |none=>rw[q] at e;cases e
  |some d' =>
   rw[q] at e;cases e;obtain⟨v,h1,h2⟩:=r.get q;exact⟨v,by rw[h1];rfl,h2⟩
 .rw[Dw (by simpa using hi),Ps] at e
  split at e <;> cases e
section
variable {P:Bi}{w:Ca}{K:Ak}{mg:Ao->Al Ac}{base:Bs}{cm:Ap}
theorem ZE {qual:Ao}{scope:Do}{f:Ad}{cdv:Ac}{A:Br}{outer:Aa Iw}{s:Ah}{H P':Hp}{E:XK}{N:Aa Ao}{g:DS}{α:Aa Ad}{ds:Aa D}{S':Sto}(hb:PSs (cxC cm P w K mg base N qual scope f cdv A outer s H E) body (tDS (cxC cm P w K mg base N qual scope f cdv A outer s H E) g))
  (r:Rel K H P' α S') (rp:qB K P' α ds vs) (af:spR K P' α (qO N.length g ds S') Q E):∃ t,PSs (cxC cm P w K mg base N qual scope f cdv A outer s H E) body t/\t { nx:=λ_ H'=>Q .non H',rt:=Q } (_L.xK N vs) H:=by
 refine⟨_,hb,P',α,y8 N.length ds,S',r,aJ rp,?_⟩;unfold qO at af;cases q:g (y8 N.length ds) S' with
 |rt d S1=>rw[q] at af;exact λv H' P1 α1 r1 e1 e2 p1=>af v H' P1 α1 r1 e1 e2 p1
 |nx env S1=>rw[q] at af;exact λσ' H' P1 α1 r1 re1 e1 e2=>af .non H' P1 α1 r1 e1 e2 (by simp only[Rep])
 |bk env S1=>rw[q] at af;exact An af
 |ct env S1=>rw[q] at af;exact An af
 |ex c x env S1=>rw[q] at af;exact λu s' z=>ZV (A:=A) rfl z λH' P1 α1 r1 e1 e2=>af H' P1 α1 r1 e1 e2
 |bad=>rw[q] at af;exact An af
theorem fnX {x qual:Ao}{st:Fb}{f:Ad}{fd:Et}{N ps:Aa Ao}{k:Af}{g:DS}(F:Fun K x qual st f fd)(S:FnScope N ps (qJ st))
  (hbody:∀ (cdv:Ac) (A:Br) (outer:Aa Iw) (s:Ah) (H:Hp) (E:XK),fd.code=cdv/\Mod K mg base->RoomC cm k (A.deeper (Gb qual (qJ st) s.heap.objs.size f cdv)) ->
   PSs (cxC cm P w K mg base N qual (qJ st) f cdv A outer s H E) (zM st) (tDS (cxC cm P w K mg base N qual (qJ st) f cdv A outer s H E) g)) :
  FnX P w K mg base cm (k+1) f fd ps (spD K ps.length (qO N.length g)):=by
 refine FG F S (λvs H Q E h=>h.1) λcdv A outer s H vs Q E hc hr h=>?_;obtain⟨hl,P',α,ds,S',r,rp,af⟩:=h;exact ZE (hbody cdv A outer s H E hc hr) r rp af
end
section
variable {X:Cx}{cm:Ap}{k:Af}{f:Ad}{fd:Et}{ps:Aa Ao}{F:DF}{x:Ao}{p pos:Eg}{e:Bn}{es:Aa Bn}{fa:DA}{n:Af}
noncomputable def qK (n:Af)(F:DF)(fa:DA):DE:=λenv S=>(fa env S).bind λds S1=>if ds.length=n then F ds S1 else .bad
def EX (X:Cx)(P:Hp)(α : Aa Ad)(R:Res D):XK:=λc _ H'=>match R with
 |.ex c' _ S'=>c=c'/\∃ P' α',Rel X.K H' P' α' S'/\qD P P'/\α<+:α'
 |_=>Ez
theorem L9 {P:Hp}{α:Aa Ad}{R:Res D}(af:qP X P α R Q):spR X.K P α R Q (EX X P α R):=by
 cases R with
 |ok d S'=>exact af
 |ex c x S'=>exact λH' P' α' r' e1 e2=>⟨rfl,P',α',r',e1,e2⟩
 |bad=>exact af
theorem ZL {pins:Aa (Ad × Cg)}{σ:_L.St}{H:Hp}{s:Ah}{P:Hp}{α:Aa Ad}{R:Res D}(hF:(∃ c x S',R=.ex c x S')->Fn1 X)(I:Inv X pins σ H s)(af:qP X P α R Q)
  (h:IE (Ba X.prog X.w) X.A (.call u ⟨us,[]⟩) (CR (CXd X.prog X.w) X.stack X.prog X.w H s Q (EX X P α R)) s):Av (Ba X.prog X.w) X.A (call u us) (EP X pins σ Q) X.xe s:=by
 refine Ww (Px h λr s' hq=>?_);cases r with
 |error u =>
  have hq:CXd X.prog X.w X.stack H s (EX X P α R) u s':=hq;cases R with
  |ok d S'=>obtain⟨_,_,_,_,_,_,_,_,_,_,_,_,q⟩:=hq;exact An q
  |bad=>exact An af
  |ex c' x' S' =>
   have hG:=hF ⟨_,_,_,rfl⟩;obtain⟨a,c,H',rfl,I',fl,rfl,P',α',r',e1,e2⟩:=FF I hG hq;exact af _ _ ⟨a,pins,σ,H',P',α',rfl,I',r',e1,e2,hG,fl⟩
 |ok fl =>
  cases fl with
  |ret u=>exact I.after hq
  |next=>exact An hq
  |brk=>exact An hq
  |cont=>exact An hq
theorem GK {pins:Aa (Ad × Cg)}{σ:_L.St}{H:Hp}{s:Ah}{P:Hp}{α:Aa Ad}{ds:Aa D}(G:FnX X.prog X.w X.K X.mg X.base cm k f fd ps (spD X.K n F))(hr:RoomC cm k X.A)(hb:vY X.K fd ps [])(hF:Fn1 X)
  (I:Inv X pins σ H s) (r:Rel X.K H P α S) (rv:qH vs us) (rp:qB X.K P α ds vs) (hn:ds.length=n) (af:qP X P α (F ds S) Q):Av (Ba X.prog X.w) X.A (call (.ref f) us) (EP X pins σ Q) X.xe s:=by
 have hsp:spD X.K n F vs H Q (EX X P α (F ds S)):=⟨by rw[<- rp.length];exact hn,P,α,ds,S,r,rp,L9 af⟩
 have hl:us.length=ps.length:=by rw[<- rv.length];exact G.len _ _ _ _ hsp
 have hb':=hb s us I.kIn (by rw[Gk];exact hl)
 rw[Gk] at hb';exact ZL (λ_=>hF) I af (G.run X.A X.stack s H ⟨us,[]⟩ us vs Q _ hr I.env0 hb' rv hsp)
theorem nH {env:qC}{S S1:Sto}{P:Hp}{α:Aa Ad}{ds:Aa D}{Ok:D->Sto->Prop}(h:qI X P α (if ds.length=n then F ds S1 else .bad) Ok):ds.length=n/\qI X P α (F ds S1) Ok:=by
 by_cases hn:ds.length=n
 .rw[Bc hn] at h;exact⟨hn,h⟩
 .rw[Aw hn] at h;exact An h
theorem U8 (G:FnX X.prog X.w X.K X.mg X.base cm k f fd ps (spD X.K n F))(hr:RoomC cm k X.A)(hF:Fn1 X)(hg:Gl X x)(hm:X.mg x=Ab (.ref f))(hk:Fp X.K (.ref f)=true)(hb:vY X.K fd ps [])
  (ha:PA X (e::es) (tDA X fa)) (hdb:(x == ("__debug__" : Ao))=false:=by decide) (he:Bl (e::es) X.env=(false,eval e X.env)::Bl es X.env:=by rfl) (hpl:(Ft pos (Bl es X.env)).any (·.1)=false:=by rfl) :
  PE X (.Call (.Name x p) (e::es) [] pos) (tD X (qK n F fa)):=by
 intro pins s σ H Q I h;obtain⟨P,α,env,S,r,re,af⟩:=h;refine Hs (b8 I hg hm ?_ hdb);refine T0 (h₀:=X.base) I.ok.mod.kin hk (thn (wC ha I r re af pos) λus s1 ⟨vs,H1,P1,α1,ds,S1,I1,rv,r1,re1,rp,e1,e2,af1⟩=>⟨I1.kIn,?_⟩) he hpl;obtain⟨hn,af2⟩:=nH (env:=env) (S:=S) af1;exact GK G hr hb hF I1 r1 rv rp hn (qP.base e1 e2 af2)
end
noncomputable abbrev lM:Aa Ac:=[.type "ValueError",.type "Exception",.type "BaseException",.type "object"]
noncomputable def DW:Ac->Ap
 |.str _ _=>true
 |_=>false
noncomputable def k9 (K:Ak)(N:Ad):Ap:=(match Ky N K with
 |some o=>match o.data with
  |.dict es _=>es.toList.all λe=>DW e.key
  |_=>false
 |none=>false)&&decide (Er K N "__init__" = Ab none)
theorem wQ {K:Ak}{N:Ad}(h:k9 K N=true):Xd K N=true/\Er K N "__init__" = Ab none:=by
 unfold k9 at h;rw[As,Aq] at h;refine⟨?_,h.2⟩;have h1:=h.1;unfold Xd;cases e:Ky N K with
 |none=>rw[e] at h1;cases h1
 |some o =>
  rw[e] at h1;obtain⟨oc,od,dt,sl⟩:=o;cases dt with
  |dict es ep =>
   simp only at h1 ⊢;rw[Array.all_toList] at h1;refine Eq.trans (congrArg (λf=>Array.all es f) (funext λe=>?_)) h1;cases e.key <;> rfl
  |_=>cases h1
noncomputable def lE (K:Ak)(C:Ad)(f:Ac->Uy->Bj (Al Ac)->Ap):Ap:=match Ky C K with
 |some o=>(match o.data with|.cls cd=>f o.cls cd o.slots|_=>false)
 |none=>false
theorem s9 {K:Ak}{f:Ac->Uy->Bj (Al Ac)->Ap}(h:lE K C f=true):∃ oc od cd sl,Ky C K=Ab ⟨oc,od,.cls cd,sl⟩/\f oc cd sl=true:=by
 unfold lE at h;cases e:Ky C K with
 |none=>rw[e] at h;exact Cq h
 |some o =>
  rw[e] at h;obtain⟨oc,od,dt,sl⟩:=o;cases dt with
  |cls cd=>exact⟨oc,od,cd,sl,rfl,h⟩
  |_=>exact Cq h
noncomputable def bS (K:Ak)(C A:Ad):Ap:=lE K C λoc cd sl=>lE K A λ_ ca _=>decide (oc=.type "type")&&(decide (cd.mro=.ref C::.ref A::lM)&&(!cd.hasDel&&(k9 K cd.ns&&(k9 K ca.ns&&(decide (sl.toList.length=6)&&decide (sl.toList[4]? = Ab (Ab (.builtin "ValueError.__new__"))))))))
inductive ExcO (h:Bs)(C:Ad):Prop
 |mk (nm q:Ao) (N:Ad) (bs bm:Aa Ac) (hdct:Ap) (sn:Aa Ao) (sub:Aa Ac) (ab:Ap) (col:Al Ap) (dd:Al Ad) (k0 k1 k2 k3 k5:Al Ac) (mN:Ao->Al Ac) (hC:h.get? C=Ab (excClassObj nm q C N bs bm hdct sn sub ab col dd k0 k1 k2 k3 k5 "ValueError.__new__")) (hN:h.Ns N mN) (hni:mN "__init__" = none) (T:OwnTail h lM bm):ExcO h C
theorem tO {β:Type}{l:Aa β}{n:Af}(h:l.length=n+1):∃ a t,l=a::t/\t.length=n:=by
 cases l with
 |nil=>exact Wi h
 |cons a t=>exact⟨a,t,rfl,Yf h⟩
theorem six {β:Type}{l:Aa β}(h:l.length=6):∃ a b c d e f,l=[a,b,c,d,e,f]:=by
 obtain⟨a,t,e1,h⟩:=tO h;obtain⟨b,t2,e2,h⟩:=tO h;obtain⟨c,t3,e3,h⟩:=tO h;obtain⟨d,t4,e4,h⟩:=tO h;obtain⟨e,t5,e5,h⟩:=tO h;obtain⟨f,t6,e6,h⟩:=tO h;exact⟨a,b,c,d,e,f,by rw[e1,e2,e3,e4,e5,e6,Ff.mp h]⟩
theorem MP {cd:Uy}{tl:Aa Ac}{k0 k1 k2 k3 k4 k5:Al Ac}{n:Dt}(hm:cd.mro=.ref C::tl)(hd:cd.hasDel=false)(hs:sl.toList=[k0,k1,k2,k3,k4,k5])(hn:sl.toList[4]? = Ab (Ab (.builtin n))) :
  (⟨.type "type",od,.cls cd,sl⟩:Cg)=excClassObj cd.name cd.qualname C cd.ns cd.bases tl cd.hasDict cd.slotNames cd.subclasses cd.abstract cd.collection od k0 k1 k2 k3 k5 n:=by
 rw[hs] at hn;cases hn;cases cd;cases sl;cases hm;cases hd;cases hs;rfl
theorem UT {K:Ak}{h:Bs}{A:Ad}{cd:Uy}(KI:K.In h)(e:Ky C K=Ab ⟨.type "type",od,.cls cd,sl⟩)(h2:cd.mro=.ref C::.ref A::lM)(h3:cd.hasDel=false)(h4:k9 K cd.ns=true)(h6:sl.toList.length=6)(h7:sl.toList[4]? = Ab (Ab (.builtin "ValueError.__new__")))(T:OwnTail h lM (.ref A::lM)):ExcO h C:=by
 obtain⟨k0,k1,k2,k3,x,k5,es⟩:=six h6;exact⟨_,_,_,_,_,_,_,_,_,_,_,k0,k1,k2,k3,k5,_,(KI _ _ e).trans (congrArg Ab (MP h2 h3 es h7)),.of_isNs (TD KI (wQ h4).1),OX KI (wQ h4).1 (wQ h4).2,T⟩
theorem UU {K:Ak}{h:Bs}{A:Ad}(KI:K.In h)(z:bS K C A=true):ExcO h C:=by
 obtain⟨oc,od,cd,sl,e,z⟩:=s9 z;obtain⟨qc,qd,ca,ql,e2,z⟩:=s9 z;have a1:=Ge.mp z;have a2:=Ge.mp a1.2;have a3:=Ge.mp a2.2;have a4:=Ge.mp a3.2;have a5:=Ge.mp a4.2;have a6:=Ge.mp a5.2;rw[Bp a1.1] at e;exact UT KI e (Bp a2.1) (Jh _▸a3.1) a4.1 (Bp a6.1) (Bp a6.2) (.own (KI _ _ e2) (.of_isNs (TD KI (wQ a5.1).1)) (OX KI (wQ a5.1).1 (wQ a5.1).2) .base)
section
variable {X:Cx}{pos:Eg}{fa:DA}
noncomputable def pG (c:Ac)(fa:DA):DS:=λenv S=>(fa env S).toS env λds S1=>if ds.length<=lim then .ex c .non env S1 else .bad
inductive GotAS (X:Cx)(pins:Aa (Ad × Cg))(σ : _L.St)(env:qC)(P:Hp)(α : Aa Ad)(us:Aa Ac)(s1:Ah)(k:Aa D->Sto->Out)(E:Ends):Prop
 |mk (vs:Aa V) (H1 P1:Hp) (α1:Aa Ad) (ds:Aa D) (S1:Sto) (I:Inv X pins σ H1 s1) (rv:qH vs us) (r:Rel X.K H1 P1 α1 S1) (re:z0 X.K P1 α1 σ env) (rp:qB X.K P1 α1 ds vs) (e1:qD P P1) (e2:α<+:α1) (q:qQ X P1 α1 (k ds S1) E):GotAS X pins σ env P α us s1 k E
theorem U5 {es:Aa Bn}{k:Aa D->Sto->Out}{pins:Aa (Ad × Cg)}{s:Ah}{σ:_L.St}{H P:Hp}{α:Aa Ad}{env:qC}{D:Ends}(he:PA X es (tDA X fa))(I:Inv X pins σ H s)(r:Rel X.K H P α S)
  (re:z0 X.K P α σ env) (af:qQ X P α ((fa env S).toS env k) D) (pos:Eg) :
  Av (Ba X.prog X.w) X.A (spliced (Ft pos (Bl es X.env))) (λus s1=>GotAS X pins σ env P α us s1 k D) X.xe s:=by
 have af1:qI X P α ((fa env S).bind λd S=>.ok d S) λd S=>qQ X P α (k d S) D:=by
  have:=zZ af;cases q:fa env S <;> rw[q] at this <;> exact this
 exact thn (wC he I r re af1 pos) λu s1 ⟨vs,H1,P1,α1,ds,S1,I1,rv,r1,re1,rp,e1,e2,q⟩=>⟨vs,H1,P1,α1,ds,S1,I1,rv,r1,re1,rp,e1,e2,qQ.base e1 e2 q⟩
theorem X7 {x:Ao}{Ae:Ad}{e₀:Bn}{qE:Aa Bn}{np cpos:Eg}(hc:X.calm=true)(hF:Fn1 X)(hg:Gl X x)(hm:X.mg x=Ab (.ref C))(hx:bS X.K C Ae=true)(ha:PA X (e₀::qE) (tDA X fa))
  (hdb:(x == ("__debug__" : Ao))=false:=by decide) (he:Bl (e₀::qE) X.env=(false,eval e₀ X.env)::Bl qE X.env:=by rfl) (hpl:(Ft cpos (Bl qE X.env)).any (·.1)=false:=by rfl) :
  PS X (.Raise (Ab (.Call (.Name x np) (e₀::qE) [] cpos)) none pos) (tDS X (pG (.ref C) fa)):=by
 intro pins s σ H D I h;obtain⟨P,α,env,S,r,re,af⟩:=h;obtain⟨nm,qn,N,bs,tl,hdct,sn,sub,ab,col,dd,k0,k1,k2,k3,k5,mN,hC,hN,hni,T⟩:=UU I.mod.kin hx;refine wpAny_Raise_call_subT (C:=C) (nm:=nm) (q:=qn) (N:=N) (bs:=bs) (bm:=tl) (hdct:=hdct) (sn:=sn) (sub:=sub) (ab:=ab) (col:=col) (dd:=dd) (k0:=k0) (k1:=k1) (k2:=k2) (k3:=k3) (k5:=k5)
  O8 (mN:=mN) (T.hasType O8.hasBase) (I.ok.hd hc) (by rw[he];show (false||(Ft cpos (Bl qE X.env)).any (·.1))=false;rw[hpl];rfl) hni (b8 I hg hm ⟨rfl,?_⟩ hdb)
 have run:=U5 ha I r re af cpos;rw[he] at run ⊢;refine Sc (thn run λus s2 ⟨vs,H1,P1,α1,ds,S1,I1,rv,r1,re1,rp,e1,e2,q⟩=>?_);have hl:us.length=ds.length:=by rw[rp.length,rv.length]
 by_cases hz:ds.length<=lim
 .rw[Bc hz] at q
  refine⟨rfl,by rw[hl,<- zS];exact hz,I1.bk _ _ hC,hN.keeps I1.bk,T.keeps I1.bk,λh' e hm=>q _ _ ⟨e,pins,σ,H1,P1,α1,rfl,I1.kept (t':=s2.toks) hm.keeps,r1,qD.refl _,Bf _,hF,.new s2.heap us hm I1.stack λb o eb old=>?_⟩⟩
  obtain⟨o1,q1⟩:=Old.there I1 hF old;have q2:=hm.keeps b o1 q1;rw[eb] at q2;cases q2;exact q1
 .rw[Aw hz] at q;exact An q
end
abbrev Cx.tryIn (X:Cx)(E:Ac->Ah->Prop)(pn:Aa (Ad × Cg)):Cx:={ X with xe:=E,pn:=pn }
end _D
namespace _D
open PySem PySem.Spec PyProof.Rows _L PySem.W
structure ExnK (K:Ak)(C:Ad):Prop where
 ga:findIn K (.ref C) "__getattribute__" = Ab (Ab (.builtin "BaseException.__getattribute__"))
 hk:findIn K (.ref C) "__getattr__" = Ab none
 cl:findIn K (.ref C) "__class__" = Ab (Ab (.builtin "object.__class__"))
 sp:specialIn K (.builtin "object.__class__") "__get__" = Ab (Ab (.builtin "getset_descriptor.__get__"))
 tk:takesIn K (.builtin "object.__class__")=Ab true
 mo:mroIn K C (.type "object")=Ab true
 mb:mroIn K C (.type "BaseException")=Ab true
 isC:(clsIn K C).isSome=true
section
variable {prog:Bi}{w:Ca}{A:Br}{E:Ac->Ah->Prop}{s:Ah}{K:Ak}{x C:Ad}
abbrev YT (x C:Ad)(h:Bs):Prop:=∃ ob,h.get? x=Ab ob/\ob.cls=.ref C
theorem YT.type {M:Lz}{h:Bs}(I:YT x C h):Looks M h (Vq (.ref x)) (.ref C):=by
 obtain⟨ob,e,c⟩:=I;rw[<- c];exact(Looks.ld e).andThen .now
end
end _D
namespace _D
open PySem PySem.Spec PyProof.Rows _L
variable {cells:Aa (Ao × Ad)}{α α1:Aa Ad}{ds:Aa D}{E:Ac->Ah->Prop}{C:Ad}{s:Ah}{K:Ak}{w:Ca}{o:Cg}{H P P1:Hp}{S S1:Sto}
theorem fE {α:Type}{t:Ke α}{Q Q':α->Ah->Prop}{M:Lz}{A:Br}(h:Av M A t Q (λ_ _=>Ez) s)(hQ:∀ a s,Q a s->Q' a s):Av M A t Q' E s:=ID h hQ λ_ _ x=>x.elim
noncomputable def uV (ifs:Aa Bn)(env:Iw):Ke Ap:=forIn ifs true λc r=>if r=true then do let ok <- Yg c env (eval c env);pure (IV ok) else pure (IV r)
def PTs (X:Cx)(ifs:Aa Bn)(t:DT):Prop:=
 ∀ (pins:Aa (Ad × Cg)) (s:Ah) (σ : _L.St) (H:Hp) (Q:Ap->Hp->Prop),Inv X pins σ H s->tDT X t σ H Q->Av (Ba X.prog X.w) X.A (uV ifs X.env) (TP X pins σ Q) X.xe s
noncomputable def yP:DT:=λ_ S=>.ok true S
section
variable {X:Cx}
theorem bO {prog:Bi}{A:Br}{env:Iw}{Q:Ap->Ah->Prop}:∀ (ifs:Aa Bn) {s:Ah},Q false s ->
  Av (Ba prog w) A (forIn ifs false λc r=>if r=true then do let ok <- Yg c env (eval c env);pure (IV ok) else pure (IV r)) Q E s
 |[],s,h=>by rw[Ly];exact AT h
 |c::cs,s,h=>by
  rw[Kz];rw[Aw (by simp)]
  refine Ai (AT ?_);exact bO cs h
theorem UO:PTs X [] yP:=λpins s σ H Q I ⟨P,α,env,S,r,re,af⟩=>by
 unfold uV;rw[Ly];exact AT ⟨H,I,af H P α r (qD.refl _) (Bf _)⟩
theorem XA {c:Bn}{cs:Aa Bn}{t u:DT}(h1:PT X c (tDT X t))(h2:PTs X cs u):PTs X (c::cs) (xJ t u):=λpins s σ H Q I ⟨P,α,env,S,r,re,af⟩=>by
 unfold uV;rw[Kz,Bc rfl];refine Ai (Ai (thn (jR (λQ' q=>h1 pins s σ H Q' I q) r re af) λb s1 ⟨H1,P1,α1,S1,I1,r1,re1,e1,e2,af1⟩=>AT ?_));cases b with
 |true=>exact h2 pins s1 σ H1 Q I1 ⟨P1,α1,env,S1,r1,re1,w6.base e1 e2 af1⟩
 |false=>exact bO cs ⟨H1,I1,af1 H1 P1 α1 r1 e1 e2⟩
theorem HK {e:Bn}{f:DE}{pins:Aa (Ad × Cg)}{σ:_L.St}{env:qC}{d:D}(he:PE X e (tD X f))(I:Inv X pins σ H s)(r:Rel X.K H P α S)(re:z0 X.K P α σ env)(q:f env S=.ok d S1) :
  Av (Ba X.prog X.w) X.A (eval e X.env) (λu s1=>∃ v H1 P1 α1,Got X pins σ env P α u s1 v H1 P1 α1 d S1) X.xe s:=by
 refine thn (zL (g:=λd S=>Res.ok d S) (Ok:=λd' S'=>d'=d/\S'=S1) he I r re (by rw[q];exact⟨rfl,rfl⟩)) λu s1 ⟨v,H1,P1,α1,d',S',G,h1,h2⟩=>?_
 have e1:d'=d:=h1;have e2:S'=S1:=h2;subst e1;subst e2;exact⟨v,H1,P1,α1,G⟩
theorem R6 {ifs:Aa Bn}{t:DT}{pins:Aa (Ad × Cg)}{σ:_L.St}{env:qC}{b:Ap}(he:PTs X ifs t)(I:Inv X pins σ H s)(r:Rel X.K H P α S)(re:z0 X.K P α σ env)(q:t env S=.ok b S1) :
  Av (Ba X.prog X.w) X.A (uV ifs X.env) (λb' s1=>b'=b/\∃ H1 P1 α1,Inv X pins σ H1 s1/\Rel X.K H1 P1 α1 S1/\z0 X.K P1 α1 σ env/\qD P P1/\α<+:α1) X.xe s:=by
 refine thn (he pins s σ H (λb' H1=>b'=b/\∃ P1 α1,Rel X.K H1 P1 α1 S1/\z0 X.K P1 α1 σ env/\qD P P1/\α<+:α1) I ⟨P,α,env,S,r,re,?_⟩) λb' s1 ⟨H1,I1,e,P1,α1,q1,q2,q3,q4⟩=>⟨e,H1,P1,α1,I1,q1,q2,q3,q4⟩;rw[q];exact λH' P' α' r' e1 e2=>⟨rfl,P',α',r',re.mono e1 e2,e1,e2⟩
theorem HL {tg:Bn}{g:DG}{pins:Aa (Ad × Cg)}{σ:_L.St}{env env1:qC}{d:D}{v:V}{u:Ac}(hg:PG X tg (tDG X g))(I:Inv X pins σ H s)(r:Rel X.K H P α S)(re:z0 X.K P α σ env)(rv:qF v u)
  (rp:Rep X.K P α d v) (q:g d env S=.ok env1 S1) :
  Av (Ba X.prog X.w) X.A (assign tg X.env u) (λ_ s1=>∃ σ1 H1 P1 α1,Inv X pins σ1 H1 s1/\Rel X.K H1 P1 α1 S1/\z0 X.K P1 α1 σ1 env1/\qD P P1/\α<+:α1) X.xe s:=by
 refine thn (hg pins s σ H v u (λσ1 H1=>∃ P1 α1,Rel X.K H1 P1 α1 S1/\z0 X.K P1 α1 σ1 env1/\qD P P1/\α<+:α1) I rv ⟨P,α,env,S,d,r,re,rp,?_⟩) λ_ s1 ⟨σ1,H1,I1,P1,α1,q1,q2,q3,q4⟩=>⟨σ1,H1,P1,α1,I1,q1,q2,q3,q4⟩;rw[q];exact λσ' H' P' α' r' re' e1 e2=>⟨P',α',r',re',e1,e2⟩
def gQ (K:Ak)(P:Hp)(α : Aa Ad)(ds:Aa D)(o:Cg):Prop:=∃ (its:Aa Ac) (n:Af) (vs:Aa V),o={ cls:=.type "list",data:=.seq its.toArray n } /\ qH vs its/\qB K P α ds vs/\ds.length<=lim
theorem gQ.mono (e:qD P P1)(h:α<+:α1)(a:gQ K P α ds o):gQ K P1 α1 ds o:=by
 obtain⟨its,n,vs,q1,q2,q3,q4⟩:=a;exact⟨its,n,vs,q1,q2,qB.mono e h _ _ q3,q4⟩
theorem gQ.cell (a:gQ K P α ds o):∀ v,o.data≠.cell v:=by
 obtain⟨its,n,vs,rfl,_⟩:=a;intro v z;cases z
theorem Inv.pin1 {pins:Aa (Ad × Cg)}{σ:_L.St}{a:Ad}(I:Inv X pins σ H s)(f:x8 X pins H a)(e:s.heap.get? a=Ab o)(d:∀ v,o.data≠.cell v):Inv X (pins++[(a,o)]) σ H s:=
 I.pins_of λp hp=>(Cs.mp hp).elim (λz=>I.pin p (Bx _ z)) λz=>by
  have e':p=(a,o):=by simpa using z
  subst e';exact⟨e,f.1,f.2.1,f.2.2.1,d⟩
theorem Inv.pinned1 {pins:Aa (Ad × Cg)}{σ:_L.St}{a:Ad}(I:Inv X (pins++[(a,o)]) σ H s):s.heap.get? a=Ab o/\H a=none:=by
 have:=I.pin (a,o) (Bx _ (Bx _ (by simp)))
 exact⟨this.1,this.2.1⟩
end
structure Acc where
 m:Ap
 O:Ak->Hp->Aa Ad->Aa D->Cg->Prop
 mono:∀ {K:Ak} {P P1:Hp} {α α1:Aa Ad} {ds:Aa D} {o:Cg},qD P P1->α<+:α1->O K P α ds o->O K P1 α1 ds o
 cell:∀ {K:Ak} {P:Hp} {α : Aa Ad} {ds:Aa D} {o:Cg},O K P α ds o->∀ v,o.data≠.cell v
@[reducible] def accL:Acc:=⟨false,gQ,gQ.mono,gQ.cell⟩
noncomputable def xM (m:Ap)(elt:Bn)(gens:Aa Du)(scope:Do)(pos:Eg):Bn:=match m with
 |false=>.ListComp elt gens scope pos
 |true=>.SetComp elt gens scope pos
structure TurnSt (B:Acc)(Y:Cx)(pins:Aa (Ad × Cg))(P1:Hp)(α1:Aa Ad)(fp:Aa Ad)(acc:Ad)(env:qC)(S:Sto)(ds:Aa D)(s:Ah)(σ : _L.St)(H P:Hp)(α : Aa Ad)(o:Cg):Prop where
 inv:Inv Y pins σ H s
 rel:Rel Y.K H P α S
 env:z0 Y.K P α σ env
 same:qD P1 P
 pre:α1<+:α
 fpn:∀ b∈fp,H b=none
 acn:H acc=none
 at':s.heap.get? acc=Ab o
 acc:B.O Y.K P α ds o
noncomputable def yA (cells:Aa (Ao × Ad)):Aa (Ao × Gx)->Aa (Ao × Ad)->Aa (Ao × Ad)
 |[],cs=>cs
 |(n,k)::r,cs=>yA cells r (if k == .free then (n,(cells.lookup n).getD 0)::cs else cs)
theorem gO {env:Iw}{scope:Do}(h:∀ y∈scope.names,y.2=.free->∃ c,env.cells.lookup y.1=Ab c):Pi scope env=pure (yA env.cells scope.names []):=by
 have go:∀ (l:Aa (Ao × Gx)) (cs:Aa (Ao × Ad)),(∀ y∈l,y.2=.free->∃ c,env.cells.lookup y.1=Ab c) ->
   (forIn l cs λx cs=>match x with|(name,kind)=>if (kind == Gr)=true then do let a <- cellOf env name;pure (IV ((name,a)::cs)) else pure (IV cs):Ke (Aa (Ao × Ad)))=pure (yA env.cells l cs):=by
  intro l
  induction l with
  |nil=>intro cs _;rfl
  |cons y r ih =>
   intro cs hl;obtain⟨n,k⟩:=y;rw[Kz];by_cases hk:k=.free
   .subst hk
    obtain⟨c,hc⟩:=hl (n,.free) Bv rfl;have hc':env.cells.lookup n=Ab c:=hc;have e:cellOf env n=pure c:=by unfold cellOf;rw[hc']
    simp only[Gc,Dm,e,pure_bind];rw[ih _ λz hz=>hl z (Au _ hz)];simp only[yA,Gc,Dm,hc',Vr]
   .have hb:(k == Gr)=false:=by simpa using hk
    simp only[hb,Cz,Fv,pure_bind];rw[ih _ λz hz=>hl z (Au _ hz)];simp only[yA,hb,Cz,Fv]
 unfold Pi;have:=go scope.names [] h;simp only[bind_pure];exact this
theorem bM {x:Ao}{c:Ad}:∀ (l:Aa (Ao × Gx)) (cs:Aa (Ao × Ad)),(yA cells l cs).lookup x=Ab c->cs.lookup x=Ab c\/((x,Gr)∈l/\c=(cells.lookup x).getD 0)
 |[],cs,h=>.inl h
 |(n,k)::r,cs,h=>by
  rcases bM r _ h with h|⟨h1,h2⟩
  .by_cases hk:k=.free
   .subst hk
    simp only[Gc,Dm,IF] at h;cases hb:x == n with
    |true =>
     rw[hb] at h;have e:x=n:=by simpa using hb
     subst e;exact .inr ⟨Bv,(Cj h).symm⟩
    |false=>rw[hb] at h;exact .inl h
   .have hb:(k == Gr)=false:=by simpa using hk
    simp only[hb,Cz,Fv] at h;exact .inl h
  .exact .inr ⟨Au _ h1,h2⟩
theorem nE {x:Ao}:∀ (l:Aa (Ao × Gx)) (cs:Aa (Ao × Ad)),((x,Gr)∈l\/∃ c,cs.lookup x=Ab c)->∃ c,(yA cells l cs).lookup x=Ab c
 |[],cs,h=>by
  rcases h with h|h
  .cases h
  .exact h
 |(n,k)::r,cs,h=>by
  refine nE r _ ?_;rcases h with h|⟨c,h⟩
  .rcases Bg.mp h with e|h
   .cases e
    exact .inr ⟨(cells.lookup x).getD 0,by simp only[Gc,Dm,IF]⟩
   .exact .inl h
  .by_cases hk:k=.free
   .subst hk
    simp only[Gc,Dm,IF];cases hb:x == n with
    |true=>exact .inr ⟨_,rfl⟩
    |false=>exact .inr ⟨c,h⟩
   .have hb:(k == Gr)=false:=by simpa using hk
    simp only[hb,Cz,Fv];exact .inr ⟨c,h⟩
structure CompSc (scX:Do)(NX:Aa Ao)(scope:Do)(N':Aa Ao)(cap:Aa (Al Af)):Prop where
 kind:scope.kind=.function
 names:∀ y∈scope.names,y.2=.local -> scope.names.lookup y.1=Ab .local
 cel:∀ y∈scope.names,y.2=.cell->scope.names.lookup y.1=Ab .cell
 free:∀ y∈scope.names,y.2=.free->scX.names.lookup y.1=Ab .cell\/scX.names.lookup y.1=Ab .free
 fr2:∀ y∈scope.names,y.2=.free->scope.names.lookup y.1=Ab .free
 len:cap.length=N'.length
 caps:((cap.zip N').all λp=>match p.1 with|none=>true|some i=>NX[i]? == Ab p.2&&scope.names.lookup p.2 == Ab .free)=true
 nd:N'.Nodup
noncomputable def v9 (cap:Aa (Al Af))(σ : _L.St):_L.St:=cap.map λo=>match o with
 |none=>none
 |some i=>(σ[i]?).join
noncomputable def xX (cap:Aa (Al Af))(env:qC):qC:=cap.map λo=>match o with
 |none=>none
 |some i=>(env[i]?).join
theorem Q9 {σ:_L.St}{env:qC}(re:z0 K P α σ env)(cap:Aa (Al Af)):z0 K P α (v9 cap σ) (xX cap env):=by
 refine⟨by simp[v9,xX],λj d e=>?_⟩
 unfold xX at e;unfold v9;rw[Eb] at e ⊢;cases q:cap[j]? with
 |none=>rw[q] at e;cases e
 |some o =>
  rw[q] at e;cases o with
  |none=>cases e
  |some i =>
   have e':(env[i]?).join=Ab d:=by simpa using e
   cases z:env[i]? with
   |none=>rw[z] at e';cases e'
   |some w =>
    rw[z] at e';have e'':w=Ab d:=e';subst e'';obtain⟨v,h1,h2⟩:=re.2 i d z;exact⟨v,by simp[h1],h2⟩
noncomputable def zG (X:Cx)(N':Aa Ao)(scope:Do)(cl:Aa (Ao × Ad))(C:Ad)(ex:Aa Ad)(s₀:Ah)(H₀:Hp):Cx:=
 { X with N:=N',s₀:=s₀,H₀:=H₀,env:=compEnvC scope cl C X.env,outer:=X.stack,stack:=X.stack,ex:=ex,fn:=λx=>decide (scope.names.lookup x=Ab .cell),pn:=[],xe:=λ_ _=>Ez }
theorem uR {scope:Do}{env:Iw}:∀ {names:Aa (Ao × Gx)} {x:Ao} {k:Gx},
  (names.map λ(n,k)=>if (k == Gr&&env.scope.kind == .function&&env.kindOf n == Ab .cell) then (n,Mr) else (n,k)).lookup x=Ab k ->
  names.lookup x=Ab k\/(k=.cell/\names.lookup x=Ab .free)
 |[],_,_,h=>by simp at h
 |(n,k0)::r,x,k,h=>by
  rw[Bz,IF] at h;rw[IF];dsimp only at h;cases hb:(k0 == Gr&&env.scope.kind == .function&&env.kindOf n == Ab .cell) with
  |true =>
   rw[hb] at h;simp only[Dm] at h;cases hx:x == n with
   |true =>
    rw[hx] at h;have e:Mr=k:=Cj h;have hk:k0=.free:=by
     have:=(As _ _).mp hb;have:=(As _ _).mp this.1;simpa using this.1
    subst hk;exact .inr ⟨e.symm,rfl⟩
   |false=>rw[hx] at h;exact uR (scope:=scope) h
  |false =>
   rw[hb] at h;simp only[Cz,Fv] at h;cases hx:x == n with
   |true=>rw[hx] at h;exact .inl h
   |false=>rw[hx] at h;exact uR (scope:=scope) h
section
variable {X:Cx}{scope:Do}{N':Aa Ao}{cap:Aa (Al Af)}{pins:Aa (Ad × Cg)}{σ : _L.St}{H2:Hp}{s2:Ah}{fp:Aa Ad}
theorem kL (S:CompSc X.env.scope X.N scope N' cap){x:Ao}{k:Gx}(h:(relabel scope X.env).names.lookup x=Ab k):scope.names.lookup x=Ab k\/(k=.cell/\scope.names.lookup x=Ab .free):=uR (scope:=scope) h
theorem iH (S:CompSc X.env.scope X.N scope N' cap)(ok:X.Ok){x:Ao}{c:Ad}(h:(yA X.env.cells scope.names []).lookup x=Ab c):X.env.cells.lookup x=Ab c/\(x,Gr)∈scope.names:=by
 rcases bM _ _ h with h|⟨hm,hc⟩
 .cases h
 .have:=S.free _ hm rfl
  obtain⟨c',hc'⟩:=ok.has x this;rw[hc',Vr] at hc;rw[hc',hc];exact⟨rfl,hm⟩
noncomputable def WL (scope:Do)(C:Ad):Aa (Ao × Ad):=Gp (C+1) scope.names []
noncomputable def kJ (X:Cx)(scope:Do)(C:Ad):Aa (Ao × Ad):=Gp (C+1) scope.names (yA X.env.cells scope.names [])
theorem yJ:∀ (names:Aa (Ao × Gx)) (lo:Af) (acc:Aa (Ao × Ad)),Gp lo names acc=Gp lo names [] ++ acc
 |[],_,_=>rfl
 |(n,k)::r,lo,acc=>by
  unfold Gp
  split
  .rw[yJ r _ ((n,lo)::acc),yJ r _ [(n,lo)],Ci];rfl
  .exact yJ r lo acc
set_option tactic.hygienic true in
theorem gS:∀ (names:Aa (Ao × Gx)) (lo:Af) {n:Ao} {c:Ad},(n,c)∈Gp lo names [] -> (n,Mr)∈names
 |[],_,_,_,h=>by cases h
 |(n0,k)::r,lo,n,c,h=>by
  unfold Gp at h
  split at h
  .rename_i hk
   rw[yJ] at h;rcases Cs.mp h with h|h
   .exact Au _ (gS r _ h)
   .have e:(n,c)=(n0,lo):=by simpa using h
    cases e;have:k=Mr:=by simpa using hk
    rw[this];exact Bv
  .exact Au _ (gS r _ h)
theorem x9 (S:CompSc X.env.scope X.N scope N' cap)(ok:X.Ok){C:Ad}{x:Ao}{c:Ad}(h:(kJ X scope C).lookup x=Ab c):((x,c)∈WL scope C/\scope.names.lookup x=Ab .cell)\/(X.env.cells.lookup x=Ab c/\(x,Gr)∈scope.names):=by
 unfold kJ at h;rw[yJ,TW] at h;cases q:(Gp (C+1) scope.names []).lookup x with
 |some c' =>
  rw[q] at h;cases h;have m:=Fk q;exact .inl ⟨m,S.cel _ (gS _ _ m) rfl⟩
 |none =>
  rw[q] at h;exact .inr (iH S ok h)
theorem lS (S:CompSc X.env.scope X.N scope N' cap)(ok:X.Ok){C:Ad}{x:Ao}(h:scope.names.lookup x=Ab .cell\/scope.names.lookup x=Ab .free):∃ c,(kJ X scope C).lookup x=Ab c:=by
 unfold kJ;rw[yJ,TW];rcases h with h|h
 .have:=IR scope.names (C+1) [] (x:=x) (.inl h)
  obtain⟨c,hc⟩:=Ix.mp this;exact⟨c,by rw[hc];rfl⟩
 .obtain⟨c',hc'⟩:=nE (cells:=X.env.cells) scope.names [] (.inl (Fk h))
  rw[hc'];cases (Gp (C+1) scope.names []).lookup x with
  |none=>exact⟨c',rfl⟩
  |some c=>exact⟨c,rfl⟩
theorem U4 (S:CompSc X.env.scope X.N scope N' cap)(I2:Inv X pins σ H2 s2)(hf:∀ b∈fp,x8 X pins H2 b)(hlt:∀ b∈fp,b<s2.heap.objs.size)(hC:s2.heap.objs.size<=C){h1:Bs}(co:CellsOk h1 (C+1) (WL scope C)) :
  (zG X N' scope (kJ X scope C) C fp s2 H2).Ok where
 mod:=I2.ok.mod
 kind:=S.kind
 glob:=I2.ok.glob
 blt:=I2.ok.blt
 above:=hC
 inj:=λx y c h1 h2=>by
  rcases x9 S I2.ok h1 with⟨m1,_⟩|⟨m1,_⟩ <;> rcases x9 S I2.ok h2 with⟨m2,_⟩|⟨m2,_⟩
  .exact PySem.name_of_addr co.apart m1 m2
  .obtain⟨v,ob,hob,_⟩:=I2.cell y c m2
   exact absurd (Bd (Ay hob) hC) (Oc.mpr (Dz (co.empty x c m1).2))
  .obtain⟨v,ob,hob,_⟩:=I2.cell x c m1
   exact absurd (Bd (Ay hob) hC) (Oc.mpr (Dz (co.empty y c m2).2))
  .exact I2.ok.inj x y c m1 m2
 has:=λx hx=>by
  have hx':(relabel scope X.env).names.lookup x=Ab .cell\/(relabel scope X.env).names.lookup x=Ab .free:=hx;refine lS S I2.ok ?_;rcases hx' with h|h
  .rcases kL S h with h|⟨_,h⟩
   .exact .inl h
   .exact .inr h
  .rcases kL S h with h|⟨z,_⟩
   .exact .inr h
   .cases z
 cab:=λx c h h2=>by
  have hx:scope.names.lookup x=Ab .cell:=Bp h;rcases x9 S I2.ok h2 with⟨m,_⟩|⟨_,m⟩
  .exact Dd hC (Dz (co.empty x c m).2)
  .have:=S.fr2 _ m rfl
   have this':scope.names.lookup x=Ab .free:=this;rw[hx] at this';cases this'
 hd:=I2.ok.hd
 frames:=I2.ok.frames
 stk:=.inl rfl
 exf:=λb hb=>⟨Cn (Bd (hlt b hb) hC),λx c h=>by
  rcases x9 S I2.ok h with⟨m,_⟩|⟨m,_⟩
  .exact Eu (Cn (Jv (Bd (hlt b hb) hC) (co.empty x c m).2))
  .exact(hf b hb).2.2.2.2.1 x c m⟩
 bs:=I2.bs
 bsz:=Dd I2.ok.bsz I2.sz
 noex:=λb o e hb=>by
  obtain⟨_,_,_,h,_⟩:=hf b hb;rcases h with h|h
  .exact I2.ok.noex b o e h
  .exact absurd (Bd (Ay e) (Dd I2.ok.bsz h)) (Di _)
 exfs:=λb hb hb2=>by
  obtain⟨_,h1,h2,_⟩:=hf b hb;rcases Bg.mp (I2.stkSub b hb2) with z|z
  .exact h1 z
  .exact h2 z
 funs:=I2.stack
 frf:=I2.stkFree
theorem ZS {s4:Ah}{m:Ao->Al Ac}(S:CompSc X.env.scope X.N scope N' cap)(I2:Inv X pins σ H2 s2)(hf:∀ b∈fp,x8 X pins H2 b)(hlt:∀ b∈fp,b<s2.heap.objs.size)(hC:s2.heap.objs.size<=C)
  (hn:s4.heap.Ns C m) (os:s4.os=s2.os) (gens:s4.gens=s2.gens) (keep:∀ b o,s2.heap.get? b=Ab o->s4.heap.get? b=Ab o) (co:CellsOk s4.heap (C+1) (WL scope C)) :
  Inv (zG X N' scope (kJ X scope C) C fp s2 H2) [] (v9 cap σ) H2 s4 where
 ok:=U4 S I2 hf hlt hC co
 os:=os
 bare:=gens▸I2.bare
 base:=Un.kept keep
 loc:=by
  refine⟨m,hn,λj x v h1 h2 h3=>?_⟩;have h1':N'[j]? = Ab x:=h1;unfold v9 at h2;rw[Eb] at h2;cases q:cap[j]? with
  |none=>rw[q] at h2;cases h2
  |some o =>
   rw[q] at h2;cases o with
   |none=>cases h2
   |some i =>
    have e':(σ[i]?).join=Ab v:=by simpa using h2
    have hσ:σ[i]? = Ab (Ab v):=by
     cases z:σ[i]? with
     |none=>rw[z] at e';cases e'
     |some w=>rw[z] at e';have:w=Ab v:=e';rw[this]
    have hz:(Ab i,x)∈cap.zip N':=by
     refine Ms.mpr ⟨j,?_⟩;rw[OP];exact⟨q,h1'⟩
    have hc:=Bt.mp S.caps _ hz;simp only[As,Sy] at hc;obtain⟨hN,hfr⟩:=hc;have hk:=S.free _ (Fk hfr) rfl;obtain⟨mo,hmo,hl⟩:=I2.loc;have vis:Vis X.env.scope x:=by
     rcases hk with k|k
     .exact .inr (.inl k)
     .exact .inr (.inr k)
    obtain⟨u,ru,lk⟩:=hl i x v hN hσ vis;refine⟨u,ru,?_⟩;rcases lk with⟨kl,_⟩|⟨_,c,hcl,hcell⟩
    .have kl':X.env.scope.names.lookup x=Ab .local:=kl
     rcases hk with k|k
     .have k':X.env.scope.names.lookup x=Ab .cell:=k
      rw[kl'] at k';cases k'
     .have k':X.env.scope.names.lookup x=Ab .free:=k
      rw[kl'] at k';cases k'
    .obtain⟨c',hc'⟩:=lS S I2.ok (C:=C) (.inr hfr)
     have e2:X.env.cells.lookup x=Ab c':=by
      rcases x9 S I2.ok hc' with⟨_,z⟩|⟨z,_⟩
      .rw[hfr] at z;cases z
      .exact z
     rw[hcl] at e2;cases e2;refine .inr ⟨?_,c,hc',?_⟩
     .have h3':Vis (relabel scope X.env) x:=h3
      rcases h3' with h|h|h
      .rcases kL S h with h|⟨z,_⟩
       .rw[hfr] at h;cases h
       .cases z
      .exact .inl h
      .exact .inr h
     .obtain⟨ob,hob,hd⟩:=hcell
      exact⟨ob,keep c ob hob,hd⟩
 cell:=λx c h=>by
  rcases x9 S I2.ok h with⟨m,_⟩|⟨m,_⟩
  .exact⟨none,(co.empty x c m).1⟩
  .obtain⟨v,ob,hob,hd⟩:=I2.cell x c m
   exact⟨v,ob,keep c ob hob,hd⟩
 free:=I2.hok.fresh hC
 freeC:=λx c h=>by
  rcases x9 S I2.ok h with⟨m,_⟩|⟨m,_⟩
  .exact I2.hok.fresh (Dd hC (Dz (co.empty x c m).2))
  .exact I2.freeC x c m
 pin:=λp hp=>absurd (show p∈([]:Aa (Ad × Cg)) from hp) (by simp)
 hok:=I2.hok.kept keep
 len:=by
  show (v9 cap σ).length=N'.length;simp[v9,S.len]
end
theorem iZ {P:Bi}{h:Bs}{a:Ad}{o:HO}(x:HOk P w H h)(hn:H a=none)(new:zE P w (upd H a o) h a o):HOk P w (upd H a o) h:=λb u e=>by
 by_cases hb:b=a
 .subst hb;rw[qV] at e;cases e;exact new
 .rw[qG hb] at e
  exact(x b u e).stay (λc v _ q=>q) (λc q=>by rw[qG (qT q hn)];exact q) λc xs q=>by rw[qG (qT q hn)];exact q
theorem nM {P:Bi}{h h':Bs}(x:HOk P w H h)(hn:H C=none)(k:∀ b o,b≠C->h.get? b=Ab o->h'.get? b=Ab o):HOk P w H h':=λb u e =>
 (x b u e).stay (λc v hc q=>k c v (by
  rintro rfl;rcases hc with z|z
  .subst z;rw[hn] at e;cases e
  .rw[hn] at z;cases z) q) (λ_ q=>q) λ_ _ q=>q
section
variable {X:Cx}{elt tg iter:Bn}{ifs:Aa Bn}{scope:Do}{pos:Eg}{N':Aa Ao}{cap:Aa (Al Af)}{fi:DI}{g:DG}{t:DT}{fe:DE}
def pQ (X:Cx)(pins:Aa (Ad × Cg))(σ : _L.St)(P1:Hp)(α1:Aa Ad)(ds:Aa D)(SF:Sto)(acc C:Ad)(s:Ah):Prop:=
 ∃ (H' P':Hp) (α' : Aa Ad) (vs:Aa V),Inv X pins σ (upd H' acc (.lst vs)) s/\Rel X.K H' P' α' SF/\H' acc=none/\qD P1 P'/\α1<+:α'/\qB X.K P' α' ds vs/\H' C=none
theorem ZR {Y:Cx}{pins:Aa (Ad × Cg)}{σ σ':_L.St}{H2:Hp}{s2 s':Ah}{fp:Aa Ad}{acc:Ad}{H' P':Hp}{α':Aa Ad}{envF:qC}{SF:Sto}{cl:Aa (Ao × Ad)}(I2:Inv X pins σ H2 s2)
  (hf:∀ b∈fp,x8 X pins H2 b) (hY:Y=zG X N' scope cl C fp s2 H2) (hC:s2.heap.objs.size<=C) (hA:s2.heap.objs.size<=acc) (hne:acc≠C) (st:TurnSt accL Y [] P1 α1 fp acc envF SF ds s' σ' H' P' α' o)
  {h':Bs} (sb:Fe C s'.heap h'):pQ X pins σ P1 α1 ds SF acc C { s' with heap:=h' }:=by
 subst hY;obtain⟨its,n,vs,rfl,rv,rp,hz⟩:=st.acc;have kC:∀ b o,b≠C->s'.heap.get? b=Ab o->h'.get? b=Ab o:=λb o hb e=>(sb.2 b hb).trans e;have nC:∀ b o,s2.heap.get? b=Ab o->b≠C:=λb o e=>Cn (Bd (Ay e) hC);have nA:∀ b o,s2.heap.get? b=Ab o->b≠acc:=λb o e=>Cn (Bd (Ay e) hA);have base:Un (frs X.stack) fp H2 H' s2.heap s'.heap:=st.inv.base;have nt:∀ b u,H' b=Ab u->b≠acc:=λb u e=>qT e st.acn;have un:Un (frs X.stack) fp H2 (upd H' acc (.lst vs)) s2.heap h':=by
  refine⟨λb ob q hn hb hx=>kC b ob (nC b ob q) (base.keep b ob q hn hb hx),λb ob q hn hb hx=>?_,λb ob q hn hx=>?_,λb ob q hx=>?_,λb xs q=>?_,λb ob u q=>?_,λb ps q=>?_⟩
  .obtain⟨sl,e⟩:=base.slot b ob q hn hb hx
   exact⟨sl,kC b _ (nC b ob q) e⟩
  .rw[qG (nA b ob q)];exact base.free b ob q hn hx
  .obtain⟨o',e⟩:=base.there b ob q hx
   exact⟨o',kC b o' (nC b ob q) e⟩
  .have:=base.tups b xs q;rw[qG (nt _ _ this)];exact this
  .have:=base.frzs b ob u q;rw[qG (nt _ _ this)];exact this
  .obtain⟨more,e⟩:=base.tbls b ps q
   exact⟨more,by rw[qG (nt _ _ e)];exact e⟩
 have hok':HOk X.prog X.w H' h':=nM st.inv.hok st.inv.free kC;have hat:h'.get? acc=Ab { cls:=.type "list",data:=.seq its.toArray n }:=kC acc _ hne st.at';have hok:HOk X.prog X.w (upd H' acc (.lst vs)) h':=iZ hok' st.acn ⟨by rw[<- rp.length,<- zS];exact hz,its,n,rv,hat⟩
 refine⟨H',P',α',vs,?_,st.rel,st.acn,st.same,st.pre,rp,st.inv.free⟩;exact I2.call' (s':={ s' with heap:=h' }) (ch:=fp) (st.inv.os) un hok st.inv.bare λb hb=>by
  obtain⟨_,h1,h2,h3,h4,h5⟩:=hf b hb;exact⟨h3,h1,h4,h5⟩
theorem U3 (S:CompSc X.env.scope X.N scope N' cap)(ok:X.Ok):Pi scope X.env=pure (yA X.env.cells scope.names []):=gO λy hy hk=>ok.has y.1 (S.free y hy hk)
theorem UR {pins:Aa (Ad × Cg)}{σ:_L.St}{SF:Sto}{acc:Ad}{Q:VK}(c:pQ X pins σ P1 α1 ds SF acc C s)(ok:OkV X P1 α1 Q (.lst ds) SF):EP X pins σ Q (.ref acc) s:=by
 obtain⟨H',P',α',vs,I,r,hn,e1,e2,rp,_⟩:=c;exact⟨.ref acc,_,I,rfl,vF r hn rp λv H2 P2 α2 r2 q1 q2 q3=>ok v H2 P2 α2 r2 (e1.trans q1) (e2.trans q2) q3⟩
end
end _D
section
namespace _D
open PySem PySem.Spec PyProof.Rows _L PySem.SeqAt
noncomputable def b01 (b:Ap):Ag:=if b then 1 else 0
mutual
noncomputable def eqD:D->D->Ap
 |.non,.non=>true
 |.bl a,.bl b=>a == b
 |.bl a,.int b=>b01 a == b
 |.int a,.bl b=>a == b01 b
 |.int a,.int b=>a == b
 |.str a,.str b=>a == b
 |.tup xs,.tup ys=>zU xs ys
 |.lst xs,.lst ys=>zU xs ys
 |_,_=>false
noncomputable def zU:Aa D->Aa D->Ap
 |[],[]=>true
 |x::xs,y::ys=>eqD x y&&zU xs ys
 |_,_=>false
end
noncomputable def pl:Af->D->Ap
 |_,.non=>true
 |_,.bl _=>true
 |_,.int _=>true
 |_,.str _=>true
 |n+1,.tup xs=>xs.all (pl n)
 |n+1,.lst xs=>xs.all (pl n)
 |_,_=>false
theorem nJ (x y:D)(xs ys:Aa D):zU (x::xs) (y::ys)=(eqD x y&&zU xs ys):=rfl
theorem wF:∀ (xs ys:Aa D),zU xs ys=((Ds (min xs.length ys.length)).all (λj=>eqD (xs.getD j .non) (ys.getD j .non))&&xs.length == ys.length)
 |[],[]=>rfl
 |[],y::ys=>rfl
 |x::xs,[]=>rfl
 |x::xs,y::ys=>by
  have ih:=wF xs ys;rw[nJ,ih,By,By,Nat.succ_min_succ,Me,OQ,Nu,Bool.and_assoc];have e:(xs.length+1 == ys.length+1)=(xs.length == ys.length):=by simp
  rw[e];rfl
theorem XG {xs ys:Aa D}(h:xs.length≠ys.length):zU xs ys=false:=by
 rw[wF];simp[h]
theorem mU (xs ys:Aa D):eqD (.tup xs) (.tup ys)=zU xs ys:=rfl
theorem mT (xs ys:Aa D):eqD (.lst xs) (.lst ys)=zU xs ys:=rfl
section
variable {X:Cx}{pins:Aa (Ad × Cg)}{σ : _L.St}{H P:Hp}{α : Aa Ad}{S:Sto}{s:Ah}
inductive Kd (X:Cx)(P:Hp)(α : Aa Ad)(s:Ah):D->Ac->Prop where
 |non:Kd X P α s .non .none
 |bl (b:Ap):Kd X P α s (.bl b) (.bool b)
 |int (i:Ag) (t:Qk):Kd X P α s (.int i) (.int i t)
 |str (x:Ao) (t:Qk):Kd X P α s (.str x) (.str x t)
 |tup (a:Ad) (xs:Aa D) (its:Aa Ac) (vs:Aa V) (rp:qB X.K P α xs vs) (rv:qH vs its) (h:s.heap.IsTuple a its.toArray) (q:SqT X.K P a vs):Kd X P α s (.tup xs) (.ref a)
 |lst (a:Ad) (xs:Aa D) (its:Aa Ac) (vs:Aa V) (rp:qB X.K P α xs vs) (rv:qH vs its) (h:s.heap.IsList a its.toArray) (q:SqX X.K P a vs):Kd X P α s (.lst xs) (.ref a)
theorem yC (I:Inv X pins σ H s)(r:Rel X.K H P α S){n:Af}{d:D}{v:V}{u:Ac}(h:pl n d=true)(p:Rep X.K P α d v)(rv:qF v u):Kd X P α s d u:=by
 cases d with
 |non=>simp only[Rep] at p;subst p;cases rv;exact .non
 |bl b=>simp only[Rep] at p;subst p;cases rv;exact .bl b
 |int i=>simp only[Rep] at p;subst p;obtain⟨t,rfl⟩:=rv;exact .int i t
 |str x=>simp only[Rep] at p;subst p;obtain⟨t,rfl⟩:=rv;exact .str x t
 |tup xs =>
  simp only[Rep] at p;obtain⟨a,vs,rfl,q,t⟩:=p;cases rv;obtain⟨its,r1,p1,_⟩:=I.tuple (xS r.sub q);exact .tup a xs its vs t r1 p1 q
 |lst xs =>
  simp only[Rep] at p;obtain⟨a,vs,rfl,q,t⟩:=p;cases rv;obtain⟨its,r1,p1,_⟩:=I.list ((xD r.sub q).l);exact .lst a xs its vs t r1 p1.isList q
 |_=>cases n <;> exact Cq h
theorem xB {ds:Aa D}{vs:Aa V}{its:Aa Ac}(rp:qB X.K P α ds vs)(rv:qH vs its){j:Af}(h:j<its.toArray.size):∃ v,Rep X.K P α (ds.getD j .non) v/\qF v its.toArray[j]/\ds.getD j .non∈ds:=by
 have l1:=rp.length;have l2:=rv.length;have hj:j<its.length:=by simpa using h
 have hd:j<ds.length:=by lia
 obtain⟨v,e1,p⟩:=rp.get (Am hd);obtain⟨u,e2,q⟩:=rv.get e1;have e3:its.toArray[j]=u:=by
  have:its[j]? = Ab its[j]:=Am hj;rw[this] at e2;simpa using Cj e2
 have e4:ds.getD j .non=ds[j]:=by simp[Gs,hd]
 rw[e3,e4];exact⟨v,p,q,Pj hd⟩
theorem xP {n:Af}{ds:Aa D}(h:ds.all (pl n)=true){d:D}(hd:d∈ds):pl n d=true:=Bt.mp h d hd
theorem t8 {h:Bs}{a:Ad}{xs ys:Bj Ac}(h1:h.IsTuple a xs)(h2:h.IsTuple a ys):xs=ys:=by
 obtain⟨o,e,_,n,d⟩:=h1;obtain⟨o',e',_,n',d'⟩:=h2;cases e.symm.trans e';cases d.symm.trans d';rfl
theorem rR {h:Bs}{a:Ad}{xs ys:Bj Ac}(h1:h.IsList a xs)(h2:h.IsList a ys):xs=ys:=by
 obtain⟨o,e,_,n,d⟩:=h1;obtain⟨o',e',_,n',d'⟩:=h2;cases e.symm.trans e';cases d.symm.trans d';rfl
theorem cT {h:Bs}{a:Ad}{xs ys:Bj Ac}(h1:h.IsTuple a xs)(h2:h.IsList a ys):Ez:=by
 obtain⟨o,e,c,_⟩:=h1;obtain⟨o',e',c',_⟩:=h2;cases e.symm.trans e';exact absurd (c.symm.trans c') (by decide)
inductive Seqs (X:Cx)(P:Hp)(α : Aa Ad)(xs ys:Aa D)(its its2:Aa Ac):Prop
 |mk (vs ws:Aa V) (rp:qB X.K P α xs vs) (rv:qH vs its) (rp2:qB X.K P α ys ws) (rv2:qH ws its2):Seqs X P α xs ys its its2
theorem Seqs.len1 {xs ys:Aa D}{its its2:Aa Ac}(q:Seqs X P α xs ys its its2):xs.length=its.length:=by
 obtain⟨vs,ws,rp,rv,_,_⟩:=q;exact rp.length.trans rv.length
theorem Seqs.len2 {xs ys:Aa D}{its its2:Aa Ac}(q:Seqs X P α xs ys its its2):ys.length=its2.length:=by
 obtain⟨vs,ws,_,_,rp,rv⟩:=q;exact rp.length.trans rv.length
inductive SameR (X:Cx)(P:Hp)(α : Aa Ad):D->D->Prop
 |eq {d d':D} (h:eqD d d'=true):SameR X P α d d'
 |tt (xs ys:Aa D) (its:Aa Ac) (q:Seqs X P α xs ys its its):SameR X P α (.tup xs) (.tup ys)
 |ll (xs ys:Aa D) (its:Aa Ac) (q:Seqs X P α xs ys its its):SameR X P α (.lst xs) (.lst ys)
theorem eY {d d':D}{u:Ac}(k1:Kd X P α s d u)(k2:Kd X P α s d' u):SameR X P α d d':=by
 cases k1 with
 |non=>cases k2;exact .eq rfl
 |bl b=>cases k2;exact .eq (Gc _)
 |int i t=>cases k2;exact .eq (Gc _)
 |str x t=>cases k2;exact .eq (Gc _)
 |tup a xs its vs rp rv h q =>
  cases k2 with
  |tup _ ys its2 ws rp2 rv2 h2 q2 =>
   cases t8 h h2;exact .tt xs ys its ⟨vs,ws,rp,rv,rp2,rv2⟩
  |lst _ ys its2 ws rp2 rv2 h2 q2=>exact(cT h h2).elim
 |lst a xs its vs rp rv h q =>
  cases k2 with
  |lst _ ys its2 ws rp2 rv2 h2 q2 =>
   cases rR h h2;exact .ll xs ys its ⟨vs,ws,rp,rv,rp2,rv2⟩
  |tup _ ys its2 ws rp2 rv2 h2 q2=>exact(cT h2 h).elim
theorem nK (I:Inv X pins σ H s)(r:Rel X.K H P α S){m:Af}(ih:∀ (d d':D) (u:Ac),pl m d=true->pl m d'=true->Kd X P α s d u->Kd X P α s d' u->eqD d d'=true){xs ys:Aa D}{its:Aa Ac}(h1:xs.all (pl m)=true)(h2:ys.all (pl m)=true)(q:Seqs X P α xs ys its its):zU xs ys=true:=by
 obtain⟨vs,ws,rp,rv,rp2,rv2⟩:=q;have l1:=rp.length.trans rv.length;have l2:=rp2.length.trans rv2.length;rw[wF,l1,l2,Py,As];refine⟨Bt.mpr λj hj=>?_,Zd⟩;have hj:j<its.toArray.size:=DL.mp hj;obtain⟨w1,y1,z1,m1⟩:=xB rp rv hj;obtain⟨w2,y2,z2,m2⟩:=xB rp2 rv2 hj;exact ih _ _ _ (xP h1 m1) (xP h2 m2) (yC I r (xP h1 m1) y1 z1) (yC I r (xP h2 m2) y2 z2)
theorem rM (I:Inv X pins σ H s)(r:Rel X.K H P α S):∀ (n:Af) (d d':D) (u:Ac),pl n d=true->pl n d'=true->Kd X P α s d u->Kd X P α s d' u->eqD d d'=true:=by
 intro n
 induction n with
 |zero =>
  intro d d' u h1 h2 k1 k2;cases eY k1 k2 with
  |eq h=>exact h
  |tt=>exact Cq h1
  |ll=>exact Cq h1
 |succ m ih =>
  intro d d' u h1 h2 k1 k2;cases eY k1 k2 with
  |eq h=>exact h
  |tt xs ys its q=>exact(mU xs ys).trans (nK I r ih h1 h2 q)
  |ll xs ys its q=>exact(mT xs ys).trans (nK I r ih h1 h2 q)
structure E3 (A:Br)(s:Ah)(u u':Ac)(b:Ap):Prop where
 eq:Wx A s u u' b
 rc:RcAt A s u u' b
 ne:RcNeAt A s u u' (!b)
inductive EqR (X:Cx)(P:Hp)(α : Aa Ad)(A:Br)(s:Ah):D->D->Ac->Ac->Prop
 |of {d d':D} {u u':Ac} (b:Ap) (e:eqD d d'=b) (h:E3 A s u u' b):EqR X P α A s d d' u u'
 |tt (a b:Ad) (xs ys:Aa D) (its its2:Aa Ac) (ha:s.heap.IsTuple a its.toArray) (hb:s.heap.IsTuple b its2.toArray) (q:Seqs X P α xs ys its its2):EqR X P α A s (.tup xs) (.tup ys) (.ref a) (.ref b)
 |ll (a b:Ad) (xs ys:Aa D) (its its2:Aa Ac) (ha:s.heap.IsList a its.toArray) (hb:s.heap.IsList b its2.toArray) (q:Seqs X P α xs ys its its2):EqR X P α A s (.lst xs) (.lst ys) (.ref a) (.ref b)
theorem V0 {A:Br}{d d':D}{u u':Ac}(hu:A.units<Ev)(k1:Kd X P α s d u)(k2:Kd X P α s d' u'):EqR X P α A s d d' u u':=by
 cases k1 with
 |non  =>
  cases k2 with
  |non  => exact .of _ rfl ⟨Xv _,RcAt.none_none,RcNeAt.none_none⟩
  |bl b=>exact .of _ rfl ⟨EqAt.none_bool b,RcAt.none_bool b,RcNeAt.none_bool b⟩
  |int b tb=>exact .of _ rfl ⟨EqAt.none_int b tb,RcAt.none_int b tb,RcNeAt.none_int b tb⟩
  |str b tb=>exact .of _ rfl ⟨EqAt.none_str b tb,RcAt.none_str b tb,RcNeAt.none_str b tb⟩
  |tup b ys its2 ws rp2 rv2 hb qb=>exact .of _ rfl ⟨EqAt.none_tuple hb hu,RcAt.none_tuple hb hu,RcNeAt.none_tuple hb hu⟩
  |lst b ys its2 ws rp2 rv2 hb qb=>exact .of _ rfl ⟨EqAt.none_list hb hu,RcAt.none_list hb hu,RcNeAt.none_list hb hu⟩
 |bl a =>
  cases k2 with
  |non  => exact .of _ rfl ⟨EqAt.bool_none a,RcAt.bool_none a,RcNeAt.bool_none a⟩
  |bl b=>exact .of _ rfl ⟨EqAt.bool_bool a b,RcAt.bool_bool a b,RcNeAt.bool_bool a b⟩
  |int b tb=>exact .of _ rfl ⟨EqAt.bool_int a b tb,RcAt.bool_int a b tb,RcNeAt.bool_int a b tb⟩
  |str b tb=>exact .of _ rfl ⟨EqAt.bool_str a b tb,RcAt.bool_str a b tb,RcNeAt.bool_str a b tb⟩
  |tup b ys its2 ws rp2 rv2 hb qb=>exact .of _ rfl ⟨EqAt.bool_tuple a hb hu,RcAt.bool_tuple a hb hu,RcNeAt.bool_tuple a hb hu⟩
  |lst b ys its2 ws rp2 rv2 hb qb=>exact .of _ rfl ⟨EqAt.bool_list a hb hu,RcAt.bool_list a hb hu,RcNeAt.bool_list a hb hu⟩
 |int a ta =>
  cases k2 with
  |non  => exact .of _ rfl ⟨EqAt.int_none a ta,RcAt.int_none a ta,RcNeAt.int_none a ta⟩
  |bl b=>exact .of _ rfl ⟨EqAt.int_bool a ta b,RcAt.int_bool a ta b,RcNeAt.int_bool a ta b⟩
  |int b tb=>exact .of _ rfl ⟨Yh a ta b tb,RcAt.int_int a ta b tb,RcNeAt.int_int a ta b tb⟩
  |str b tb=>exact .of _ rfl ⟨EqAt.int_str a ta b tb,RcAt.int_str a ta b tb,RcNeAt.int_str a ta b tb⟩
  |tup b ys its2 ws rp2 rv2 hb qb=>exact .of _ rfl ⟨EqAt.int_tuple a ta hb hu,RcAt.int_tuple a ta hb hu,RcNeAt.int_tuple a ta hb hu⟩
  |lst b ys its2 ws rp2 rv2 hb qb=>exact .of _ rfl ⟨EqAt.int_list a ta hb hu,RcAt.int_list a ta hb hu,RcNeAt.int_list a ta hb hu⟩
 |str a ta =>
  cases k2 with
  |non  => exact .of _ rfl ⟨EqAt.str_none a ta,RcAt.str_none a ta,RcNeAt.str_none a ta⟩
  |bl b=>exact .of _ rfl ⟨EqAt.str_bool a ta b,RcAt.str_bool a ta b,RcNeAt.str_bool a ta b⟩
  |int b tb=>exact .of _ rfl ⟨EqAt.str_int a ta b tb,RcAt.str_int a ta b tb,RcNeAt.str_int a ta b tb⟩
  |str b tb=>exact .of _ rfl ⟨EqAt.str_str a ta b tb,RcAt.str_str a ta b tb,RcNeAt.str_str a ta b tb⟩
  |tup b ys its2 ws rp2 rv2 hb qb=>exact .of _ rfl ⟨EqAt.str_tuple a ta hb hu,RcAt.str_tuple a ta hb hu,RcNeAt.str_tuple a ta hb hu⟩
  |lst b ys its2 ws rp2 rv2 hb qb=>exact .of _ rfl ⟨EqAt.str_list a ta hb hu,RcAt.str_list a ta hb hu,RcNeAt.str_list a ta hb hu⟩
 |tup a xs its vs rp rv ha qa =>
  cases k2 with
  |non  => exact .of _ rfl ⟨EqAt.tuple_none ha hu,RcAt.tuple_none ha hu,RcNeAt.tuple_none ha hu⟩
  |bl b=>exact .of _ rfl ⟨EqAt.tuple_bool b ha hu,RcAt.tuple_bool b ha hu,RcNeAt.tuple_bool b ha hu⟩
  |int b tb=>exact .of _ rfl ⟨EqAt.tuple_int b tb ha hu,RcAt.tuple_int b tb ha hu,RcNeAt.tuple_int b tb ha hu⟩
  |str b tb=>exact .of _ rfl ⟨EqAt.tuple_str b tb ha hu,RcAt.tuple_str b tb ha hu,RcNeAt.tuple_str b tb ha hu⟩
  |tup b ys its2 ws rp2 rv2 hb qb=>exact .tt a b xs ys its its2 ha hb ⟨vs,ws,rp,rv,rp2,rv2⟩
  |lst b ys its2 ws rp2 rv2 hb qb=>exact .of _ rfl ⟨EqAt.tuple_list ha hb hu,RcAt.tuple_list ha hb hu,RcNeAt.tuple_list ha hb hu⟩
 |lst a xs its vs rp rv ha qa =>
  cases k2 with
  |non  => exact .of _ rfl ⟨EqAt.list_none ha hu,RcAt.list_none ha hu,RcNeAt.list_none ha hu⟩
  |bl b=>exact .of _ rfl ⟨EqAt.list_bool b ha hu,RcAt.list_bool b ha hu,RcNeAt.list_bool b ha hu⟩
  |int b tb=>exact .of _ rfl ⟨EqAt.list_int b tb ha hu,RcAt.list_int b tb ha hu,RcNeAt.list_int b tb ha hu⟩
  |str b tb=>exact .of _ rfl ⟨EqAt.list_str b tb ha hu,RcAt.list_str b tb ha hu,RcNeAt.list_str b tb ha hu⟩
  |tup b ys its2 ws rp2 rv2 hb qb=>exact .of _ rfl ⟨EqAt.list_tuple ha hb hu,RcAt.list_tuple ha hb hu,RcNeAt.list_tuple ha hb hu⟩
  |lst b ys its2 ws rp2 rv2 hb qb=>exact .ll a b xs ys its its2 ha hb ⟨vs,ws,rp,rv,rp2,rv2⟩
theorem E3.cast {A:Br}{u u':Ac}{b c:Ap}(e:c=b)(h:E3 A s u u' b):E3 A s u u' c:=e▸h
theorem V1 {A:Br}{a b:Ad}{xs ys:Aa D}{its its2:Aa Ac}(hu:A.units<Ev)(ha:s.heap.IsTuple a its.toArray)(hb:s.heap.IsTuple b its2.toArray)(l1:xs.length=its.length)(l2:ys.length=its2.length)
  (sub:∀ j (h1:j<its.toArray.size) (h2:j<its2.toArray.size),Wx A.in1 s its.toArray[j] its2.toArray[j] (eqD (xs.getD j .non) (ys.getD j .non))) (same:a=b->zU xs ys=true):E3 A s (.ref a) (.ref b) (zU xs ys):=by
 have e:zU xs ys=((Ds (min its.toArray.size its2.toArray.size)).all (λj=>eqD (xs.getD j .non) (ys.getD j .non))&&its.toArray.size == its2.toArray.size):=by rw[wF,l1,l2];rfl
 have R1:=RcAt.tuples ha hb hu sub;have R2:=RcNeAt.tuples ha hb hu sub;rw[<- e] at R1 R2;refine⟨?_,R1,R2⟩;by_cases hab:a=b
 .rw[same hab,hab]
  exact Xv _
 .exact Yi hab R1
theorem DJ {A:Br}{a b:Ad}{xs ys:Aa D}{its its2:Aa Ac}(hu:A.units<Ev)(ha:s.heap.IsList a its.toArray)(hb:s.heap.IsList b its2.toArray)(l1:xs.length=its.length)(l2:ys.length=its2.length)
  (sub:∀ j (h1:j<its.toArray.size) (h2:j<its2.toArray.size),Wx A.in1 s its.toArray[j] its2.toArray[j] (eqD (xs.getD j .non) (ys.getD j .non))) (same:a=b->zU xs ys=true):E3 A s (.ref a) (.ref b) (zU xs ys):=by
 have R:RcAt A s (.ref a) (.ref b) (zU xs ys)/\RcNeAt A s (.ref a) (.ref b) (!zU xs ys):=by
  by_cases hl:its.length=its2.length
  .have e:zU xs ys=(Ds its.toArray.size).all (λj=>eqD (xs.getD j .non) (ys.getD j .non)):=by rw[wF,l1,l2,<- hl,Py,Zd,Xw];rfl
   rw[e];exact⟨RcAt.lists ha hb hl hu sub,RcNeAt.lists ha hb hl hu sub⟩
  .rw[XG (by rw[l1,l2];exact hl)]
   have hn:(its.toArray.size != its2.toArray.size)=true:=bne_iff_ne.mpr hl;exact⟨RcAt.lists_lengths ha hb hn hu,RcNeAt.lists_lengths ha hb hn hu⟩
 refine⟨?_,R.1,R.2⟩;by_cases hab:a=b
 .rw[same hab,hab]
  exact Xv _
 .exact Yi hab R.1
theorem lW (I:Inv X pins σ H s)(r:Rel X.K H P α S):∀ (n:Af) (A:Br) (d d':D) (u u':Ac),A.units+n<Ev->pl n d=true->pl n d'=true->Kd X P α s d u->Kd X P α s d' u'->E3 A s u u' (eqD d d'):=by
 intro n
 induction n with
 |zero =>
  intro A d d' u u' hu h1 h2 k1 k2;cases V0 hu k1 k2 with
  |of b e h=>exact h.cast e
  |tt=>exact Cq h1
  |ll=>exact Cq h1
 |succ m ih =>
  intro A d d' u u' hu h1 h2 k1 k2;have hu0:A.units<Ev:=Li (Pk _ _) hu;have hu1:A.in1.units+m<Ev:=by show A.units+1+m<Ev;lia
  have sub:∀ {xs ys:Aa D} {its its2:Aa Ac},xs.all (pl m)=true->ys.all (pl m)=true->Seqs X P α xs ys its its2 ->
    ∀ j (h1:j<its.toArray.size) (h2:j<its2.toArray.size),Wx A.in1 s its.toArray[j] its2.toArray[j] (eqD (xs.getD j .non) (ys.getD j .non)):=λ{xs ys its its2} a1 a2 ⟨vs,ws,b1,b2,c1,c2⟩ j g1 g2=>by
   obtain⟨w1,y1,z1,m1⟩:=xB b1 b2 g1;obtain⟨w2,y2,z2,m2⟩:=xB c1 c2 g2;exact(ih A.in1 _ _ _ _ hu1 (xP a1 m1) (xP a2 m2) (yC I r (xP a1 m1) y1 z1) (yC I r (xP a2 m2) y2 z2)).eq
  cases V0 hu0 k1 k2 with
  |of b e h=>exact h.cast e
  |tt a b xs ys its its2 ha hb q=>exact(V1 hu0 ha hb q.len1 q.len2 (sub h1 h2 q) λe=>by subst e;exact(mU xs ys).symm.trans (rM I r (m+1) _ _ _ h1 h2 k1 k2)).cast (mU xs ys)
  |ll a b xs ys its its2 ha hb q=>exact(DJ hu0 ha hb q.len1 q.len2 (sub h1 h2 q) λe=>by subst e;exact(mT xs ys).symm.trans (rM I r (m+1) _ _ _ h1 h2 k1 k2)).cast (mT xs ys)
noncomputable def zP:Af:=30
noncomputable def gEq:G2:=λa b S=>if pl zP a&&pl zP b then .ok (.bl (eqD a b)) S else .bad
noncomputable def gNe:G2:=λa b S=>if pl zP a&&pl zP b then .ok (.bl (!eqD a b)) S else .bad
set_option tactic.hygienic true in
theorem SQ (hu:X.A.units+64<Ev):OpD X (Ch .Eq) gEq:=by
 intro pins σ H s P α S v u vv uu a b Q I r rv ru pa pb af;unfold gEq at af
 split at af
 .rename_i h
  rw[As] at h;exact(lW I r zP X.A a b vv uu (by unfold zP;lia) h.1 h.2 (yC I r h.1 pa rv) (yC I r h.2 pb ru)).rc _ _ _ _ ⟨.bl _,H,I,rfl,xr af r (by simp only[Rep])⟩
 .exact An af
set_option tactic.hygienic true in
theorem VG (hu:X.A.units+64<Ev):OpD X (Ch .NotEq) gNe:=by
 intro pins σ H s P α S v u vv uu a b Q I r rv ru pa pb af;unfold gNe at af
 split at af
 .rename_i h
  rw[As] at h;exact(lW I r zP X.A a b vv uu (by unfold zP;lia) h.1 h.2 (yC I r h.1 pa rv) (yC I r h.2 pb ru)).ne _ _ _ _ ⟨.bl _,H,I,rfl,xr af r (by simp only[Rep])⟩
 .exact An af
end
end _D
end
namespace _D
open PySem PySem.Spec PyProof.Rows _L
variable {pins:Aa (Ad × Cg)}{kvs:Aa (Key × D)}{its us:Aa Ac}{xs ds:Aa D}{vs:Aa V}{f:Ac->Ac->Ke Ac}{s:Ah}{d:D}{v:V}{Q:VK}{σ:_L.St}
section
variable {X:Cx}
noncomputable def i2 (C:Ag->Ag->Ap)(f:Ag->Ag->D):G2:=λa b S=>match a,b with
 |.int i,.int j=>if C i j then .ok (f i j) S else .bad
 |_,_=>.bad
theorem b0 {C:Ag->Ag->Ap}{f:Ag->Ag->D}{a b:D}{S:Sto}{P:Hp}{α:Aa Ad}{Ok:D->Sto->Prop}(h:qI X P α (i2 C f a b S) Ok):∃ i j,a=.int i/\b=.int j/\C i j=true/\Ok (f i j) S:=by
 cases a with
 |int i =>
  cases b with
  |int j =>
   obtain⟨hc,h⟩:=y7 (X:=X) h;exact⟨i,j,rfl,rfl,hc,h⟩
  |_=>exact An h
 |_=>exact An h
theorem zO {P:Hp}{α:Aa Ad}{i:Ag}(r:Rep X.K P α (.int i) v):v=.int i:=by simpa only [Rep] using r
theorem pF {C':Ag->Ag->Prop}{v:Ag->Ag->V}{C:Ag->Ag->Ap}{d:Ag->Ag->D}(h:OpR X f (rI C' v))(hC:∀ i j,C i j=true->C' i j)(hv:∀ P α i j,Rep X.K P α (d i j) (v i j)):OpD X f (i2 C d):=
 OpD.of h λH P α S x y a b Q r p1 p2 af=>by
  obtain⟨i,j,rfl,rfl,hc,ok⟩:=b0 af;exact⟨i,j,zO p1,zO p2,hC i j hc,xr ok r (hv P α i j)⟩
theorem pE {v:Ag->Ag->V}{d:Ag->Ag->D}(h:OpR X f (rI0 v))(hv:∀ P α i j,Rep X.K P α (d i j) (v i j)):OpD X f (i2 (λ_ _=>true) d):=
 OpD.of h λH P α S x y a b Q r p1 p2 af=>by
  obtain⟨i,j,rfl,rfl,_,ok⟩:=b0 af;exact⟨i,j,zO p1,zO p2,xr ok r (hv P α i j)⟩
noncomputable def yS:G2:=i2 (λ_ _=>true) λi j=>.int (i-j)
theorem MW:OpD X (Dp .Sub) yS:=pE TB λP α i j=>by simp only[Rep]
noncomputable def bR (i j:Ag):Ap:=decide (-(2 ^ 64)<i/\i<2 ^ 64)||decide (-(2 ^ 64)<j/\j<2 ^ 64)
theorem K7:OpD X (Dp .Mult) (i2 bR λi j=>.int (i*j)):=pF T6 (λi j h=>by
 unfold bR at h;rw[Nn] at h;rcases h with h|h
 .exact .inl (Bp h)
 .exact .inr (Bp h)) λP α i j=>by simp only[Rep]
noncomputable def ZJ (i j:Ag):Ap:=decide (0<j/\j<1073741824)
noncomputable def yR:G2:=i2 ZJ λi j=>.int (i/j)
theorem MR:OpD X (Dp .FloorDiv) yR:=pF KA (λi j h=>(Bp h:0<j/\j<1073741824)) λP α i j=>by simp only[Rep]
noncomputable def xN:G2:=i2 (λ_ j=>decide (0<j)) λi j=>.int (i % j)
theorem MT:OpD X (Dp .Mod) xN:=pF T4 (λi j h=>Bp h) λP α i j=>by simp only[Rep]
noncomputable def ZK (i j:Ag):Ap:=decide (0<=j/\j<=1000000/\i.natAbs<2 ^ 64)
noncomputable def uK:G2:=i2 ZK λi j=>.int (i ^ j.toNat)
theorem MU:OpD X (Dp .Pow) uK:=pF T7 (λi j h=>(Bp h:0<=j/\j<=1000000/\i.natAbs<2 ^ 64)) λP α i j=>by simp only[Rep]
noncomputable def gLt:G2:=i2 (λ_ _=>true) λi j=>.bl (decide (i<j))
noncomputable def gLe:G2:=i2 (λ_ _=>true) λi j=>.bl (decide (i<=j))
noncomputable def gGt:G2:=i2 (λ_ _=>true) λi j=>.bl (decide (j<i))
noncomputable def gGe:G2:=i2 (λ_ _=>true) λi j=>.bl (decide (j<=i))
theorem VF:OpD X (Ch .Lt) gLt:=pE SZ λP α i j=>by simp only[Rep]
theorem SV:OpD X (Ch .LtE) gLe:=pE SY λP α i j=>by simp only[Rep]
theorem SS:OpD X (Ch .Gt) gGt:=pE SX λP α i j=>by simp only[Rep]
theorem SR:OpD X (Ch .GtE) gGe:=pE SW λP α i j=>by simp only[Rep]
noncomputable def AF:D->Sto->Res D:=λa S=>match a with
 |.int i=>.ok (.int (-i)) S
 |_=>.bad
noncomputable def gIs:G2:=λa b S=>match b with
 |.non=>match a with
  |.non=>.ok (.bl true) S
  |_=>.ok (.bl false) S
 |_=>.bad
noncomputable def dD:G2:=λa b S=>match b with
 |.non=>match a with
  |.non=>.ok (.bl false) S
  |_=>.ok (.bl true) S
 |_=>.bad
theorem eM {P:Hp}{α:Aa Ad}(r:Rep X.K P α d v):decide (v=.non)=(match d with|.non=>true|_=>false):=by
 cases d <;> simp only[Rep] at r
 case non=>subst r;rfl
 case bl=>subst r;rfl
 case int=>subst r;rfl
 case str=>subst r;rfl
 case ty=>subst r;rfl
 case clo=>obtain⟨rfl,_⟩:=r;rfl
 case obj=>obtain⟨rfl,_⟩:=r;rfl
 case tup=>obtain⟨a,vs,rfl,_⟩:=r;rfl
 case lst=>obtain⟨a,vs,rfl,_⟩:=r;rfl
 case dct0=>obtain⟨a,rfl,_⟩:=r;rfl
 case loc=>obtain⟨a,rfl,_⟩:=r;rfl
 case exn=>obtain⟨a,rfl,_⟩:=r;rfl
 case fd=>obtain⟨a,o,vs,rfl,_⟩:=r;rfl
theorem SU:OpD X (Ch .Is) gIs:=OpD.of T3 λH P α S x y a b Q r p1 p2 af=>by
 cases b with
 |non =>
  simp only[Rep] at p2;refine⟨p2,?_⟩;rw[eM p1];cases a <;> exact xr af r (by simp only[Rep])
 |_=>exact An af
theorem WJ:OpD X (Ch .IsNot) dD:=OpD.of KB λH P α S x y a b Q r p1 p2 af=>by
 cases b with
 |non =>
  simp only[Rep] at p2;refine⟨p2,?_⟩;rw[eM p1];cases a <;> exact xr af r (by simp only[Rep] <;> rfl)
 |_=>exact An af
noncomputable def zA:G2:=λa b S=>match a,b with
 |.int i,.int j=>.ok (.int (i+j)) S
 |.str x,.str y=>if x.length+y.length<=lim then .ok (.str (x++y)) S else .bad
 |.tup xs,.tup ys=>if xs.length+ys.length<=lim then .ok (.tup (xs++ys)) S else .bad
 |.lst xs,.lst ys=>if xs.length+ys.length<=lim then .ok (.lst (xs++ys)) S else .bad
 |_,_=>.bad
theorem y9 {H P:Hp}{α:Aa Ad}{S:Sto}(I:Inv X pins σ H s)(r:Rel X.K H P α S)(p:Rep X.K P α (.tup xs) v) :
  ∃ a vs its,v=.ref a/\SqT X.K P a vs/\qB X.K P α xs vs/\qH vs its/\Oh s.heap a its.toArray/\xs.length=its.length/\xs.length<=lim:=by
 simp only[Rep] at p;obtain⟨a,vs,rfl,q,t⟩:=p;obtain⟨its,rv,p1,z⟩:=I.tuple (xS r.sub q);exact⟨a,vs,its,rfl,q,t,rv,p1,by rw[t.length,rv.length],by rw[t.length,zS];exact z⟩
theorem vR {H P:Hp}{α:Aa Ad}{S:Sto}(I:Inv X pins σ H s)(r:Rel X.K H P α S)(p:Rep X.K P α (.lst xs) v) :
  ∃ a vs its n,v=.ref a/\SqX X.K P a vs/\qB X.K P α xs vs/\qH vs its/\s.heap.get? a=Ab { cls:=.type "list",data:=.seq its.toArray n } /\ xs.length=its.length/\xs.length<=lim:=by
 simp only[Rep] at p;obtain⟨a,vs,rfl,q,t⟩:=p;have:∃ its n,qH vs its/\s.heap.get? a=Ab { cls:=.type "list",data:=.seq its.toArray n } /\ vs.length<=sizeLine:=by
  rcases q with q|⟨its,n,e,z,rv⟩
  .obtain⟨z,its,n,rv,e⟩:=(eV r.sub q).ok I.hok
   exact⟨its,n,rv,e,z⟩
  .exact⟨its,n,rv,I.kIn _ _ e,z⟩
 obtain⟨its,n,rv,e,z⟩:=this;exact⟨a,vs,its,n,rfl,q,t,rv,e,by rw[t.length,rv.length],by rw[t.length,zS];exact z⟩
theorem XZ {H P:Hp}{α:Aa Ad}{S:Sto}(I:Inv X pins σ H s)(r:Rel X.K H P α S)(t:qB X.K P α xs vs)(rv:qH vs its)(hz:xs.length<=lim)
  (ok:OkV X P α Q (.tup xs) S):EP X pins σ Q (.ref s.heap.objs.size) { s with heap:=s.heap.push { cls:=.type "tuple",data:=.seq its.toArray } }:=by
 refine⟨.ref s.heap.objs.size,_,I.laid (t':=s.toks) (o:=.tup vs) (λb ob q=>Aj _ q) (Ax _) ⟨by rw[<- t.length,<- zS];exact hz,its,rv,Uq _ _⟩,rfl,gA r (I.hok.fresh (Ax _)) t ok⟩
theorem dM {H P:Hp}{α:Aa Ad}{S:Sto}(I:Inv X pins σ H s)(r:Rel X.K H P α S)(t:qB X.K P α xs vs)(rv:qH vs its)(hz:xs.length<=lim)
  (ok:OkV X P α Q (.lst xs) S):EP X pins σ Q (.ref s.heap.objs.size) { s with heap:=s.heap.push { cls:=.type "list",data:=.seq its.toArray } }:=by
 refine⟨.ref s.heap.objs.size,_,I.laid (t':=s.toks) (o:=.lst vs) (λb ob q=>Aj _ q) (Ax _) ⟨by rw[<- t.length,<- zS];exact hz,its,0,rv,Be _ rfl⟩,rfl,vF r (I.hok.fresh (Ax _)) t ok⟩
theorem PX {H P:Hp}{α:Aa Ad}{S:Sto}{ys:Aa D}{u:V}{vv uu:Ac}(I:Inv X pins σ H s)(r:Rel X.K H P α S)(rv:qF v vv)(ru:qF u uu)(pa:Rep X.K P α (.tup xs) v)(pb:Rep X.K P α (.tup ys) u)(hl:xs.length+ys.length<=lim)(af:OkV X P α Q (.tup (xs++ys)) S) :
  Av (Ba X.prog X.w) X.A (Dp .Add vv uu) (EP X pins σ Q) X.xe s:=by
 obtain⟨a,vs,its,rfl,q1,t1,rv1,h1,l1,_⟩:=y9 I r pa;obtain⟨b,ws,its2,rfl,q2,t2,rv2,h2,l2,_⟩:=y9 I r pb;cases rv;cases ru;by_cases hx:its=[]
 .obtain⟨⟨cls,dd,data,sl⟩,ho,hc,n,hd⟩:=id h1
  obtain⟨⟨cls2,dd2,data2,sl2⟩,ho2,hc2,n2,hd2⟩:=id h2;simp only at hc hd hc2 hd2;subst hc hd hc2 hd2;have hxs:xs=[]:=Ff.mp (by rw[l1,hx];rfl)
  subst hxs;exact Ue ⟨_,ho,rfl⟩ ⟨_,ho2,rfl⟩ Ph Ss Mc Lo (Lf _ _) (tuple_addW0 a b its.toArray its2.toArray n n2 dd dd2 sl sl2 (by simp[hx]))
   ⟨ho,ho2,⟨.ref b,H,I,rfl,xr af r pb⟩⟩
 .refine _H.cat_tup h1 h2 hx (λz=>⟨.ref a,H,I,rfl,xr af r ?_⟩) (λz=>?_) (by rw[<- l1,<- l2,<- zS];exact hl)
  .have hys:ys=[]:=Ff.mp (by rw[l2,z];rfl)
   rw[hys,Gk];exact pa
  .exact XZ I r (t1.append t2) (rv1.append rv2) (by rw[Dj];exact hl) af
theorem PV {H P:Hp}{α:Aa Ad}{S:Sto}{ys:Aa D}{u:V}{vv uu:Ac}(I:Inv X pins σ H s)(r:Rel X.K H P α S)(rv:qF v vv)(ru:qF u uu)(pa:Rep X.K P α (.lst xs) v)(pb:Rep X.K P α (.lst ys) u)(hl:xs.length+ys.length<=lim)(af:OkV X P α Q (.lst (xs++ys)) S) :
  Av (Ba X.prog X.w) X.A (Dp .Add vv uu) (EP X pins σ Q) X.xe s:=by
 obtain⟨a,vs,its,n,rfl,q1,t1,rv1,h1,l1,_⟩:=vR I r pa;obtain⟨b,ws,its2,n2,rfl,q2,t2,rv2,h2,l2,_⟩:=vR I r pb;cases rv;cases ru;refine Vs h1 h2 ?_ (by rw[Bh,Bh,<- l1,<- l2,<- zS];exact hl)
 rw[Sz];exact dM I r (t1.append t2) (rv1.append rv2) (by rw[Dj];exact hl) af
inductive AddV (a b:D)(S:Sto):Prop
 |bad (e:zA a b S=.bad)
 |int (i j:Ag) (ea:a=.int i) (eb:b=.int j)
 |str (x y:Ao) (ea:a=.str x) (eb:b=.str y)
 |tup (x y:Aa D) (ea:a=.tup x) (eb:b=.tup y)
 |lst (x y:Aa D) (ea:a=.lst x) (eb:b=.lst y)
theorem EN (a b:D)(S:Sto):AddV a b S:=by
 cases a with
 |int i=>cases b with
  |int j=>exact .int i j rfl rfl
  |_=>exact .bad rfl
 |str i=>cases b with
  |str j=>exact .str i j rfl rfl
  |_=>exact .bad rfl
 |tup i=>cases b with
  |tup j=>exact .tup i j rfl rfl
  |_=>exact .bad rfl
 |lst i=>cases b with
  |lst j=>exact .lst i j rfl rfl
  |_=>exact .bad rfl
 |_=>exact .bad rfl
theorem MQ:OpD X (Dp .Add) zA:=by
 intro pins σ H s P α S v u vv uu a b Q I r rv ru pa pb af;cases EN a b S with
 |bad e=>rw[e] at af;exact An af
 |int i j ea eb =>
  subst ea eb;exact T1 pins s σ H v u vv uu Q I rv ru ⟨i,j,zO pa,zO pb,xr af r (by simp only[Rep])⟩
 |str x y ea eb =>
  subst ea eb;obtain⟨hl,af⟩:=y7 (X:=X) af;simp only[Rep] at pa pb;exact aF pins s σ H v u vv uu Q I rv ru ⟨x,y,pa,pb,by rw[<- zS];exact hl,xr af r (by simp only[Rep])⟩
 |tup xs ys ea eb =>
  subst ea eb;obtain⟨hl,af⟩:=y7 (X:=X) af;exact PX I r rv ru pa pb hl af
 |lst xs ys ea eb =>
  subst ea eb;obtain⟨hl,af⟩:=y7 (X:=X) af;exact PV I r rv ru pa pb hl af
noncomputable def gIx:G2:=λa b S=>match b with
 |.int k=>match a with
  |.tup xs=>vV (atI xs k) S
  |.lst xs=>vV (atI xs k) S
  |.loc i=>match S[i]? with
   |some (.lst xs)=>vV (atI xs k) S
   |_=>.bad
  |_=>.bad
 |_=>.bad
theorem mK {P:Hp}{α:Aa Ad}{k:Ag}(rp:qB X.K P α ds vs)(h:atI ds k=Ab d):∃ v,atI vs k=Ab v/\Rep X.K P α d v:=by
 unfold atI at h ⊢;rw[<- rp.length];cases q:ixN ds.length k with
 |none=>rw[q] at h;cases h
 |some j =>
  rw[q] at h;obtain⟨v,h1,h2⟩:=rp.get (show ds[j]? = Ab d from h)
  exact⟨v,h1,h2⟩
theorem HD:IxD X gIx:=by
 intro value slice pins σ H s P α S v u vv uu a b Q I r rv ru pa pb af hs;cases b with
 |int k =>
  have hk:=zO pb;cases a with
  |tup xs =>
   obtain⟨d,e,ok⟩:=vH (X:=X) af;simp only[Rep] at pa;obtain⟨p,vs,rfl,q,t⟩:=pa;obtain⟨w,e1,rw'⟩:=mK t e;exact FV value slice pins s σ H _ u vv uu Q I rv ru ⟨p,vs,k,w,rfl,hk,xS r.sub q,e1,xr ok r rw'⟩ hs
  |lst xs =>
   obtain⟨d,e,ok⟩:=vH (X:=X) af;simp only[Rep] at pa;obtain⟨p,vs,rfl,q,t⟩:=pa;obtain⟨w,e1,rw'⟩:=mK t e;exact rU value slice pins s σ H _ u vv uu Q I rv ru ⟨p,vs,k,w,rfl,hk,(xD r.sub q).l,e1,xr ok r rw'⟩ hs
  |loc i =>
   obtain⟨xs,hS,af⟩:=g9 (X:=X) (f:=λxs=>vV (atI xs k) S) af;obtain⟨d,e,ok⟩:=vH (X:=X) af;simp only[Rep] at pa;obtain⟨p,rfl,q⟩:=pa;obtain⟨vs,z,t⟩:=r.at' i p _ q hS;obtain⟨w,e1,rw'⟩:=mK t e;exact rU value slice pins s σ H _ u vv uu Q I rv ru ⟨p,vs,k,w,rfl,hk,.of z,e1,xr ok r rw'⟩ hs
  |_=>exact An af
 |_=>exact An af
noncomputable def bY:G3:=λo i d S=>match o,i with
 |.loc n,.int k=>match S[n]? with
  |some (.lst xs)=>match ixN xs.length k with
   |some j=>.ok () (S.set n (.lst (xs.set j d)))
   |none=>.bad
  |_=>.bad
 |_,_=>.bad
theorem RJ:lK X (lI X bY):=by
 intro pins s σ H o i v ov iv u Q I ro ri rv h;obtain⟨P,α,S,a,b,d,r,pa,pb,pd,af⟩:=h;cases a with
 |loc n =>
  cases b with
  |int k =>
   obtain⟨xs,hS,af⟩:=g9 (X:=X) (f:=λxs=>match ixN xs.length k with|some j=>.ok () (S.set n (.lst (xs.set j d)))|none=>.bad) af
   cases hj:ixN xs.length k with
   |none=>rw[hj] at af;exact An af
   |some j =>
    rw[hj] at af;simp only[Rep] at pa;obtain⟨p,rfl,q⟩:=pa;obtain⟨vs,z,t⟩:=r.at' n p _ q hS;refine YD pins s σ H _ i v ov iv u Q I ro ri rv ⟨p,vs,k,j,rfl,zO pb,z,by rw[<- t.length];exact hj,?_⟩
    refine af _ P α (r.put (m':=.lst (xs.set j d)) q hS (by intro z;cases z) ⟨vs.set j v,qV,t.set pd j⟩) (qD.refl _) (Bf _)
  |_=>exact An af
 |_=>exact An af
noncomputable def cW:D->Sto->Al Af
 |.tup xs,_=>Ab xs.length
 |.lst xs,_=>Ab xs.length
 |.str x,_=>if x.length<=lim then Ab x.length else none
 |.dct0,_=>Ab 0
 |.loc i,S=>match S[i]? with
  |some (.lst xs)=>Ab xs.length
  |_=>none
 |_,_=>none
noncomputable def d3:DF:=λds S=>match ds with
 |[d]=>match cW d S with
  |some n=>.ok (.int n) S
  |none=>.bad
 |_=>.bad
end
section
variable {X:Cx}
theorem v3 {P:Hp}{α:Aa Ad}(rp:qB X.K P α [d] vs)(rv:qH vs us):∃ v u,vs=[v]/\us=[u]/\Rep X.K P α d v/\qF v u:=by
 obtain⟨v,ws,rfl,p,t⟩:=rp.cons_inv;have:=t.nil_inv;subst this;obtain⟨u,rfl,q⟩:=gH rv;exact⟨v,u,rfl,rfl,p,q⟩
theorem m9 {P:Hp}{α:Aa Ad}{e:D}(rp:qB X.K P α [d,e] vs)(rv:qH vs us):∃ v w u x,vs=[v,w]/\us=[u,x]/\Rep X.K P α d v/\Rep X.K P α e w/\qF v u/\qF w x:=by
 obtain⟨v,ws,rfl,p,t⟩:=rp.cons_inv;obtain⟨w,ws,rfl,p',t⟩:=t.cons_inv;have:=t.nil_inv;subst this;obtain⟨u,x,rfl,q,q'⟩:=aZ rv;exact⟨v,w,u,x,rfl,rfl,p,p',q,q'⟩
noncomputable def cV (d:D)(S:Sto):Al Af:=match d with
 |.dct0=>none
 |_=>cW d S
theorem uM {H P:Hp}{α:Aa Ad}{S:Sto}{n:Af}(r:Rel X.K H P α S)(p:Rep X.K P α d v)(hn:cV d S=Ab n):PR X.K v H n:=by
 cases d with
 |str x =>
  cases (show v=.str x from p)
  obtain⟨hl,rfl⟩:=uL hn;exact⟨by rw[<- zS];exact hl,rfl⟩
 |tup xs =>
  simp only[Rep] at p;obtain⟨a,ws,rfl,sq,t⟩:=p;cases hn;exact .inr ⟨ws,xS r.sub sq,t.length⟩
 |lst xs =>
  simp only[Rep] at p;obtain⟨a,ws,rfl,sq,t⟩:=p;cases hn;exact .inl ⟨ws,(xD r.sub sq).l,t.length⟩
 |loc i =>
  simp only[Rep] at p;obtain⟨a,rfl,e⟩:=p;obtain⟨xs,hS,hn⟩:=M9 (f:=λxs=>Ab xs.length) hn;cases hn;obtain⟨ws,z,t⟩:=r.at' i a _ e hS;exact .inl ⟨ws,.of z,t.length⟩
 |_=>exact nn hn
inductive LenD1 (ds:Aa D)(S:Sto)(r:Res D):Prop
 |bad (e:r=.bad)
 |of (d:D) (n:Af) (ed:ds=[d]) (hn:cV d S=Ab n) (e:r=.ok (.int n) S)
theorem SB (ds:Aa D)(S:Sto):LenD1 ds S (match ds with|[.dct0]=>.bad|_=>d3 ds S):=by
 cases ds with
 |nil=>exact .bad rfl
 |cons d ds =>
  cases ds with
  |cons _ _=>cases d <;> exact .bad rfl
  |nil =>
   have z:(match [d] with|[D.dct0]=>Res.bad|_=>d3 [d] S)=(match cV d S with|some n=>Res.ok (D.int n) S|none=>.bad):=by cases d <;> rfl
   rw[z];cases hn:cV d S with
   |none=>exact .bad rfl
   |some n=>exact .of d n rfl hn rfl
theorem B8 (hD:NE):wL X (.builtin "len") (λds S=>match ds with|[.dct0]=>.bad|_=>d3 ds S):=by
 intro pins σ H s P α S vs us ds Q I r rv rp af;have af1:qI X P α (match ds with|[D.dct0]=>Res.bad|_=>d3 ds S) (OkV X P α Q):=af
 clear af;cases SB ds S with
 |bad e=>rw[e] at af1;exact An af1
 |of d n ed hn e =>
  rw[e] at af1;subst ed;obtain⟨v,u,rfl,rfl,p,q⟩:=v3 rp rv;exact ZM pins s σ H _ _ Q I rv ⟨v,n,rfl,uM r p hn,xr af1 r (by simp only[Rep])⟩
noncomputable def tyD:D->Sto->Al Dt
 |.non,_=>Ab "NoneType"
 |.bl _,_=>Ab "bool"
 |.int _,_=>Ab "int"
 |.str _,_=>Ab "str"
 |.tup _,_=>Ab "tuple"
 |.lst _,_=>Ab "list"
 |.dct0,_=>Ab "dict"
 |.loc i,S=>match S[i]? with
  |some (.lst _)=>Ab "list"
  |some (.dct _)=>Ab "dict"
  |_=>none
 |_,_=>none
noncomputable def kR (a b:Dt):Ap:=a == b||(a == "bool" && b == "int")
noncomputable def fB (b:Dt):Ap:=b == "int" || b == "bool" || b == "tuple" || b == "list" || b == "str" || b == "dict"
noncomputable def M1 (a b:Dt):Al Ap:=if (Jd a == Jd b)=true then Ab true else if PySem.W.kitMeta b=true then (fastBuiltinMro a).map (·.contains (.type b)) else none
noncomputable def tyL:Aa Dt:=["NoneType","bool","int","str","tuple","list","dict"]
noncomputable def okL:Aa Dt:=["int","bool","tuple","list","str","dict"]
theorem JL:(tyL.all λa=>okL.all λb=>decide (M1 a b=Ab (kR a b)))=true:=by decide +kernel
theorem MY {b:Dt}(hb:fB b=true):b∈okL:=by simpa [fB,okL,or_assoc] using hb
theorem JM {K:Ak}{a b:Dt}(ha:a∈tyL)(hb:fB b=true):Jr K (.type a) (.type b)=Ab (kR a b):=
 Bp (p:=M1 a b=Ab (kR a b)) (Bt.mp (Bt.mp JL a ha) b (MY hb))
noncomputable def uI:DF:=λds S=>match ds with
 |[d,.ty b]=>if fB b then match tyD d S with
   |some a=>.ok (.bl (kR a b)) S
   |none=>.bad
  else .bad
 |_=>.bad
inductive TyV (X:Cx)(H:Hp)(v:V)(a:Dt):Prop
 |of (t:TyOf X.K H v (.type a))
 |tup (p:Ad) (vs:Aa V) (e:v=.ref p) (q:SqT X.K H p vs) (ea:a = "tuple")
 |lst (p:Ad) (vs:Aa V) (e:v=.ref p) (q:SqL X.K H p vs) (ea:a = "list")
theorem LK {S:Sto}{a:Dt}(h:tyD d S=Ab a):a∈tyL:=by
 cases d with
 |non=>cases h;exact .head _
 |bl b=>cases h;exact .tail _ (.head _)
 |int i=>cases h;exact .tail _ (.tail _ (.head _))
 |str x=>cases h;exact .tail _ (.tail _ (.tail _ (.head _)))
 |tup xs=>cases h;exact .tail _ (.tail _ (.tail _ (.tail _ (.head _))))
 |lst xs=>cases h;exact .tail _ (.tail _ (.tail _ (.tail _ (.tail _ (.head _)))))
 |dct0=>cases h;exact .tail _ (.tail _ (.tail _ (.tail _ (.tail _ (.tail _ (.head _))))))
 |loc i =>
  rcases tK (f:=λ_=>Ab "list") (g:=λ_=>Ab "dict") h with⟨_,_,h⟩|⟨_,_,h⟩
  .cases h;exact .tail _ (.tail _ (.tail _ (.tail _ (.tail _ (.head _)))))
  .cases h;exact .tail _ (.tail _ (.tail _ (.tail _ (.tail _ (.tail _ (.head _))))))
 |_=>exact nn h
theorem RT {H P:Hp}{α:Aa Ad}{S:Sto}{a:Dt}(r:Rel X.K H P α S)(p:Rep X.K P α d v)(h:tyD d S=Ab a):TyV X H v a:=by
 cases d with
 |non=>cases h;cases (show v=.non from p);exact .of .non
 |bl b=>cases h;cases (show v=.bl b from p);exact .of (.bl b)
 |int i=>cases h;cases (show v=.int i from p);exact .of (.int i)
 |str x=>cases h;cases (show v=.str x from p);exact .of (.str x)
 |tup xs =>
  cases h;simp only[Rep] at p;obtain⟨a,vs,e,q,t⟩:=p;exact .tup a vs e (xS r.sub q) rfl
 |lst xs =>
  cases h;simp only[Rep] at p;obtain⟨a,vs,e,q,t⟩:=p;exact .lst a vs e (xD r.sub q).l rfl
 |dct0 =>
  cases h;simp only[Rep] at p;obtain⟨a,rfl,q⟩:=p;exact .of (.dK (r.sub _ _ q))
 |loc i =>
  simp only[Rep] at p;obtain⟨a,rfl,q⟩:=p;rcases tK (f:=λ_=>Ab "list") (g:=λ_=>Ab "dict") h with⟨xs,hS,h⟩|⟨kvs,hS,h⟩
  .cases h
   obtain⟨vs,z,t⟩:=r.at' i a _ q hS;exact .of (.lst z)
  .cases h
   obtain⟨vs,z,t⟩:=r.at' i a _ q hS;exact .of (.dK z)
 |_=>exact nn h
inductive IsiV (ds:Aa D)(S:Sto):Prop
 |bad (e:uI ds S=.bad)
 |of (d:D) (b a:Dt) (ed:ds=[d,.ty b]) (hb:fB b=true) (ha:tyD d S=Ab a) (e:uI ds S=.ok (.bl (kR a b)) S)
theorem HC (ds:Aa D)(S:Sto):IsiV ds S:=by
 cases ds with
 |nil=>exact .bad rfl
 |cons d ds =>
  cases ds with
  |nil=>exact .bad rfl
  |cons e ds =>
   cases ds with
   |cons _ _=>cases e <;> exact .bad rfl
   |nil =>
    cases e with
    |ty b =>
     have z:uI [d,.ty b] S=if fB b then (match tyD d S with|some a=>.ok (.bl (kR a b)) S|none=>.bad) else .bad:=rfl
     by_cases hb:fB b=true
     .rw[Bc hb] at z
      cases ha:tyD d S with
      |none=>rw[ha] at z;exact .bad z
      |some a=>rw[ha] at z;exact .of d b a rfl hb ha z
     .rw[Aw hb] at z
      exact .bad z
    |_=>exact .bad rfl
theorem B7:wL X (.builtin "isinstance") uI:=by
 intro pins σ H s P α S vs us ds Q I r rv rp af;cases HC ds S with
 |bad e=>rw[e] at af;exact An af
 |of d b a ed hb ha e =>
  subst ed;rw[e] at af;obtain⟨v,w,u,x,rfl,rfl,p,p',q,q'⟩:=m9 rp rv;simp only[Rep] at p';subst p';cases (show x=Jd b from q')
  have kit:=JM (K:=X.K) (LK ha) hb;have fin:∀ tk,EP X pins σ Q (.bool (kR a b)) { s with toks:=tk }:=λtk=>⟨.bl _,H,I.tok tk,rfl,xr af r (by simp only[Rep])⟩
  cases RT r p ha with
  |of ht=>exact o3 I q ht kit fin
  |tup p' ws e sq ea =>
   subst e ea;cases (show u=Cf p' from q)
   obtain⟨its,rv',⟨o,h1,h2,_⟩,_⟩:=I.tuple sq;exact Ej Ts I.kIn ⟨o,h1,h2⟩ kit (λz=>nomatch z) fin
  |lst p' ws e sq ea =>
   subst e ea;cases (show u=Cf p' from q)
   obtain⟨its,rv',⟨o,_,h1,h2,_⟩,_⟩:=I.list sq;exact Ej OJ I.kIn ⟨o,h1,h2⟩ kit (λz=>nomatch z) fin
noncomputable def w9:Aa D->Al (Aa Ap)
 |[]=>Ab []
 |.bl b::r=>(w9 r).map (b::·)
 |_=>none
theorem kH {P:Hp}{α:Aa Ad}:∀ {ds:Aa D} {bs:Aa Ap} {vs:Aa V} {us:Aa Ac},w9 ds=Ab bs->qB X.K P α ds vs->qH vs us->us=bs.map HT
 |[],bs,vs,us,h,rp,rv=>by
  cases h;have:=rp.nil_inv;subst this;cases rv;rfl
 |d::ds,bs,vs,us,h,rp,rv=>by
  cases d with
  |bl b =>
   obtain⟨bs',q,rfl⟩:=Ee.mp (show (w9 ds).map (b::·)=Ab bs from h)
   obtain⟨w,ws,rfl,p,t⟩:=rp.cons_inv;simp only[Rep] at p;subst p;cases rv with
   |cons q1 q2 =>
    cases (show _=HT b from q1)
    rw[kH q t q2];rfl
  |_=>exact nn h
noncomputable def bX (any:Ap):DF:=λds S=>match ds with
 |[d]=>match (zJ d).bind w9 with
  |some bs=>.ok (.bl (if any then bs.any id else bs.all id)) S
  |none=>.bad
 |_=>.bad
theorem nW (bs:Aa Ap):((Ds bs.length).all λi=>bs.getD i false)=bs.all id:=by
 induction bs with
 |nil=>rfl
 |cons b bs ih =>
  rw[By,Me,OQ,Nu,OQ,<- ih];rfl
theorem nX (bs:Aa Ap):((Ds bs.length).any λi=>bs.getD i false)=bs.any id:=by
 induction bs with
 |nil=>rfl
 |cons b bs ih =>
  rw[By,Me,IT,Pz,IT,<- ih];rfl
theorem nQ {H:Hp}{o:Cg}{h':Bs}{tk:Af}(I:Inv X pins σ H s)(k:∀ b ob,b ∉ [s.heap.objs.size]->(s.heap.push o).get? b=Ab ob->h'.get? b=Ab ob):Inv X pins σ H { s with heap:=h',toks:=tk }:=
 I.kept λb u e=>k b u (by simp;exact Cn (Ay e)) (Aj _ e)
theorem jA {bs:Aa Ap}(hi:its=bs.map HT){A:Br}:TruthOf X.prog X.w A (λi v=>its.toArray[i]? = Ab v) (λi=>bs.getD i false):=λi v s' Q' E' hv hQ=>by
 subst hi;have hv':(bs.map HT)[i]? = Ab v:=by simpa using hv
 rw[Eb] at hv';cases e:bs[i]? with
 |none=>rw[e] at hv';exact nn hv'
 |some b =>
  rw[e] at hv';cases Cj hv';have:bs.getD i false=b:=by simp[Gs,e]
  have hQ':Q' (bs.getD i false) s':=hQ;rw[this] at hQ';exact OI hQ'
theorem UV {any:Ap}{S:Sto}{P:Hp}{α:Aa Ad}{Ok:D->Sto->Prop}(h:qI X P α (bX any ds S) Ok):∃ d xs bs,ds=[d]/\ItV d xs/\w9 xs=Ab bs/\Ok (.bl (if any then bs.any id else bs.all id)) S:=by
 obtain⟨d,rfl,h1⟩:=sA (X:=X) (β:=D) (g:=λd=>match (zJ d).bind w9 with|some bs=>.ok (D.bl (if any then bs.any id else bs.all id)) S|none=>.bad) h
 cases hb:(zJ d).bind w9 with
 |none=>rw[hb] at h1;exact An h1
 |some bs =>
  rw[hb] at h1;obtain⟨xs,hx,hbs⟩:=Ep.mp hb;exact⟨d,xs,bs,rfl,itV hx,hbs,h1⟩
theorem B5 (any:Ap)(hc:X.calm=true):wL X (.builtin (if any then "any" else "all")) (bX any):=by
 intro pins σ H s P α S vs us ds Q I r rv rp af;obtain⟨d,xs,bs,ed,hd,hbs,ok⟩:=UV af;clear af;subst ed;obtain⟨v,u,rfl,rfl,p,q⟩:=v3 rp rv;clear rp;have fin:∀ {o:Cg} (h':Bs) (tk:Af),(∀ b ob,b ∉ [s.heap.objs.size]->(s.heap.push o).get? b=Ab ob->h'.get? b=Ab ob)->EP X pins σ Q (.bool (if any then bs.any id else bs.all id)) { s with heap:=h',toks:=tk }:=
  λ{o} h' tk k=>⟨.bl _,H,nQ I k,rfl,xr ok r (by simp only[Rep])⟩
 clear rv ok;have hh:X.A.in1.handled=none:=I.ok.hd hc;cases hd with
 |tup ed =>
  subst ed;obtain⟨a,ws,its,rfl,sq,t,rvi,ht,hl,_⟩:=y9 I r p;cases (show u=Cf a from q)
  have hi:=kH hbs t rvi;have hlen:its.toArray.size=bs.length:=by rw[hi];simp
  have hne:a≠s.heap.objs.size:=by obtain⟨o,e,_⟩:=ht;exact Cn (Ay e)
  have W:=Yx (prog:=X.prog) (w:=X.w) hh s.heap.objs.size a hne its.toArray;have hT:∀ o,(s.heap.push o).IsTuple a its.toArray:=λo=>by obtain⟨o,e,c⟩:=ht;exact⟨o,Aj _ e,c⟩
  have ht':s.heap.IsTuple a its.toArray:=ht;cases any with
  |false =>
   refine call_all_walk (Fy ht' ⟨s.heap.objs.size,_,_,_,_,_,_,rfl,W,⟨⟨_,Be _ rfl,rfl,rfl⟩,hT _⟩,jA hi,λh' tk k=>?_⟩);rw[hlen,nW];exact fin h' tk k
  |true =>
   refine call_any_walk (Fy ht' ⟨s.heap.objs.size,_,_,_,_,_,_,rfl,W,⟨⟨_,Be _ rfl,rfl,rfl⟩,hT _⟩,jA hi,λh' tk k=>?_⟩);rw[hlen,nX];exact fin h' tk k
 |lst ed =>
  subst ed;obtain⟨a,ws,its,n,rfl,sq,t,rvi,ht,hl,_⟩:=vR I r p;cases (show u=Cf a from q)
  have hL:s.heap.IsList a its.toArray:=⟨_,ht,rfl,n,rfl⟩;have hi:=kH hbs t rvi;have hlen:its.toArray.size=bs.length:=by rw[hi];simp
  have hne:a≠s.heap.objs.size:=Cn (Ay ht);have W:=Wz (prog:=X.prog) (w:=X.w) hh s.heap.objs.size a hne its.toArray;have hL':∀ o,(s.heap.push o).IsList a its.toArray:=λo=>⟨_,Aj _ ht,rfl,n,rfl⟩;cases any with
  |false =>
   refine call_all_walk (EQ hL ⟨s.heap.objs.size,_,_,_,_,_,_,rfl,W,⟨⟨_,Be _ rfl,rfl,rfl⟩,hL' _⟩,jA hi,λh' tk k=>?_⟩);rw[hlen,nW];exact fin h' tk k
  |true =>
   refine call_any_walk (EQ hL ⟨s.heap.objs.size,_,_,_,_,_,_,rfl,W,⟨⟨_,Be _ rfl,rfl,rfl⟩,hL' _⟩,jA hi,λh' tk k=>?_⟩);rw[hlen,nX];exact fin h' tk k
noncomputable def yQ:DF:=λds S=>match ds with
 |[.int i]=>.ok (.int i) S
 |[.bl b]=>.ok (.int (b01 b)) S
 |_=>.bad
inductive IntV (ds:Aa D)(S:Sto):Prop
 |bad (e:yQ ds S=.bad)
 |int (i:Ag) (e:ds=[.int i])
 |bl (b:Ap) (e:ds=[.bl b])
theorem HA (ds:Aa D)(S:Sto):IntV ds S:=by
 cases ds with
 |nil=>exact .bad rfl
 |cons d ds =>
  cases ds with
  |cons _ _=>cases d <;> exact .bad rfl
  |nil =>
   cases d with
   |int i=>exact .int i rfl
   |bl b=>exact .bl b rfl
   |_=>exact .bad rfl
theorem B6:wL X (.type "int") yQ:=by
 intro pins σ H s P α S vs us ds Q I r rv rp af;cases HA ds S with
 |bad e=>rw[e] at af;exact An af
 |int i e =>
  subst e;obtain⟨v,u,rfl,rfl,p,q⟩:=v3 rp rv;exact nD pins s σ H _ _ Q I rv (.inl ⟨_,by rw[zO p],xr af r (by simp only[Rep])⟩)
 |bl b e =>
  subst e;obtain⟨v,u,rfl,rfl,p,q⟩:=v3 rp rv;simp only[Rep] at p;subst p;exact nD pins s σ H _ _ Q I rv (.inr ⟨_,rfl,xr af r (by simp only[Rep];rfl)⟩)
noncomputable def fQ:DF:=λds S=>match ds with
 |[d]=>match zJ d with
  |some xs=>.ok (.tup xs) S
  |none=>.bad
 |_=>.bad
theorem ZO:wL X (.type "tuple") fQ:=by
 intro pins σ H s P α S vs us ds Q I r rv rp af;obtain⟨d,rfl,af1⟩:=sA (X:=X) (β:=D) (g:=λd=>match zJ d with|some xs=>.ok (D.tup xs) S|none=>.bad) af
 obtain⟨xs,hx,af2⟩:∃ xs,zJ d=Ab xs/\OkV X P α Q (.tup xs) S:=by
  cases hx:zJ d with
  |none=>rw[hx] at af1;exact An af1
  |some xs=>rw[hx] at af1;exact⟨xs,rfl,af1⟩
 obtain⟨v,u,rfl,rfl,p,q⟩:=v3 rp rv;cases itV hx with
 |tup e =>
  subst e;have p0:=p;simp only[Rep] at p;obtain⟨a,ws,rfl,sq,t⟩:=p;exact gN pins s σ H _ _ Q I rv ⟨a,ws,rfl,.inr ⟨xS r.sub sq,xr af2 r p0⟩⟩
 |lst e =>
  subst e;simp only[Rep] at p;obtain⟨a,ws,rfl,sq,t⟩:=p;exact gN pins s σ H _ _ Q I rv ⟨a,ws,rfl,.inl ⟨(xD r.sub sq).l,λl hl=>gA r hl t af2⟩⟩
end
section
variable {X:Cx}
structure ClsK (K:Ak)(cl:Aa Ad):Prop where
 ex:∀ C∈cl,ExnK K C
 one:∀ C∈cl,∀ B∈cl,Jr K (.ref C) (.ref B)=Ab (C == B)
 ve:∀ C∈cl,Jr K (.ref C) (.type "ValueError")=Ab true
noncomputable def CW (cl:Aa Ad):DF:=λds S=>match ds with
 |[.exn (.ref C),.obj B]=>if cl.contains C&&cl.contains B then .ok (.bl (C == B)) S else .bad
 |[.exn (.ref C),.ty b]=>if cl.contains C&&(b == "ValueError") then .ok (.bl true) S else .bad
 |_=>uI ds S
def MtD (X:Cx)(id:Dt)(g:D->Aa D->Sto->Res D):Prop:=
 ∀ (pins:Aa (Ad × Cg)) (σ : _L.St) (H:Hp) (s:Ah) (P:Hp) (α : Aa Ad) (S:Sto) (v:V) (vv:Ac) (vs:Aa V) (us:Aa Ac) (a:D) (ds:Aa D) (Q:VK),Inv X pins σ H s->Rel X.K H P α S->qF v vv->Rep X.K P α a v->qH vs us->qB X.K P α ds vs->qP X P α (g a ds S) Q ->
  Av (Ba X.prog X.w) X.A (call (.builtin id) (vv::us)) (EP X pins σ Q) X.xe s
noncomputable def dBm (T:Dt)(g:D->Aa D->Sto->Res D)(fo:DE)(fa:DA):DE:=λenv S=>(fo env S).bind λa S1=>if (tyD a S1 == Ab T)=true then (fa env S1).bind λds S2=>g a ds S2 else .bad
theorem pO {H P:Hp}{α:Aa Ad}{S:Sto}{a:D}{T:Dt}(r:Rel X.K H P α S)(p:Rep X.K P α a v)(h:tyD a S=Ab T)(hT:T = "list" \/ T = "dict" \/ T = "int" \/ T = "str"):tyV X.K T v H:=by
 cases a with
 |int i=>cases h;simp only[Rep] at p;subst p;rfl
 |str x=>cases h;simp only[Rep] at p;subst p;rfl
 |lst xs =>
  cases h;simp only[Rep] at p;obtain⟨b,vs,rfl,q,t⟩:=p;exact .inl ⟨rfl,vs,(xD r.sub q).l⟩
 |dct0 =>
  cases h;simp only[Rep] at p;obtain⟨b,rfl,q⟩:=p;exact .inr (.inr (.inl ⟨rfl,.inl ⟨[],r.sub _ _ q⟩⟩))
 |loc i =>
  simp only[Rep] at p;obtain⟨b,rfl,q⟩:=p;rcases tK (f:=λ_=>Ab "list") (g:=λ_=>Ab "dict") h with⟨xs,hS,h⟩|⟨kvs,hS,h⟩
  .cases h
   obtain⟨vs,z,t⟩:=r.at' i b _ q hS;exact .inl ⟨rfl,vs,SqL.of z⟩
  .cases h
   obtain⟨vs,z,t⟩:=r.at' i b _ q hS;exact .inr (.inr (.inl ⟨rfl,.inl ⟨vs,z⟩⟩))
 |non=>cases h;exact absurd hT (by decide)
 |bl b=>cases h;exact absurd hT (by decide)
 |tup xs=>cases h;exact absurd hT (by decide)
 |_=>exact nn h
variable {o e:Bn}{es:Aa Bn}{fo:DE}{fa:DA}{name:Ao}{apos cpos:Eg}{T id:Dt}{g:D->Aa D->Sto->Res D}
theorem iJ {P:Hp}{α:Aa Ad}{a:D}{S:Sto}{β:Type}{k:Res β}{Ok:β->Sto->Prop}(h:qI X P α (if (tyD a S == Ab T)=true then k else .bad) Ok):tyD a S=Ab T/\qI X P α k Ok:=by
 by_cases z:(tyD a S == Ab T)=true
 .rw[Bc z] at h;exact⟨Sy.mp z,h⟩
 .rw[Aw z] at h;exact An h
theorem D4 (pa:Ta T)(slot:Slot T name id)(hty:Vq (.builtin id)=pure (.type "method_descriptor"))(hT:T = "list" \/ T = "dict" \/ T = "int" \/ T = "str")(hm:MtD X id g)(ho:PE X o (tD X fo))(ha:PA X (e::es) (tDA X fa))
  (hbase:Gu o name X.env (eval o X.env)=eval o X.env:=by rfl)
  (hfew:((Ft cpos (Bl (e::es) X.env)).all (λx=>!x.1)&&(backToKw cpos (keywordEach [] X.env)).all (λx=>x.1.isSome)
   && decide ((e::es).length+([]:Aa Xx).length+(if ([] : Aa Xx).isEmpty then 0 else 1)<30))=true:=by rfl)
  (hline:(apos.endLine == cpos.line)=true:=by rfl) (hs:Bl (e::es) X.env=(false,eval e X.env)::Bl es X.env:=by rfl) (hplain:(Ft cpos (Bl es X.env)).any (·.1)=false:=by rfl) :
  PE X (.Call (.Attribute o name apos) (e::es) [] cpos) (tD X (dBm T g fo fa)):=by
 intro pins s σ H Q I h;obtain⟨P,α,env,S,r,re,af⟩:=h;refine wpAny_Call_method_late hbase hfew hline rfl (thn (zL ho I r re af) λvv s1 ⟨v,H1,P1,α1,d,S1,G1,af1⟩=>?_);obtain⟨ht,af2⟩:=iJ af1;obtain⟨h1,h2⟩:=pN G1.inv G1.val (pO G1.rel G1.rep ht hT);refine⟨T,id,pa,slot,hty,h1,h2,?_⟩;have hA:=wC ha G1.inv G1.rel G1.env (P:=P1) (α:=α1) (Ok:=OkV X P1 α1 Q) (qP.base G1.same G1.pre (r:=(fa env S1).bind λds S2=>g d ds S2) af2) cpos;rw[hs] at hA ⊢;refine Hq (by show (false||(Ft cpos (Bl es X.env)).any (·.1))=false;rw[hplain] <;> rfl) (Sc ?_)
 exact thn hA λus s2 ⟨vs,H2,P2,α2,ds,S2,I2,rv,r2,re2,rp2,e1,e2,af3⟩=>hm pins σ H2 s2 P2 α2 S2 v vv vs us d ds Q I2 r2 G1.val (Rep.mono e1 e2 _ _ G1.rep) rv rp2 (qP.base e1 e2 af3)
noncomputable def ZW (T:Dt)(g:D->Aa D->Sto->Res D)(fo:DE):DE:=λenv S=>(fo env S).bind λa S1=>if (tyD a S1 == Ab T)=true then g a [] S1 else .bad
theorem BK (pa:Ta T)(slot:Slot T name id)(hty:Vq (.builtin id)=pure (.type "method_descriptor"))(hT:T = "list" \/ T = "dict" \/ T = "int" \/ T = "str")(hm:MtD X id g)(ho:PE X o (tD X fo))
  (hbase:Gu o name X.env (eval o X.env)=eval o X.env:=by rfl) (hline:(apos.endLine == cpos.line)=true:=by rfl):PE X (.Call (.Attribute o name apos) [] [] cpos) (tD X (ZW T g fo)):=by
 intro pins s σ H Q I h;obtain⟨P,α,env,S,r,re,af⟩:=h;refine IJ hbase hline (thn (zL ho I r re af) λvv s1 ⟨v,H1,P1,α1,d,S1,G1,af1⟩=>?_);obtain⟨ht,af2⟩:=iJ af1;obtain⟨h1,h2⟩:=pN G1.inv G1.val (pO G1.rel G1.rep ht hT);exact⟨T,id,pa,slot,hty,h1,h2,Hq rfl (Ko (hm pins σ H1 s1 P1 α1 S1 v vv [] [] d [] Q G1.inv G1.rel G1.val G1.rep .nil .nil (qP.base G1.same G1.pre af2)))⟩
noncomputable def xY:D->Aa D->Sto->Res D:=λa ds S=>match a,ds with
 |.loc i,[d]=>match S[i]? with
  |some (.lst xs)=>if xs.length<lim then .ok .non (S.set i (.lst (xs++[d]))) else .bad
  |_=>.bad
 |_,_=>.bad
inductive ApV (a:D)(ds:Aa D)(S:Sto):Prop
 |bad (e:xY a ds S=.bad)
 |of (i:Af) (d:D) (xs:Aa D) (ea:a=.loc i) (ed:ds=[d]) (hS:S[i]? = Ab (.lst xs)) (hl:xs.length<lim) (e:xY a ds S=.ok .non (S.set i (.lst (xs++[d]))))
theorem apV (a:D)(ds:Aa D)(S:Sto):ApV a ds S:=by
 cases a with
 |loc i =>
  cases ds with
  |nil=>exact .bad rfl
  |cons d ds =>
   cases ds with
   |cons _ _=>exact .bad rfl
   |nil =>
    have z:xY (.loc i) [d] S=(match S[i]? with|some (.lst xs)=>(if xs.length<lim then .ok .non (S.set i (.lst (xs++[d]))) else .bad)|_=>.bad):=rfl
    cases hS:S[i]? with
    |none=>rw[hS] at z;exact .bad z
    |some m =>
     rw[hS] at z;cases m with
     |lst xs =>
      by_cases hl:xs.length<lim
      .exact .of i d xs rfl rfl hS hl (z.trans (Bc hl))
      .exact .bad (z.trans (Aw hl))
     |_=>exact .bad z
 |_=>exact .bad rfl
theorem oE:MtD X "list.append" xY:=by
 intro pins σ H s P α S v vv vs us a ds Q I r rv p rvs rps af;cases apV a ds S with
 |bad e=>rw[e] at af;exact An af
 |of i d xs ea ed hS hl e =>
  rw[e] at af;subst ea ed;obtain⟨w,u,rfl,rfl,p',q'⟩:=v3 rps rvs;simp only[Rep] at p;obtain⟨b,rfl,q⟩:=p;obtain⟨ws,z,t⟩:=r.at' i b _ q hS;refine oI pins s σ H (.ref b) [w] vv [u] Q I rv (.cons q' .nil) ⟨b,ws,w,rfl,rfl,z,by rw[<- t.length,<- zS];exact hl,?_⟩
  exact xr af (r.put (m':=.lst (xs++[d])) q hS (by intro z;cases z) ⟨ws++[w],qV,t.append (.cons p' .nil)⟩) (by simp only[Rep])
noncomputable def lA:D->Aa D->Sto->Res D:=λa ds S=>match a,ds with
 |.int n,[]=>.ok (.int (IG n)) S
 |_,_=>.bad
theorem JX:MtD X "int.bit_length" lA:=by
 intro pins σ H s P α S v vv vs us a ds Q I r rv p rvs rps af;unfold lA at af
 split at af
 .simp only[Rep] at p
  subst p;obtain⟨t,rfl⟩:=rv;cases rps.nil_inv;cases rvs;exact call_int_bit_length ⟨.int _,H,I.tok _,⟨_,rfl⟩,xr af r (by simp only[Rep])⟩
 .exact An af
end
noncomputable def xO:D->Al Key
 |.int i=>Ab (.inl i)
 |.str x=>Ab (.inr x)
 |_=>none
noncomputable def zQ (kvs:Aa (Key × D))(k:Key):Al D:=(kvs.find? λkv=>decide (kv.1=k)).map (·.2)
noncomputable def xC (kvs:Aa (Key × D))(k:Key)(v:D):Aa (Key × D):=
 if (kvs.any λkv=>decide (kv.1=k))=true then kvs.map (λkv=>if kv.1=k then (kv.1,v) else kv) else kvs++[(k,v)]
section
variable {K:Ak}{P:Hp}{α : Aa Ad}
theorem tB {vs:Aa (Key × V)}(r:KVs K P α kvs vs):kvs.length=vs.length:=Paired.length r
theorem tE {k:Key}:∀ {kvs:Aa (Key × D)} {vs:Aa (Key × V)},KVs K P α kvs vs->(∀ d,zQ kvs k=Ab d->∃ v,yH vs k=Ab v/\Rep K P α d v)/\(zQ kvs k=none->yH vs k=none)
 |_,_,.nil=>⟨λd h=>by simp[zQ] at h,λ_=>rfl⟩
 |(k1,d1)::kvs,(k2,v2)::vs,.cons z t=>by
  obtain⟨e,r⟩:=z;dsimp only at e r;subst e;obtain⟨h1,h2⟩:=tE (k:=k) t;unfold zQ yH at *;by_cases hk:k1=k
  .subst hk
   constructor
   .intro d h
    simp at h;subst h;exact⟨v2,by simp,r⟩
   .intro h
    simp at h
  .constructor
   .intro d h
    rw[Qr (by simpa using hk)] at h ⊢
    exact h1 d h
   .intro h
    rw[Qr (by simpa using hk)] at h ⊢
    exact h2 h
theorem JN {k:Key}{vs:Aa (Key × V)}(h:KVs K P α kvs vs):(kvs.any λkv=>decide (kv.1=k))=(vs.any λkv=>decide (kv.1=k)):=by
 induction h with
 |nil=>rfl
 |cons z t ih=>rw[IT,IT,ih,z.1]
theorem JP {k:Key}(q:Rep K P α d v){kvs:Aa (Key × D)}{vs:Aa (Key × V)}(h:KVs K P α kvs vs):KVs K P α (kvs.map λkv=>if kv.1=k then (kv.1,d) else kv) (vs.map λkv=>if kv.1=k then (kv.1,v) else kv):=by
 induction h with
 |nil=>exact .nil
 |cons z t ih =>
  rw[Bz,Bz];refine .cons ?_ ih;rw[<- z.1]
  split
  .exact⟨rfl,q⟩
  .exact z
theorem JO {k:Key}(q:Rep K P α d v){kvs:Aa (Key × D)}{vs:Aa (Key × V)}(h:KVs K P α kvs vs):KVs K P α (kvs++[(k,d)]) (vs++[(k,v)]):=by
 induction h with
 |nil=>exact .cons ⟨rfl,q⟩ .nil
 |cons z t ih=>exact .cons z ih
theorem rX {k:Key}(q:Rep K P α d v){kvs:Aa (Key × D)}{vs:Aa (Key × V)}(r:KVs K P α kvs vs):KVs K P α (xC kvs k d) (yF vs k v):=by
 unfold xC yF;rw[JN r]
 split
 .exact JP q r
 .exact JO q r
theorem dH {k:Key}(h:xO d=Ab k)(r:Rep K P α d v):v=kV k:=by
 cases d with
 |int i=>cases h;simp only[Rep] at r;exact r
 |str x=>cases h;simp only[Rep] at r;exact r
 |_=>cases h
end
section
variable {X:Cx}{o i e:Bn}{pos:Eg}{fo fi:DE}
noncomputable def bU:DE:=λ_ S=>.ok (.loc S.length) (S++[.dct []])
theorem BM:PE X (.Dict [] [] pos) (tD X bU):=by
 refine peW WM λσ H Q ⟨P,α,env,S,r,re,af⟩ p hp=>?_;have hpre:α<+:α++[p]:=Gy _ _;have r1:=r.new (o:=.dK []) (m:=.dct []) hp ⟨[],qV,.nil⟩;refine af _ _ _ _ r1 (qD.refl _) hpre ?_;simp only[Rep];exact⟨p,rfl,by rw[<- r.len];simp⟩
noncomputable def xE:G3:=λo i d S=>match o with
 |.loc n=>match S[n]? with
  |some (.dct kvs)=>match xO i with
   |some k=>if kvs.length<lim then .ok () (S.set n (.dct (xC kvs k d))) else .bad
   |none=>.bad
  |_=>bY o i d S
 |_=>bY o i d S
inductive Set2V (a b d:D)(S:Sto):Prop
 |bad (e:xE a b d S=.bad)
 |old (e:xE a b d S=bY a b d S)
 |of (n:Af) (kvs:Aa (Key × D)) (k:Key) (ea:a=.loc n) (hS:S[n]? = Ab (.dct kvs)) (hk:xO b=Ab k) (hl:kvs.length<lim) (e:xE a b d S=.ok () (S.set n (.dct (xC kvs k d))))
theorem RI (a b d:D)(S:Sto):Set2V a b d S:=by
 cases a with
 |loc n =>
  have z:xE (.loc n) b d S=(match S[n]? with|some (.dct kvs)=>(match xO b with|some k=>(if kvs.length<lim then .ok () (S.set n (.dct (xC kvs k d))) else .bad)|none=>.bad)|_=>bY (.loc n) b d S):=rfl
  cases hS:S[n]? with
  |none=>rw[hS] at z;exact .old z
  |some m =>
   rw[hS] at z;cases m with
   |dct kvs =>
    cases hk:xO b with
    |none=>rw[hk] at z;exact .bad z
    |some k =>
     rw[hk] at z;by_cases hl:kvs.length<lim
     .exact .of n kvs k rfl hS hk hl (z.trans (Bc hl))
     .exact .bad (z.trans (Aw hl))
   |_=>exact .old z
 |_=>exact .old rfl
theorem L6 (hu:X.A.units+1<Ev):lK X (lI X xE):=by
 intro pins s σ H o i v ov iv u Q I ro ri rv h;obtain⟨P,α,S,a,b,d,r,pa,pb,pd,af⟩:=h;cases RI a b d S with
 |bad e=>rw[e] at af;exact An af
 |old e =>
  rw[e] at af;exact RJ pins s σ H o i v ov iv u Q I ro ri rv ⟨P,α,S,a,b,d,r,pa,pb,pd,af⟩
 |of n kvs k ea hS hk hl e =>
  rw[e] at af;subst ea;simp only[Rep] at pa;obtain⟨p,rfl,q⟩:=pa;obtain⟨vs,z,t⟩:=r.at' n p _ q hS;cases dH hk pb;cases (show ov=Cf p from ro)
  refine iI hu I (mH.k (v:=v) z (by rw[<- tB t,<- zS];exact hl)) ri rv λs' I'=>⟨_,I',?_⟩
  exact af _ P α (r.put (m':=.dct (xC kvs k d)) q hS (by intro z;cases z) ⟨_,qV,rX pd t⟩) (qD.refl _) (Bf _)
noncomputable def vD:D->Aa D->Sto->Res D:=λa ds S=>match a,ds with
 |.loc n,[i,x]=>match S[n]? with
  |some (.dct kvs)=>match xO i with
   |some k=>.ok ((zQ kvs k).getD x) S
   |none=>.bad
  |_=>.bad
 |_,_=>.bad
inductive GetV (a:D)(ds:Aa D)(S:Sto):Prop
 |bad (e:vD a ds S=.bad)
 |of (n:Af) (i x:D) (kvs:Aa (Key × D)) (k:Key) (ea:a=.loc n) (ed:ds=[i,x]) (hS:S[n]? = Ab (.dct kvs)) (hk:xO i=Ab k) (e:vD a ds S=.ok ((zQ kvs k).getD x) S)
theorem H8 (a:D)(ds:Aa D)(S:Sto):GetV a ds S:=by
 cases a with
 |loc n =>
  cases ds with
  |nil=>exact .bad rfl
  |cons i ds =>
   cases ds with
   |nil=>exact .bad rfl
   |cons x ds =>
    cases ds with
    |cons _ _=>exact .bad rfl
    |nil =>
     have z:vD (.loc n) [i,x] S=(match S[n]? with|some (.dct kvs)=>(match xO i with|some k=>.ok ((zQ kvs k).getD x) S|none=>.bad)|_=>.bad):=rfl
     cases hS:S[n]? with
     |none=>rw[hS] at z;exact .bad z
     |some m =>
      rw[hS] at z;cases m with
      |dct kvs =>
       cases hk:xO i with
       |none=>rw[hk] at z;exact .bad z
       |some k=>rw[hk] at z;exact .of n i x kvs k rfl rfl hS hk z
      |_=>exact .bad z
 |_=>exact .bad rfl
theorem M7 (hu:X.A.units+1<Ev):MtD X "dict.get" vD:=by
 intro pins σ H s P α S v vv vs us a ds Q I r rv p rvs rps af;cases H8 a ds S with
 |bad e=>rw[e] at af;exact An af
 |of n i x kvs k ea ed hS hk e =>
  rw[e] at af;subst ea ed;obtain⟨vi,vx,ui,ux,rfl,rfl,pi,px,qi,qx⟩:=m9 rps rvs;simp only[Rep] at p;obtain⟨b,rfl,q⟩:=p;obtain⟨ws,z,t⟩:=r.at' n b _ q hS;cases dH hk pi;cases (show vv=Cf b from rv)
  refine BG hu I (mG.k z) qi qx λw' s' I' rw'=>⟨_,H,I',rw',xr af r ?_⟩;obtain⟨h1,h2⟩:=tE (k:=k) t;cases hv:zQ kvs k with
  |none=>rw[h2 hv];exact px
  |some d =>
   obtain⟨w,e1,e2⟩:=h1 d hv;rw[e1];exact e2
end
noncomputable def u4 (S:Sto):Sto:=S.map λ_=>.dead
noncomputable def cJ:D->Ap
 |.non=>true
 |.bl _=>true
 |.int _=>true
 |.str _=>true
 |_=>false
noncomputable def mapO {β γ:Type}(f:β->Al γ) : Aa β -> Al (Aa γ)
 |[]=>Ab []
 |b::r=>match f b,mapO f r with
  |some c,Ab cs=>Ab (c::cs)
  |_,_=>none
noncomputable def vG:Af->Sto->D->Al D
 |n+1,S,.tup xs=>(mapO (vG n S) xs).map .tup
 |n+1,S,.lst xs=>(mapO (vG n S) xs).map .lst
 |n+1,S,.loc i=>match S[i]? with
  |some (.lst xs)=>(mapO (vG n S) xs).map .lst
  |_=>none
 |_,_,.non=>Ab .non
 |_,_,.bl b=>Ab (.bl b)
 |_,_,.int i=>Ab (.int i)
 |_,_,.str x=>Ab (.str x)
 |_,_,.ty n=>Ab (.ty n)
 |_,_,.obj a=>Ab (.obj a)
 |_,_,.dct0=>Ab .dct0
 |_,_,.exn c=>Ab (.exn c)
 |_,_,_=>none
noncomputable def vC (H P:Hp)(α : Aa Ad):Hp:=λb=>if (P b).isSome then P b else if b∈α then H b else none
section
variable {K:Ak}{H P:Hp}{α : Aa Ad}{S:Sto}
theorem uJ (H P:Hp)(α : Aa Ad):qD P (vC H P α):=λb o e=>by
 unfold vC;rw[e];rfl
theorem XJ (r:Rel K H P α S):qD (vC H P α) H:=λb o e=>by
 unfold vC at e
 split at e
 .exact r.sub b o e
 .split at e
  .exact e
  .cases e
theorem mW {a:Ad}(h:P a=none)(ha:a∈α):vC H P α a=H a:=by
 unfold vC;rw[h];simp[ha]
theorem Rel.frz (r:Rel K H P α S):Rel K H (vC H P α) α (u4 S) where
 tb:=r.tb.keep (λ_ _ q _=>q) λb u q _ p n=>⟨by unfold vC;rw[p];simp[n],n⟩
 sub:=XJ r
 len:=by rw[r.len];simp[u4]
 nd:=r.nd
 sep:=λi a o h1 h2 h3=>by
  unfold u4 at h2;rw[Eb] at h2;cases q:S[i]? with
  |none=>rw[q] at h2;cases h2
  |some m=>rw[q] at h2;cases h2;exact absurd rfl h3
 at':=λi a o h1 h2=>by
  unfold u4 at h2;rw[Eb] at h2;cases q:S[i]? with
  |none=>rw[q] at h2;cases h2
  |some m=>rw[q] at h2;cases h2;trivial
 own:=r.own
theorem Rel.unfrz {H' P1:Hp}{α1:Aa Ad}{S1:Sto}(r:Rel K H P α S)(r1:Rel K H' P1 α1 S1)(e:qD (vC H P α) P1):Rel K H' P α S:=by
 have mem:∀ i a,α[i]? = Ab a->a∈α:=λi a h=>Ec h;have kp:∀ (i:Af) (a:Ad) (o:MO) (u:HO),α[i]? = Ab a->S[i]? = Ab o->o≠MO.dead->H a=Ab u->H' a=Ab u:=λi a o u h1 h2 h3 h4 =>
  r1.sub a u (e a u (by rw[mW (r.sep i a o h1 h2 h3) (mem i a h1)];exact h4))
 refine⟨λx hx c T h=>let ⟨ps,e,_,_,ok,cd⟩:=r1.tb x hx c T h;let ⟨_,_,pn,an,_,_⟩:=r.tb x hx c T h;⟨ps,e,pn,an,ok,cd⟩,(uJ H P α).trans (e.trans r1.sub),r.len,r.nd,r.sep,λi a o h1 h2=>?_,λi a h1=>?_⟩
 .have m:=r.at' i a o h1 h2
  cases o with
  |dead=>trivial
  |lst ds=>obtain⟨vs,q,t⟩:=m;exact⟨vs,kp i a _ _ h1 h2 (by intro z;cases z) q,t⟩
  |dct kvs=>obtain⟨vs,q,t⟩:=m;exact⟨vs,kp i a _ _ h1 h2 (by intro z;cases z) q,t⟩
  |dcT kvs=>obtain⟨vs,q,t⟩:=m;exact⟨vs,kp i a _ _ h1 h2 (by intro z;cases z) q,t⟩
  |ins C fs=>obtain⟨dx,vs,q,t⟩:=m;exact⟨dx,vs,kp i a _ _ h1 h2 (by intro z;cases z) q,t⟩
 .have h:=r.own i a h1
  cases q:H a with
  |none=>exact absurd q h
  |some u =>
   have z:∃ u',vC H P α a=Ab u':=by
    cases q2:P a with
    |none=>exact⟨u,by rw[mW q2 (mem i a h1)];exact q⟩
    |some u'=>exact⟨u',uJ H P α a u' q2⟩
   obtain⟨u',z⟩:=z;rw[r1.sub a u' (e a u' z)];intro w;cases w
set_option tactic.hygienic true in
theorem qB.mapO {f:D->Al D}{P':Hp}(h:∀ d t v,f d=Ab t->Rep K P α d v->Rep K P' α t v):∀ {ds ts:Aa D} {vs:Aa V},_D.mapO f ds=Ab ts->qB K P α ds vs->qB K P' α ts vs
 |[],ts,vs,e,r=>by cases e;rw[r.nil_inv];exact .nil
 |d::ds,ts,vs,e,r=>by
  obtain⟨w,ws,rfl,r1,r2⟩:=r.cons_inv;unfold _D.mapO at e
  split at e
  .rename_i c cs h1 h2
   cases e;exact .cons (h d c w h1 r1) (qB.mapO h h2 r2)
  .cases e
theorem eX (r:Rel K H P α S):∀ (n:Af) (d t:D) (v:V),vG n S d=Ab t->Rep K P α d v->Rep K (vC H P α) α t v:=by
 have mono:∀ (d:D) (v:V),Rep K P α d v->Rep K (vC H P α) α d v:=λd v=>Rep.mono (uJ H P α) (Bf _) d v;intro n
 induction n with
 |zero =>
  intro d t v h p;cases d <;> first|(cases h;exact mono _ _ p)|exact nn h
 |succ n ih =>
  intro d t v h p;cases d with
  |tup xs =>
   obtain⟨ts,h1,rfl⟩:=Ee.mp h;simp only[Rep] at p ⊢;obtain⟨a,vs,rfl,q,t⟩:=p;exact⟨a,vs,rfl,wI (uJ H P α) q,qB.mapO (λd t v=>ih d t v) h1 t⟩
  |lst xs =>
   obtain⟨ts,h1,rfl⟩:=Ee.mp h;simp only[Rep] at p ⊢;obtain⟨a,vs,rfl,q,t⟩:=p;exact⟨a,vs,rfl,xD (uJ H P α) q,qB.mapO (λd t v=>ih d t v) h1 t⟩
  |loc i =>
   have h:(match S[i]? with|some (.lst xs)=>(_D.mapO (vG n S) xs).map D.lst|_=>none)=Ab t:=h
   cases hS:S[i]? with
   |none=>rw[hS] at h;exact nn h
   |some m =>
    rw[hS] at h;cases m with
    |lst xs =>
     obtain⟨ts,h1,rfl⟩:=Ee.mp h;simp only[Rep] at p ⊢;obtain⟨a,rfl,q⟩:=p;obtain⟨vs,z,t⟩:=r.at' i a _ q hS;refine⟨a,vs,rfl,.inl (.inl ?_),qB.mapO (λd t v=>ih d t v) h1 t⟩;rw[mW (r.sep i a _ q hS (by intro z;cases z)) (Ec q)]
     exact z
    |_=>exact nn h
  |fd ks ds=>exact nn h
  |clo a vs ds=>exact nn h
  |_=>cases h;exact mono _ _ p
theorem ZD {P':Hp}{α':Aa Ad}(h:cJ d=true)(p:Rep K P α d v):Rep K P' α' d v:=by
 cases d with
 |non=>simpa only [Rep] using p
 |bl b=>simpa only [Rep] using p
 |int i=>simpa only [Rep] using p
 |str x=>simpa only [Rep] using p
 |_=>cases h
end
noncomputable def bV:Af:=20
noncomputable def cX (r:Res D)(S:Sto):Res D:=match r with
 |.ok d _=>if cJ d then .ok d S else .bad
 |_=>.bad
theorem cY {X:Cx}{H P:Hp}{α:Aa Ad}{S:Sto}{r:Res D}(rl:Rel X.K H P α S)(af:qP X P α (cX r S) Q):qP X (vC H P α) α r Q:=by
 cases r with
 |ok d S' =>
  obtain⟨ha,af⟩:=y7 (X:=X) af;exact λv H' P' α' r' e1 e2 rp=>af v H' P α (rl.unfrz r' e1) (qD.refl _) (Bf _) (ZD ha rp)
 |ex c x S'=>exact An af
 |bad=>exact An af
section
variable {X:Cx}
noncomputable def bA (g:G2):G2:=λa b S=>match vG bV S a,vG bV S b with
 |some x,Ab y=>cX (g x y (u4 S)) S
 |_,_=>.bad
set_option tactic.hygienic true in
theorem OpD.look {g:G2}(h:OpD X f g):OpD X f (bA g):=by
 intro pins σ H s P α S v u vv uu a b Q I r rv ru pa pb af;unfold bA at af
 split at af
 .rename_i x y hx hy
  exact h pins σ H s _ α (u4 S) v u vv uu x y Q I r.frz rv ru (eX r bV a x v hx pa) (eX r bV b y u hy pb) (cY r af)
 .exact An af
variable {cm:Ap}{k:Af}{f:Ad}{fd:Et}{ps:Aa Ao}{F:DF}{x:Ao}{p pos:Eg}{e:Bn}{es:Aa Bn}{fa:DA}{n:Af}
end
noncomputable def wK (t:DT)(f:DS):Af->qC->Sto->Out
 |0,_,_=>.bad
 |n+1,env,S=>(t env S).toS env λb S1=>if b then (match f env S1 with
   |.nx env2 S2=>wK t f n env2 S2
   |.ct env2 S2=>wK t f n env2 S2
   |.bk env2 S2=>.nx env2 S2
   |o=>o) else .nx env S1
theorem i9:∃ n:Af,n=2 ^ 60:=⟨_,rfl⟩
def big:Af:=Jz i9
theorem fL:big=2 ^ 60:=Ji i9
def vS (t:DT)(f:DS):DS:=λenv S=>wK t f big env S
section
variable {X:Cx}{pos:Eg}
inductive WhI (X:Cx)(P:Hp)(α : Aa Ad)(t:DT)(f:DS)(D:Ends)(m:Af)(σ : _L.St)(H:Hp):Prop
 |mk (P2:Hp) (α2:Aa Ad) (env2:qC) (S2:Sto) (r:Rel X.K H P2 α2 S2) (re:z0 X.K P2 α2 σ env2) (e1:qD P P2) (e2:α<+:α2) (af:qQ X P2 α2 (wK t f m env2 S2) D):WhI X P α t f D m σ H
theorem X8 {c:Bn}{body:Aa Fb}{t:DT}{f:DS}(hp:Nj (Ba X.prog X.w) X.A X.env X.xe)(hc:PT X c (tDT X t))(hb:PSs X body (tDS X f)):PS X (.While c body [] pos) (tDS X (vS t f)):=
 psW (WS hp hc hb) λD σ H ⟨P,α,env,S,r,re,af⟩=>by
  refine⟨WhI X P α t f D,⟨big,P,α,env,S,r,re,qD.refl _,Bf _,af⟩,?_⟩;rintro m σ2 H2 ⟨P2,α2,env2,S2,r2,re2,e1,e2,af2⟩;cases m with
  |zero=>exact An af2
  |succ m =>
   have af3:=zZ af2;refine⟨P2,α2,env2,S2,r2,re2,?_⟩;cases q:t env2 S2 with
   |bad=>rw[q] at af3;exact af3
   |ex c x S'=>rw[q] at af3;exact af3
   |ok b S3 =>
    rw[q] at af3;intro H3 P3 α3 r3 e3 e4;have af4:qQ X P3 α3 (if b then (match f env2 S3 with|.nx env2 S2=>wK t f m env2 S2|.ct env2 S2=>wK t f m env2 S2|.bk env2 S2=>.nx env2 S2|o=>o) else .nx env2 S3) D:=qQ.base e3 e4 af3
    cases b with
    |false=>exact af4 σ2 H3 P3 α3 r3 (re2.mono e3 e4) (qD.refl _) (Bf _)
    |true =>
     simp only[Dm] at af4 ⊢;refine⟨WhI X P α t f D m,λσ' H' w=>⟨m,Ka _,w⟩,P3,α3,env2,S3,r3,re2.mono e3 e4,?_⟩;cases q2:f env2 S3 with
     |bad=>rw[q2] at af4;exact af4
     |ex c x env4 S4=>rw[q2] at af4;exact af4
     |rt d4 S4=>rw[q2] at af4;exact af4
     |bk env4 S4=>rw[q2] at af4;exact af4
     |nx env4 S4 =>
      rw[q2] at af4;exact λσ5 H5 P5 α5 r5 re5 e8 e9=>⟨P5,α5,env4,S4,r5,re5,(e1.trans e3).trans e8,(e2.trans e4).trans e9,qQ.base e8 e9 af4⟩
     |ct env4 S4 =>
      rw[q2] at af4;exact λσ5 H5 P5 α5 r5 re5 e8 e9=>⟨P5,α5,env4,S4,r5,re5,(e1.trans e3).trans e8,(e2.trans e4).trans e9,qQ.base e8 e9 af4⟩
end
section
variable {X:Cx}{a b c e:Bn}{pos:Eg}{fa fe:DE}
def HX (X:Cx)(g:G2):TIp:=λx y H Q=>∃ P α S a b,Rel X.K H P α S/\Rep X.K P α a x/\Rep X.K P α b y/\qP X P α (g a b S) Q
def IpD (X:Cx)(op:Mb)(g:G2):Prop:=PIp X op (HX X g)
noncomputable def wX (i:Af)(g:G2)(fe:DE):DS:=λenv S=>match env[i]? with
 |some (Ab x)=>(fe env S).toS env λy S1=>(g x y S1).toS env λz S2=>.nx (env.set i (Ab z)) S2
 |_=>.bad
set_option tactic.hygienic true in
theorem F2 {i:Af}{x:Ao}{op:Mb}{g:G2}{pos':Eg}(hN:X.N.Nodup)(he:PE X e (tD X fe))(ho:IpD X op g)(hi:X.N[i]? = Ab x:=by rfl)(hx:Loc X.env.scope x:=by first|exact Xl rfl|exact Vp rfl)
  (hf:X.fn x=true\/X.env.scope.names.lookup x=Ab .local:=by first|exact .inl rfl|exact .inr rfl|assumption):PS X (.AugAssign (.Name x pos') op e pos) (tDS X (wX i g fe)):=
 psW (TZ hN hi hx he ho hf) λD σ H ⟨P,α,env,S,r,re,af⟩=>by
  unfold wX at af
  split at af
  .rename_i d hd
   obtain⟨v,hv,pv⟩:=re.2 i d hd;refine⟨v,hv,P,α,env,S,r,re,?_⟩;have af1:=zZ af;cases q:fe env S with
   |bad=>rw[q] at af1;exact af1
   |ex c x S'=>rw[q] at af1;exact af1
   |ok y S1 =>
    rw[q] at af1;intro u H1 P1 α1 r1 e1 e2 rp;refine⟨P1,α1,S1,d,y,r1,Rep.mono e1 e2 _ _ pv,rp,?_⟩;have af2:=zZ (qQ.base e1 e2 af1);cases q2:g d y S1 with
    |bad=>rw[q2] at af2;exact af2
    |ex c x S'=>rw[q2] at af2;exact af2
    |ok z S2 =>
     rw[q2] at af2;exact λw H2 P2 α2 r2 e3 e4 rp2=>af2 _ H2 P2 α2 r2 (((re.mono e1 e2).mono e3 e4).set i rp2) e3 e4
  .exact An af
noncomputable def pX:G2:=i2 (λ_ _=>true) λi j=>.int (i+j)
theorem J9:IpD X .Add pX:=by
 intro pins s σ H x y v u Q I rx ry h;obtain⟨P,α,S,a,b,r,pa,pb,af⟩:=h;obtain⟨i,j,rfl,rfl,_,ok⟩:=b0 af;exact FM pins s σ H x y v u Q I rx ry ⟨i,j,zO pa,zO pb,xr ok r (by simp only[Rep])⟩
theorem JC:IpD X .Sub yS:=by
 intro pins s σ H x y v u Q I rx ry h;obtain⟨P,α,S,a,b,r,pa,pb,af⟩:=h;obtain⟨i,j,rfl,rfl,_,ok⟩:=b0 af;exact FN pins s σ H x y v u Q I rx ry ⟨i,j,zO pa,zO pb,xr ok r (by simp only[Rep])⟩
noncomputable def dE:G2:=i2 ZK λi j=>.int (i*2 ^ j.toNat)
theorem MV:OpD X (Dp .LShift) dE:=pF T9 (λi j h=>(Bp h:0<=j/\j<=1000000/\i.natAbs<2 ^ 64)) λP α i j=>by simp only[Rep]
noncomputable def wA (xs:Aa D)(lo hi:Al Ag):Aa D:=(xs.drop (_H.sIx xs.length 0 lo)).take (_H.sIx xs.length xs.length hi-_H.sIx xs.length 0 lo)
abbrev DO:=qC->Sto->Res (Al Ag)
def OkO (X:Cx)(P:Hp)(α : Aa Ad)(Q:Al Ag->Hp->Prop)(o:Al Ag)(S':Sto):Prop:=∀ H' P' α',Rel X.K H' P' α' S'->qD P P'->α<+:α'->Q o H'
def tDO (X:Cx)(f:DO):TO:=λσ H Q=>∃ P α env S,Rel X.K H P α S/\z0 X.K P α σ env/\qI X P α (f env S) (OkO X P α Q)
noncomputable def jS:DO:=λ_ S=>.ok none S
noncomputable def wZ (f:DE):DO:=λenv S=>(f env S).bind λd S1=>match d with
 |.int i=>.ok (Ab i) S1
 |_=>.bad
theorem UH:PO X none (tDO X jS):=λpins s σ H Q I ⟨P,α,env,S,r,re,af⟩=>KJ pins s σ H Q I (af H P α r (qD.refl _) (Bf _))
theorem UI (he:PE X e (tD X fe)):PO X (Ab e) (tDO X (wZ fe)):=by
 intro pins s σ H Q I h;obtain⟨P,α,env,S,r,re,af⟩:=h;refine KL (te:=tD X fe) he pins s σ H Q I ⟨P,α,env,S,r,re,?_⟩;have af':qI X P α ((fe env S).bind λd S1=>match d with|.int i=>.ok (Ab i) S1|_=>.bad) (OkO X P α Q):=af
 cases q:fe env S with
 |bad=>rw[q] at af';exact af'
 |ex c x S'=>rw[q] at af';exact af'
 |ok d S1 =>
  rw[q] at af';intro v H1 P1 α1 r1 e1 e2 rp;cases d with
  |int i=>exact⟨i,zO rp,af' H1 P1 α1 r1 e1 e2⟩
  |_=>exact An af'
theorem qB.cut {K:Ak}{P:Hp}{α:Aa Ad}(r:qB K P α ds vs)(lo hi:Al Ag):qB K P α (wA ds lo hi) (gT vs lo hi):=by
 unfold wA gT;rw[r.length];exact(r.drop _).take _
noncomputable def gSl (d:D)(lo hi:Al Ag)(S:Sto):Res D:=match d with
 |.lst xs=>.ok (.lst (wA xs lo hi)) S
 |.loc i=>match S[i]? with
  |some (.lst xs)=>.ok (.lst (wA xs lo hi)) S
  |_=>.bad
 |.tup xs=>.ok (.tup (wA xs lo hi)) S
 |_=>.bad
noncomputable def dSl (fe:DE)(fl fh:DO):DE:=λenv S=>(fe env S).bind λd S1=>(fl env S1).bind λlo S2=>(fh env S2).bind λhi S3=>gSl d lo hi S3
end
end _D
namespace _D
open PySem PySem.Spec PyProof.Rows _L _H
section
variable {prog:Bi}{w:Ca}{A:Br}{E:Ac->Ah->Prop}{s:Ah}
theorem gP {t sl:Ad}{items:Bj Ac}{vl vu:Ac}{lo hi:Al Ag}{Q:Ac->Ah->Prop}(ht:Oh s.heap t items)(hs:s.heap.IsSliceOf sl vl vu .none)(pl:O1 vl lo)(pu:O1 vu hi)
  (hw:sIx items.size 0 lo=0/\sIx items.size items.size hi=items.size) (h:Q (.ref t) s):Av (Ba prog w) A (OL (.ref t) (.ref sl)) Q E s:=by
 obtain⟨ob,hob,hcb,_⟩:=id hs;have hTs:s.TypeIs (.ref sl) "slice":=⟨ob,hob,hcb⟩;unfold OL
 try with_reducible refine Fl ?_
 first|refine Ai (AT ?_)|skip
 refine Ai (Ut ht.typeIs (by decide) ?_)
 refine Ai (En (name:=Eo "__getitem__") ht.typeIs El
  (Fg El ht.typeIs Su ?_ (Tu _ _)))
 show Av _ _ (O7 (.ref t) >>= _) _ _ s;refine Ai (tupleItemsOf_ ht ?_);refine Ai (Uf hTs ?_);rw[Bc (by decide)]
 refine Ai (uT hs pl pu ?_);show Av _ _ (if (((sIx items.size 0 lo:Af):Ag) == 0&&(1:Ag) == 1&&(sIx items.size items.size hi-sIx items.size 0 lo) == items.size)=true then _ else _) _ _ s
 rw[hw.1,hw.2,Bc (by simp)]
 unfold Xm;refine Ai (Ai (Uf ht.typeIs (AT ?_)));rw[Bc (by decide)]
 exact Ai (Gj (AT ⟨_,rfl,AT h⟩))
end
section
variable {X:Cx}{e:Bn}{fe:DE}{pos p2:Eg}
def HQ (X:Cx):V->Al Ag->Al Ag->Hp->VK->Prop:=λx lo hi H Q=>∃ P α S d,Rel X.K H P α S/\Rep X.K P α d x/\qP X P α (gSl d lo hi S) Q
theorem HU:SlR X (HQ X):=by
 intro pins s σ H x v vl vu lo hi sl Q I rx hs pl pu h;obtain⟨P,α,S,d,r,p,af⟩:=h;cases d with
 |lst xs =>
  simp only[Rep] at p;obtain⟨a,vs,rfl,q,t⟩:=p;exact hV pins s σ H _ v vl vu lo hi sl Q I rx hs pl pu ⟨a,vs,rfl,(xD r.sub q).l,λb hb=>vF r hb (qB.cut t lo hi) af⟩
 |loc i =>
  obtain⟨xs,hS,af⟩:=g9 (X:=X) (f:=λxs=>Res.ok (D.lst (wA xs lo hi)) S) af;simp only[Rep] at p;obtain⟨a,rfl,q⟩:=p;obtain⟨vs,z,t⟩:=r.at' i a _ q hS;exact hV pins s σ H _ v vl vu lo hi sl Q I rx hs pl pu ⟨a,vs,rfl,SqL.of z,λb hb=>vF r hb (qB.cut t lo hi) af⟩
 |tup xs =>
  have p0:=p;simp only[Rep] at p;obtain⟨a,vs,rfl,q,t⟩:=p;by_cases hw:sIx vs.length 0 lo=0/\sIx vs.length vs.length hi=vs.length
  .cases rx
   obtain⟨its,rv,ht,hz⟩:=I.tuple (xS r.sub q);have hlen:its.toArray.size=vs.length:=by rw[Bh];exact rv.length.symm
   refine⟨"tuple",_,El.lookup,ht.typeIs,gP ht hs pl pu (by rw[hlen];exact hw) ⟨.ref a,H,I,rfl,xr af r ?_⟩⟩
   have e:wA xs lo hi=xs:=by
    unfold wA;rw[t.length,hw.1,hw.2,<- t.length];simp
   rw[e];exact p0
  .exact L7 pins s σ H _ v vl vu lo hi sl Q I rx hs pl pu ⟨a,vs,rfl,xS r.sub q,hw,λb hb=>gA r hb (qB.cut t lo hi) af⟩
 |_=>exact An af
theorem X2 {lo hi:Al Bn}{fl fh:DO}(he:PE X e (tD X fe))(hl:PO X lo (tDO X fl))(hu:PO X hi (tDO X fh)):PE X (.Subscript e (.Slice lo hi none p2) pos) (tD X (dSl fe fl fh)):=
 peW (WN HU he hl hu) λσ H Q ⟨P,α,env,S,r,re,af⟩=>by
  refine⟨P,α,env,S,r,re,?_⟩;have af':qI X P α ((fe env S).bind λd S1=>(fl env S1).bind λlo S2=>(fh env S2).bind λhi S3=>gSl d lo hi S3) (OkV X P α Q):=af;cases q:fe env S with
  |bad=>rw[q] at af';exact af'
  |ex c x S'=>rw[q] at af';exact af'
  |ok d S1 =>
   rw[q] at af';intro v H1 P1 α1 r1 e1 e2 rp;refine⟨P1,α1,env,S1,r1,re.mono e1 e2,?_⟩;have af2:qI X P1 α1 ((fl env S1).bind λlo S2=>(fh env S2).bind λhi S3=>gSl d lo hi S3) (OkV X P1 α1 Q):=qP.base e1 e2 af';cases q2:fl env S1 with
   |bad=>rw[q2] at af2;exact af2
   |ex c x S'=>rw[q2] at af2;exact af2
   |ok l S2 =>
    rw[q2] at af2;intro H2 P2 α2 r2 e3 e4;refine⟨P2,α2,env,S2,r2,(re.mono e1 e2).mono e3 e4,?_⟩;have af3:qI X P2 α2 ((fh env S2).bind λhi S3=>gSl d l hi S3) (OkV X P2 α2 Q):=qP.base e3 e4 af2;cases q3:fh env S2 with
    |bad=>rw[q3] at af3;exact af3
    |ex c x S'=>rw[q3] at af3;exact af3
    |ok u S3 =>
     rw[q3] at af3;intro H3 P3 α3 r3 e5 e6;exact⟨P3,α3,S3,d,r3,Rep.mono (e3.trans e5) (e4.trans e6) _ _ rp,qP.base e5 e6 af3⟩
noncomputable def mX (d:D)(S:Sto):Res D:=match d with
 |.int i=>if i.natAbs.log2<1920 then .ok (.str (toString i)) S else .bad
 |.str x=>if x.length<=lim then .ok (.str x) S else .bad
 |_=>.bad
set_option tactic.hygienic true in
theorem BN (he:PE X e (tD X fe)):PE X (.FormattedValue e (-1) none pos) (tD X (d1 mX fe)):=by
 intro pins s σ H Q I h;obtain⟨P,α,env,S,r,re,af⟩:=h;refine FormattedValue_plain (thn (zL he I r re af) λvv s1 ⟨v,H1,P1,α1,d,S1,G1,af1⟩=>?_);have p:=G1.rep;have rv:=G1.val;have af2:=qP.base G1.same G1.pre af1;cases d with
 |int i =>
  simp only[mX] at af2
  split at af2
  .rename_i hd
   simp only[Rep] at p;subst p;obtain⟨t,rfl⟩:=rv;exact formatField_int_small hd ⟨.str _,H1,G1.inv.tok _,⟨_,rfl⟩,xr af2 G1.rel (by simp only[Rep])⟩
  .exact An af2
 |str x =>
  simp only[mX] at af2
  split at af2
  .rename_i hd
   simp only[Rep] at p;subst p;obtain⟨t,rfl⟩:=rv;exact formatField_str (λt' tk=>⟨.str _,H1,G1.inv.tok _,⟨_,rfl⟩,xr af2 G1.rel (by simp only[Rep])⟩) (by rw[<- zS];exact hd)
  .exact An af2
 |_=>exact An af2
noncomputable def lC (out:Ao):Aa DE->qC->Sto->Res D
 |[],_,S=>if out.length<=lim then .ok (.str out) S else .bad
 |p::ps,env,S=>(p env S).bind λd S1=>match d with
  |.str y=>if (out++y).length<=lim then lC (out++y) ps env S1 else .bad
  |_=>.bad
def PJ (X:Cx)(es:Aa Bn)(fs:Aa DE):Prop:=
 ∀ (out:Ao) (pins:Aa (Ad × Cg)) (s:Ah) (σ : _L.St) (H P:Hp) (α : Aa Ad) (env:qC) (S:Sto) (Q:VK),Inv X pins σ H s->Rel X.K H P α S->z0 X.K P α σ env->qP X P α (lC out fs env S) Q ->
  Av (Ba X.prog X.w) X.A (joinParts out (evalEach es X.env)) (EP X pins σ Q) X.xe s
theorem TR:PJ X [] []:=by
 intro out pins s σ H P α env S Q I r re af;obtain⟨hl,af⟩:=y7 (X:=X) af;exact joinParts_nil ⟨.str _,H,I.tok _,⟨_,rfl⟩,xr af r (by simp only[Rep])⟩ (by rw[<- zS];exact hl)
theorem KG {es:Aa Bn}{fs:Aa DE}(he:PE X e (tD X fe))(hr:PJ X es fs):PJ X (e::es) (fe::fs):=by
 intro out pins s σ H P α env S Q I r re af;have af:qI X P α ((fe env S).bind λd S1=>match d with|.str y=>if (out++y).length<=lim then lC (out++y) fs env S1 else .bad|_=>.bad) (OkV X P α Q):=af
 refine joinParts_cons (thn (zL he I r re af) λvv s1 ⟨v,H1,P1,α1,d,S1,G1,af1⟩=>?_);cases d with
 |str y =>
  have p:=G1.rep;simp only[Rep] at p;subst p;obtain⟨t,rfl⟩:=G1.val;obtain⟨hl,af1⟩:=y7 (X:=X) af1;exact⟨by rw[<- zS];exact hl,hr (out++y) pins s1 σ H1 P1 α1 env S1 Q G1.inv G1.rel G1.env (qP.base G1.same G1.pre af1)⟩
 |_=>exact An af1
noncomputable def cO (fs:Aa DE):DE:=λenv S=>lC Xq fs env S
theorem UA {v₁ v₂:Bn}{qE:Aa Bn}{fs:Aa DE}(h:PJ X (v₁::v₂::qE) fs):PE X (.JoinedStr (v₁::v₂::qE) pos) (tD X (cO fs)):=by
 intro pins s σ H Q I hq;obtain⟨P,α,env,S,r,re,af⟩:=hq;exact JoinedStr_many (h Xq pins s σ H P α env S Q I r re af)
end
end _D
namespace _D
open PySem PySem.Spec PyProof.Rows _L
variable {us:Aa Ac}{α:Aa Ad}{ns:Aa Ag}{N:Aa Ao}{its ds dsF:Aa D}{body:Aa Fb}{vs:Aa V}{Q:Ac->Ah->Prop}{m:Af}{Qa Qd:Ah->Prop}{o':Al (Af × MO)}{tp:Ap}{xs ys:Bj Ac}{h':Bs}{id:Dt}{S SF:Sto}{env envF:qC}
def zD (tp:Ap)(h:Bs)(it l:Ad)(k:Af):Prop:=if tp then h.IsTupleIter it l k else h.IsListIter it l k
def xI (tp:Ap)(h:Bs)(l:Ad)(xs:Bj Ac):Prop:=if tp then h.IsTuple l xs else h.IsList l xs
theorem zD.keep {h:Bs}{it l:Ad}{k:Af}(x:zD tp h it l k)(q:∀ o,h.get? it=Ab o->h'.get? it=Ab o):zD tp h' it l k:=by
 cases tp <;> (obtain⟨o,e,r⟩:=x;exact⟨o,q o e,r⟩)
theorem xI.keep {h:Bs}{l:Ad}(x:xI tp h l xs)(q:∀ o,h.get? l=Ab o->h'.get? l=Ab o):xI tp h' l xs:=by
 cases tp <;> (obtain⟨o,e,r⟩:=x;exact⟨o,q o e,r⟩)
theorem zD.there {h:Bs}{it l:Ad}{k:Af}(x:zD tp h it l k):∃ o,h.get? it=Ab o/\∀ v,o.data≠.cell v:=by
 cases tp <;> (obtain⟨o,e,_,d⟩:=x;exact⟨o,e,λv z=>by rw[d] at z;cases z⟩)
section
variable {prog:Bi}{w:Ca}{A:Br}{E:Ac->Ah->Prop}{s:Ah}
theorem WG {it t:Ad}{i:Af}{items:Bj Ac}{x:Ac}(hit:s.heap.IsTupleIter it t i)(ht:s.heap.IsTuple t items)(hx:items[i]? = Ab x)
  (hQ:∀ h',h'.IsTupleIter it t (i+1)->Fe it s.heap h'->Q x { s with heap:=h' }) : Av (Ba prog w) A (Dn (.ref it)) Q E s:=by
 obtain⟨o,e,c,d⟩:=id hit;obtain⟨u,eu,_,m,du⟩:=ht;unfold Dn;refine Ai (En (name:=Eo "__next__") hit.typeIs Hv (Fg Hv hit.typeIs Om ?_ (Od _)));show Av _ _ (field (.ref it) 0 >>= _) _ _ s;refine Ai (Dq e d (x:=.ref t) rfl ?_);show Av _ _ (if (Cf t == Df)=true then _ else _) _ _ s;rw[Aw (show ¬ ((Cf t == Df)=true) from IN)]
 show Av _ _ (field (.ref it) 1 >>= _) _ _ s;refine Ai (Dq e d (x:=.int i 0) rfl ?_);show Av _ _ (seqItems? (.ref t) >>= _) _ _ s;refine Ai (Fc eu du ?_);simp only[Hc,hx];refine Ai (wpAny_setField e d (by simp) (AT ⟨x,rfl,AT (hQ _ ⟨_,Jf _ e (Obj.isFreed_of_fields (Ua d _)),(Obj.cls_mapFields ..).trans c,?_⟩ (Tc ..))⟩))
 rw[Ua d];simp[Ga]
theorem dW {it t:Ad}{i:Af}{items:Bj Ac}{Q:Ac->Ah->Prop}(hh:A.handled=none)(hit:s.heap.IsTupleIter it t i)(ht:s.heap.IsTuple t items)(hx:items[i]? = none)
  (hE:∀ h' e,Yy it s.heap h'->(∃ o,h'.get? e=Ab o/\o.cls=.type "StopIteration")->E (.ref e) { s with heap:=h' }) : Av (Ba prog w) A (Dn (.ref it)) Q E s:=by
 obtain⟨o,e,c,d⟩:=id hit;obtain⟨u,eu,_,m,du⟩:=ht;unfold Dn;refine Ai (En (name:=Eo "__next__") hit.typeIs Hv (Fg Hv hit.typeIs Om ?_ (Od _)));show Av _ _ (field (.ref it) 0 >>= _) _ _ s;refine Ai (Dq e d (x:=.ref t) rfl ?_);show Av _ _ (if (Cf t == Df)=true then _ else _) _ _ s;rw[Aw (show ¬ ((Cf t == Df)=true) from IN)]
 show Av _ _ (field (.ref it) 1 >>= _) _ _ s;refine Ai (Dq e d (x:=.int i 0) rfl ?_);show Av _ _ (seqItems? (.ref t) >>= _) _ _ s;refine Ai (Fc eu du ?_);simp only[Hc,hx];refine Ai (Gj (Ai (wpAny_setField e d (by simp) ?_)))
 show Av _ _ (newExc (.type "StopIteration") [] >>= _) _ _ _;refine Ai ?_;simp only[newExc,newTuple];refine Ai (Fi ?_ (by size_fits))
 refine Ai (m:=firstArgMember _ _) (wpAny_of_eq (a:=Df) (by first|rfl|(simp only[firstArgMember];rfl)) (Fi ?_ (by size_fits)))
 simp only[raiseNew];refine Ai (wpAny_handled ?_)
 first|rw[show A.in1.handled=none from hh]|rw[hh]
 exact Ai (AT (wpAny_throw (hE _ _ (((Tc ..).extBut.push _).push _) ⟨_,Be _ rfl,rfl⟩)))
theorem kY {it l:Ad}{k:Af}{x:Ac}(hit:zD tp s.heap it l k)(hl:xI tp s.heap l xs)(hx:xs[k]? = Ab x)
  (hQ:∀ h',zD tp h' it l (k+1)->Fe it s.heap h'->Q x { s with heap:=h' }) : Av (Ba prog w) A (Dn (.ref it)) Q E s:=by
 cases tp with
 |false=>exact wpAny_nextOf_list_item hit hl hx hQ
 |true=>exact WG hit hl hx hQ
theorem uP {it l:Ad}{k:Af}{Q:Ac->Ah->Prop}(hh:A.handled=none)(hit:zD tp s.heap it l k)(hl:xI tp s.heap l xs)(hx:xs[k]? = none)
  (hE:∀ h' e,Yy it s.heap h'->(∃ o,h'.get? e=Ab o/\o.cls=.type "StopIteration")->E (.ref e) { s with heap:=h' }) : Av (Ba prog w) A (Dn (.ref it)) Q E s:=by
 cases tp with
 |false=>exact wpAny_nextOf_list_end hh hit hl hx hE
 |true=>exact dW hh hit hl hx hE
structure ZA (z I O i j:Ad):Prop where
 Iz:I≠z
 Oz:O≠z
 iz:i≠z
 jz:j≠z
 IO:I≠O
 Ii:I≠i
 Ij:I≠j
 Oi:O≠i
 Oj:O≠j
 ij:i≠j
structure Off (z O i j a:Ad):Prop where
 z:a≠z
 O:a≠O
 i:a≠i
 j:a≠j
abbrev Z8 (z O i j:Ad)(h h':Bs):Prop:=∀ c o,c≠z->c≠O->c≠i->c≠j->h.get? c=Ab o->h'.get? c=Ab o
theorem YQ {tq:Ap}{z I O i j a b:Ad}{k:Af}{x y p q:Ac}(D:ZA z I O i j)(Da:Off z O i j a)(Db:Off z O i j b)
  (hz:On s.heap z I O .none) (hI:Hw s.heap I (.ref i) (.ref j)) (hO:Hw s.heap O p q) (h1:zD tp s.heap i a k) (h2:zD tq s.heap j b k) (ha:xI tp s.heap a xs) (hb:xI tq s.heap b ys) (hx:xs[k]? = Ab x) (hy:ys[k]? = Ab y)
  (hQ:∀ h',On h' z I O (Ga s.heap.objs.size)->Hw h' O x y->zD tp h' i a (k+1)->zD tq h' j b (k+1)->Hw h' s.heap.objs.size x y->h'.objs.size=s.heap.objs.size+1->Z8 z O i j s.heap h'->Q (.ref s.heap.objs.size) { s with heap:=h' }) :
  Av (Ba prog w) A (Mm.«zip.__next__» ⟨[.ref z],[]⟩) (λfin s'=>∃ v,fin=.done (.ret v)/\Q v s') E s:=by
 show Av _ _ (field (.ref z) 2 >>= _) _ _ _;refine Ai (Dq hz rfl (x:=.bool false) rfl ?_);show Av _ _ (field (.ref z) 3 >>= _) _ _ _;refine Ai (Dq hz rfl (x:=.ref I) rfl (Ai (Fc hI rfl ?_)));show Av _ _ (Dv (.ref z) >>= _) _ _ _;refine Ai ?_;unfold Dv;refine Ai (Dq hz rfl (x:=.none) rfl (AT ?_));simp only[Dm];refine Ai (Gj (Ai (Dq hz rfl (x:=.ref O) rfl (Ai (Eh hz (by simp) λg1 z1 s1=>?_)))))
 replace z1:On g1 z I O .ellipsis:=z1
 refine Ai ?_;simp only[Pl,Wj,Kz,Ly];refine Ai (Ai (OR ?_));show Av _ _ (Dn (.ref i) >>= _) _ _ _;refine Ai (kY (h1.keep λo e=>s1.extBut _ _ D.iz e) (ha.keep λo e=>s1.extBut _ _ Da.z e) hx λg2 i2 s2=>AT ?_);have O2:Hw g2 O p q:=s2.extBut _ _ D.Oi (s1.extBut _ _ D.Oz hO);refine Ai (Fc O2 rfl (Ai (Nc O2 λg3 O3 s3=>Ai (Jj (AT ?_)))))
 replace O3:Hw g3 O x q:=O3
 refine Ai (Ai (OR ?_));show Av _ _ (Dn (.ref j) >>= _) _ _ _;refine Ai (kY (h2.keep λo e=>s3.extBut _ _ D.Oj.symm (s2.extBut _ _ D.ij.symm (s1.extBut _ _ D.jz e))) (hb.keep λo e=>s3.extBut _ _ Db.O (s2.extBut _ _ Db.i (s1.extBut _ _ Db.z e))) hy λg4 j4 s4=>AT ?_);have O4:Hw g4 O x q:=s4.extBut _ _ D.Oj O3;refine Ai (Fc O4 rfl (Ai (Nc O4 λg5 O5 s5=>Ai (Jj (AT (AT ?_))))))
 replace O5:Hw g5 O x y:=O5
 refine Ai (Fc O5 rfl (Ai (Rw ?_)));have sz:g5.objs.size=s.heap.objs.size:=by rw[s5.1,s4.1,s3.1,s2.1,s1.1]
 have z5:On g5 z I O .ellipsis:=s5.extBut _ _ D.Oz.symm (s4.extBut _ _ D.jz.symm (s3.extBut _ _ D.Oz.symm (s2.extBut _ _ D.iz.symm z1)));have k5:Z8 z O i j s.heap g5:=λc o c1 c2 c3 c4 e=>s5.extBut _ _ c2 (s4.extBut _ _ c4 (s3.extBut _ _ c2 (s2.extBut _ _ c3 (s1.extBut _ _ c1 e))));have i5:zD tp g5 i a (k+1):=i2.keep λo e=>s5.extBut _ _ D.Oi.symm (s4.extBut _ _ D.ij (s3.extBut _ _ D.Oi.symm e));have j5:zD tq g5 j b (k+1):=j4.keep λo e=>s5.extBut _ _ D.Oj.symm e;have zl:z<g5.objs.size:=Ay z5;show Av _ _ (Fw (.ref z) (.ref g5.objs.size) >>= _) _ _ _;refine Ai ?_;unfold Fw;have z6:On (g5.push { cls:=.type "tuple",data:=.seq #[x,y] }) z I O .ellipsis:=Aj _ z5;refine Ai (Eh z6 (by simp) λg7 z7 s7=>?_)
 replace z7:On g7 z I O (Ga g5.objs.size):=z7
 refine Eh z7 (by simp) λg8 z8 s8=>?_
 replace z8:On g8 z I O (Ga g5.objs.size):=z8
 have up:∀ c o,c≠z->g5.get? c=Ab o->g8.get? c=Ab o:=λc o c1 e=>s8.extBut _ _ c1 (s7.extBut _ _ c1 (Aj _ e));have T8:Hw g8 g5.objs.size x y:=s8.extBut _ _ (Ia zl) (s7.extBut _ _ (Ia zl) (Be _ rfl));have sz8:g8.objs.size=g5.objs.size+1:=by rw[s8.1,s7.1,Ea]
 rw[sz] at z8 T8 sz8;refine AT ⟨_,rfl,?_⟩;show Q (.ref g5.objs.size) _;rw[sz];exact hQ g8 z8 (up _ _ D.Oz O5) (i5.keep λo e=>up _ o D.iz e) (j5.keep λo e=>up _ o D.jz e) T8 sz8 λc o c1 c2 c3 c4 e=>up c o c1 (k5 c o c1 c2 c3 c4 e)
end
section
variable {prog:Bi}{w:Ca}{A:Br}{E:Ac->Ah->Prop}{s:Ah}
theorem YR {tq:Ap}{z I O i j a b:Ad}{k:Af}{p q:Ac}{Q:Fin->Ah->Prop}(hh:A.handled=none)(D:ZA z I O i j)(Da:Off z O i j a)(Db:Off z O i j b)
  (hz:On s.heap z I O .none) (hI:Hw s.heap I (.ref i) (.ref j)) (hO:Hw s.heap O p q) (h1:zD tp s.heap i a k) (h2:zD tq s.heap j b k) (ha:xI tp s.heap a xs) (hb:xI tq s.heap b ys) (hend:xs[k]? = none\/ys[k]? = none)
  (hE:∀ h' e,Z8 z O i j s.heap h'->(∃ o,h'.get? e=Ab o/\o.cls=.type "StopIteration")->E (.ref e) { s with heap:=h' }) : Av (Ba prog w) A (Mm.«zip.__next__» ⟨[.ref z],[]⟩) Q E s:=by
 show Av _ _ (field (.ref z) 2 >>= _) _ _ _;refine Ai (Dq hz rfl (x:=.bool false) rfl ?_);show Av _ _ (field (.ref z) 3 >>= _) _ _ _;refine Ai (Dq hz rfl (x:=.ref I) rfl (Ai (Fc hI rfl ?_)));show Av _ _ (Dv (.ref z) >>= _) _ _ _;refine Ai ?_;unfold Dv;refine Ai (Dq hz rfl (x:=.none) rfl (AT ?_));simp only[Dm];refine Ai (Gj (Ai (Dq hz rfl (x:=.ref O) rfl (Ai (Eh hz (by simp) λg1 z1 s1=>?_)))))
 replace z1:On g1 z I O .ellipsis:=z1
 refine Ai ?_;simp only[Pl,Wj,Kz,Ly];refine Ai (Ai (OR ?_));show Av _ _ (Dn (.ref i) >>= _) _ _ _;have it1:zD tp g1 i a k:=h1.keep λo e=>s1.extBut _ _ D.iz e;have sq1:xI tp g1 a xs:=ha.keep λo e=>s1.extBut _ _ Da.z e;cases hx:xs[k]? with
 |none =>
  refine Ai (uP hh it1 sq1 hx λg2 e x2 he=>?_);obtain⟨oe,h3,h4⟩:=he;have z2:On g2 z I O .ellipsis:=x2 _ _ D.iz.symm z1;have ne:e≠z:=λy=>by subst y;rw[z2] at h3;cases h3;simp at h4
  exact Eh z2 (by simp) λg3 _ s3=>hE g3 e (λc o c1 _ c3 _ y=>s3.extBut _ _ c1 (x2 _ _ c3 (s1.extBut _ _ c1 y))) ⟨oe,s3.extBut _ _ ne h3,h4⟩
 |some x =>
  have hy:ys[k]? = none:=by
   rcases hend with y|y
   .rw[hx] at y;cases y
   .exact y
  refine Ai (kY it1 sq1 hx λg2 i2 s2=>AT ?_);have O2:Hw g2 O p q:=s2.extBut _ _ D.Oi (s1.extBut _ _ D.Oz hO);refine Ai (Fc O2 rfl (Ai (Nc O2 λg3 O3 s3=>Ai (Jj (AT ?_)))));refine Ai (Ai (OR ?_));show Av _ _ (Dn (.ref j) >>= _) _ _ _;refine Ai (uP hh (h2.keep λo e=>s3.extBut _ _ D.Oj.symm (s2.extBut _ _ D.ij.symm (s1.extBut _ _ D.jz e))) (hb.keep λo e=>s3.extBut _ _ Db.O (s2.extBut _ _ Db.i (s1.extBut _ _ Db.z e))) hy λg4 e x4 he=>?_);obtain⟨oe,h3,h4⟩:=he;have z4:On g4 z I O .ellipsis:=x4 _ _ D.jz.symm (s3.extBut _ _ D.Oz.symm (s2.extBut _ _ D.iz.symm z1));have ne:e≠z:=λy=>by subst y;rw[z4] at h3;cases h3;simp at h4
  exact Eh z4 (by simp) λg5 _ s5=>hE g5 e (λc o c1 c2 c3 c4 y=>s5.extBut _ _ c1 (x4 _ _ c4 (s3.extBut _ _ c2 (s2.extBut _ _ c3 (s1.extBut _ _ c1 y))))) ⟨oe,s5.extBut _ _ ne h3,h4⟩
noncomputable abbrev vN (tp:Ap)(l:Ad):Cg:={ cls:=.type (if tp then "tuple_iterator" else "list_iterator"),data:=.fields #[.ref l,.int 0 0] }
noncomputable abbrev zh1 (tp:Ap)(h:Bs)(a:Ad):Bs:=h.push (vN tp a)
noncomputable abbrev zh2 (tp tq:Ap)(h:Bs)(a b:Ad):Bs:=(zh1 tp h a).push (vN tq b)
noncomputable abbrev zh3 (tp tq:Ap)(h:Bs)(a b:Ad):Bs:=(zh2 tp tq h a b).push { cls:=.type "tuple",data:=.seq #[.ref h.objs.size,.ref (zh1 tp h a).objs.size] }
noncomputable abbrev zh4 (tp tq:Ap)(h:Bs)(a b:Ad):Bs:=(zh3 tp tq h a b).push { cls:=.type "tuple",data:=.seq #[.none,.none] }
noncomputable abbrev zh5 (tp tq:Ap)(h:Bs)(a b:Ad):Bs:=(zh4 tp tq h a b).push { cls:=.type "zip",data:=.fields #[.none,.bool false,.bool false,.ref (zh2 tp tq h a b).objs.size,.ref (zh3 tp tq h a b).objs.size] }
set_option maxHeartbeats 4000000 in
theorem PL (tp:Ap)(a b:Ad)(xs ys:Bj Ac) :
  Meets (Mm.«zip.__new__» ⟨[.type "zip",.ref a,.ref b],[]⟩) (λ_ R s=>xI tp s.heap a xs/\xI tp s.heap b ys/\R (.ok (.ret (.ref (zh4 tp tp s.heap a b).objs.size))) { s with heap:=zh5 tp tp s.heap a b }):=
 .of_wp λprog w A R s h=>by
  obtain⟨hp,g,d,tk,os⟩:=s;obtain⟨q1,q2,h⟩:=h;have hsub:=sub_zip;have e2:∀ ob:Cg,xI tp (hp.push ob) b ys:=λob=>q2.keep λo e=>Aj _ e;cases tp
  .have l1:Vt (Mt ⟨hp,g,d,tk,os⟩) a xs:=q1
   have l2:Vt (Mt ⟨hp.push { cls:=.type "list_iterator",data:=.fields #[.ref a,.int 0 0] },g,d,tk,os⟩) b ys:=e2 _
   wp_walk using EQ l1,EQ l2
   exact⟨_,rfl,h⟩
  .have l1:Ui (Mt ⟨hp,g,d,tk,os⟩) a xs:=q1
   have l2:Ui (Mt ⟨hp.push { cls:=.type "tuple_iterator",data:=.fields #[.ref a,.int 0 0] },g,d,tk,os⟩) b ys:=e2 _
   wp_walk using Fy l1,Fy l2
   exact⟨_,rfl,h⟩
theorem kS {h:Bs}{it l:Ad}(e:h.get? it=Ab (vN tp l)):zD tp h it l 0:=by
 cases tp
 .exact⟨_,e,rfl,rfl⟩
 .exact⟨_,e,rfl,rfl⟩
theorem ZN {a b:Ad}(ha:xI tp s.heap a xs)(hb:xI tp s.heap b ys)
  (h:∀ h',On h' (s.heap.objs.size+4) (s.heap.objs.size+2) (s.heap.objs.size+3) .none->Hw h' (s.heap.objs.size+2) (.ref s.heap.objs.size) (.ref (s.heap.objs.size+1)) ->
   Hw h' (s.heap.objs.size+3) .none .none->zD tp h' s.heap.objs.size a 0->zD tp h' (s.heap.objs.size+1) b 0->h'.objs.size=s.heap.objs.size+5->(∀ c o,s.heap.get? c=Ab o->h'.get? c=Ab o)->Q (.ref (s.heap.objs.size+4)) { s with heap:=h' }) :
  Av (Ba prog w) A (call (.type "zip") [.ref a,.ref b]) Q E s:=by
 refine callType_new F.called_zip (by decide) (F.typeCall_zip_2 _ _) (F.newCall_zip_2 _ _) (λobj=>F.args_object_init_3 obj _ _) F.entry_zip_new (PL tp a b xs ys) ⟨ha,hb,?_⟩
 have y1:(zh1 tp s.heap a).objs.size=s.heap.objs.size+1:=Ea ..;have y2:(zh2 tp tp s.heap a b).objs.size=s.heap.objs.size+2:=by rw[Ea,y1]
 have y3:(zh3 tp tp s.heap a b).objs.size=s.heap.objs.size+3:=by rw[Ea,y2]
 have y4:(zh4 tp tp s.heap a b).objs.size=s.heap.objs.size+4:=by rw[Ea,y3]
 have y5:(zh5 tp tp s.heap a b).objs.size=s.heap.objs.size+5:=by rw[Ea,y4]
 have g5:(zh5 tp tp s.heap a b).get? (zh4 tp tp s.heap a b).objs.size=Ab _:=Be _ rfl;have g4:(zh5 tp tp s.heap a b).get? (zh3 tp tp s.heap a b).objs.size=Ab _:=Aj _ (Be _ rfl);have g3:(zh5 tp tp s.heap a b).get? (zh2 tp tp s.heap a b).objs.size=Ab _:=Aj _ (Aj _ (Be _ rfl));have g2:(zh5 tp tp s.heap a b).get? (zh1 tp s.heap a).objs.size=Ab (vN tp b):=Aj _ (Aj _ (Aj _ (Be _ rfl)));have g1:(zh5 tp tp s.heap a b).get? s.heap.objs.size=Ab (vN tp a):=Aj _ (Aj _ (Aj _ (Aj _ (Be _ rfl))));have kp:∀ c o,s.heap.get? c=Ab o->(zh5 tp tp s.heap a b).get? c=Ab o:=λc o e=>Aj _ (Aj _ (Aj _ (Aj _ (Aj _ e))));show _/\_;rw[y2,y3,y4] at g5;rw[y1,y2] at g3;rw[y3] at g4;rw[y1] at g2;rw[y4];exact⟨⟨_,g5,rfl⟩,h _ g5 g3 g4 (kS g1) (kS g2) y5 kp⟩
end
def Sq (tp:Ap)(K:Ak)(H:Hp)(a:Ad)(xs:Aa V):Prop:=if tp then SqT K H a xs else SqL K H a xs
section
variable {X:Cx}{pins:Aa (Ad × Cg)}{σ : _L.St}{H:Hp}{s:Ah}
theorem Sq.at {a:Ad}{xs:Aa V}(I:Inv X pins σ H s)(q:Sq tp X.K H a xs):∃ its,qH xs its/\xI tp s.heap a its.toArray:=by
 cases tp with
 |true =>
  obtain⟨its,rv,p,_⟩:=I.tuple q;exact⟨its,rv,p⟩
 |false =>
  obtain⟨its,rv,p,_⟩:=I.list q;exact⟨its,rv,p.isList⟩
theorem Sq.inj {a:Ad}{xs ys:Aa V}(I:Inv X pins σ H s)(q:Sq tp X.K H a xs)(q':Sq tp X.K H a ys):xs=ys:=by
 cases tp with
 |true=>exact I.tuple_inj q q'
 |false=>exact I.list_inj q q'
theorem Sq.off {a b:Ad}{xs:Aa V}(I:Inv X pins σ H s)(q:Sq tp X.K H a xs)(f:x8 X pins H b):a≠b:=by
 have key:H a≠none\/∃ o,X.K.lookup a=Ab o:=by
  cases tp with
  |true =>
   rcases q with (q|⟨o,q⟩)|⟨o,_,_,q,_⟩
   .exact .inl (by rw[q];intro z;cases z)
   .exact .inl (by rw[q];intro z;cases z)
   .exact .inr ⟨_,q⟩
  |false =>
   rcases q with (q|⟨o,q⟩)|⟨o,_,_,q,_⟩
   .exact .inl (by rw[q];intro z;cases z)
   .exact .inl (by rw[q];intro z;cases z)
   .exact .inr ⟨_,q⟩
 rintro rfl;rcases key with k|⟨o,k⟩
 .exact k f.1
 .have e:=I.mod.kin a o k
  rcases f.2.2.2.1 with z|z
  .exact I.ok.noex a o e z
  .exact absurd (Ay (I.ok.bs a o e).1) (Oc.mpr z)
theorem Inv.turnLay {fp:Aa Ad}{T:Ad}{xs:Aa V}{its:Aa Ac}(I:Inv X pins σ H s)(hf:∀ b∈fp,x8 X pins H b)(k:∀ b o,b ∉ fp->s.heap.get? b=Ab o->h'.get? b=Ab o)(th:∀ b∈fp,∃ o,h'.get? b=Ab o)
  (hT:s.heap.objs.size<=T) (rv:qH xs its) (hx:Oh h' T its.toArray) (hz:xs.length<=sizeLine):Inv X pins σ (upd H T (.tup xs)) { s with heap:=h' }:=by
 have hn:H T=none:=I.hok.fresh hT;have ne:∀ b o,s.heap.get? b=Ab o->b≠T:=λb o e=>Cn (Bd (Ay e) hT);refine I.step (g':=s.gens) (d':=s.drawn) (t':=s.toks) (ch:=fp) (λb hb=>⟨(hf b hb).2.2.2.1,(hf b hb).2.1,(hf b hb).2.2.2.2.1,(hf b hb).2.2.2.2.2⟩) (λb o _ _ hc e _=>k b o hc e) (λb o _ _ hc e _=>⟨o.slots,k b o hc e⟩)
  (λb o _ e n=>by rw[qG (ne b o e)];exact n) (λb o hc e=>⟨o,k b o hc e⟩) (λb ys e=>by rw[qG (qT e hn)];exact e) (λb o u e=>by rw[qG (qT e hn)];exact e)
  (λb ps e=>⟨#[],by rw[qG (qT e hn),e];simp⟩) (λm hm=>?_) (λb u e=>?_) I.bare
 .obtain⟨o,es,ep,ho,r⟩:=hm
  exact⟨o,es,ep,k _ o (λz=>(hf _ z).2.1 rfl) ho,r⟩
 .by_cases hb:b=T
  .subst hb
   rw[qV] at e;cases e;exact⟨hz,its,rv,hx⟩
  .rw[qG hb] at e
   refine(I.hok b u e).stay (λc v hc q=>k c v (λz=>?_) q) (λc q=>by rw[qG (qT q hn)];exact q) λc ys q=>by rw[qG (qT q hn)];exact q
   have hcn:=(hf c z).1;rcases hc with rfl|hc
   .rw[hcn] at e;cases e
   .rw[hcn] at hc;cases hc
theorem Inv.turnL {fp:Aa Ad}(I:Inv X pins σ H s)(hf:∀ b∈fp,x8 X pins H b)(k:∀ b o,b ∉ fp->s.heap.get? b=Ab o->h'.get? b=Ab o):Inv X pins σ H { s with heap:=h' }:=by
 refine I.step (g':=s.gens) (d':=s.drawn) (t':=s.toks) (ch:=fp) (λb hb=>⟨(hf b hb).2.2.2.1,(hf b hb).2.1,(hf b hb).2.2.2.2.1,(hf b hb).2.2.2.2.2⟩) (λb o _ _ hc e _=>k b o hc e) (λb o _ _ hc e _=>⟨o.slots,k b o hc e⟩)
  (λb o _ e n=>n) (λb o hc e=>⟨o,k b o hc e⟩) (λb ys e=>e) (λb o u e=>e) (λb ps e=>⟨#[],by rw[e];simp⟩) (λm hm=>?_) (λb u e=>?_) I.bare
 .obtain⟨o,es,ep,ho,r⟩:=hm
  exact⟨o,es,ep,k _ o (λz=>(hf _ z).2.1 rfl) ho,r⟩
 .refine(I.hok b u e).stay (λc v hc q=>k c v (λz=>?_) q) (λc q=>q) λc ys q=>q
  have hcn:=(hf c z).1;rcases hc with rfl|hc
  .rw[hcn] at e;cases e
  .rw[hcn] at hc;cases hc
end
noncomputable def Itz (tp:Ap)(K:Ak)(a b:Ad):It:=
  ⟨λi H=>∃ xs ys x y,Sq tp K H a xs/\Sq tp K H b ys/\xs[i]? = Ab x/\ys[i]? = Ab y,
   λi H v H'=>∃ T x y,v=.ref T/\H T=none/\H'=upd H T (.tup [x,y])/\(∀ xs,Sq tp K H a xs->xs[i]? = Ab x)/\∀ ys,Sq tp K H b ys->ys[i]? = Ab y,
   λi H=>∃ xs ys,Sq tp K H a xs/\Sq tp K H b ys/\(xs.length<=i\/ys.length<=i)⟩
def cH (tp:Ap)(z I O i j a b:Ad)(k:Af)(h:Bs):Prop:=∃ p q,On h z I O .none/\Hw h I (.ref i) (.ref j)/\Hw h O p q/\zD tp h i a k/\zD tp h j b k
theorem pP {z I O i j a b:Ad}{k:Af}{h:Bs}(st:cH tp z I O i j a b k h):∀ c∈[z,I,O,i,j],∃ o,h.get? c=Ab o/\∀ v,o.data≠.cell v:=λc hc=>by
 obtain⟨p,q,s1,s2,s3,s4,s5⟩:=st;simp only[Bg,Dg,Ik] at hc;rcases hc with rfl|rfl|rfl|rfl|rfl
 .exact⟨_,s1,λv y=>by cases y⟩
 .exact⟨_,s2,λv y=>by cases y⟩
 .exact⟨_,s3,λv y=>by cases y⟩
 .exact s4.there
 .exact s5.there
theorem V8 {c z I O i j:Ad}(h:c ∉ [z,I,O,i,j]):c≠z/\c≠O/\c≠i/\c≠j:=by
 simp only[Bg,Dg,Ik,Tn] at h;exact⟨h.1,h.2.2.1,h.2.2.2.1,h.2.2.2.2⟩
theorem YJ {P:Bi}{w:Ca}{K:Ak}{elts:Aa Bn}{x1:Af}{tpos:Eg}{z I O i j a b:Ad}(D:ZA z I O i j):Turn P w K (.Tuple elts x1 tpos) (Itz tp K a b) [z,I,O,i,j] z (cH tp z I O i j a b) where
 mem:=.head _
 obj:=λk h st=>pP st
 keep:=λk h h' st kp=>by
  obtain⟨p,q,s1,s2,s3,s4,s5⟩:=st;exact⟨p,q,kp z (.head _) _ s1,kp I (.tail _ (.head _)) _ s2,kp O (.tail _ (.tail _ (.head _))) _ s3,s4.keep λo e=>kp i (.tail _ (.tail _ (.tail _ (.head _)))) o e,s5.keep λo e=>kp j (.tail _ (.tail _ (.tail _ (.tail _ (.head _))))) o e⟩
 item:=by
  intro X hP hw hK hc k pins s σ H E Iv hf st hg;subst hP hw hK;obtain⟨p,q,s1,s2,s3,s4,s5⟩:=st;obtain⟨xs,ys,x,y,qa,qb,hx,hy⟩:=hg;obtain⟨ia,ra,ha⟩:=qa.at Iv;obtain⟨ib,rb,hb⟩:=qb.at Iv;obtain⟨u,hu,ru⟩:=ra.get hx;obtain⟨u',hu',ru'⟩:=rb.get hy;have off:∀ {c:Ad} {zs:Aa V},Sq tp X.K H c zs->Off z O i j c:=λ{c zs} qc=>⟨qc.off Iv (hf z (.head _)),qc.off Iv (hf O (.tail _ (.tail _ (.head _)))),qc.off Iv (hf i (.tail _ (.tail _ (.tail _ (.head _))))),qc.off Iv (hf j (.tail _ (.tail _ (.tail _ (.tail _ (.head _))))))⟩;have hT:s.TypeIs (.ref z) "zip":=⟨_,s1,rfl⟩;unfold Pe;refine Ai (Mu (En (name:=Eo "__next__") hT No (Fg No hT Vu
   (YQ D (off qa) (off qb) s1 s2 s3 s4 s5 ha hb (by simpa using hu) (by simpa using hu') λh' a1 a2 a3 a4 a5 a6 a7=>AT ?_) (Uz _))))
  refine⟨_,rfl,wpAny_letOwnedTupleGo_zip (s:={ s with heap:=h' }) a1 λh2 b1 b2=>?_⟩
  have up:∀ c o,c≠z->h'.get? c=Ab o->h2.get? c=Ab o:=λc o n e=>(b2.2 c n).trans e;have zl:z<s.heap.objs.size:=Ay s1;have T2:Hw h2 s.heap.objs.size u u':=up _ _ (Ia zl) a5;have st2:cH tp z I O i j a b (k+1) h2:=⟨u,u',b1,up _ _ D.Iz (a7 I _ D.Iz D.IO D.Ii D.Ij s2),up _ _ D.Oz a2,a3.keep λo e=>up _ o D.iz e,a4.keep λo e=>up _ o D.jz e⟩;refine⟨.ref s.heap.objs.size,upd H s.heap.objs.size (.tup [x,y]),?_,rfl,⟨_,x,y,rfl,Iv.hok.fresh (Ax _),rfl,λzs qz=>by rw[qz.inj Iv qa];exact hx,λzs qz=>by rw[qz.inj Iv qb];exact hy⟩,st2,λc hc=>?_⟩
  .show _L.Inv X pins σ (upd H s.heap.objs.size (.tup [x,y])) { s with heap:=h2 }
   refine Inv.turnLay (fp:=[z,I,O,i,j]) (its:=[u,u']) Iv hf (λc o hc e=>?_) (λc hc=>?_) (Ax _) (.cons ru (.cons ru' .nil)) ⟨_,T2,rfl,_,rfl⟩ (by show 2<=sizeLine;decide)
   .have hc:=V8 hc
    exact up c o hc.1 (a7 c o hc.1 hc.2.1 hc.2.2.1 hc.2.2.2 e)
   .obtain⟨o,e,_⟩:=pP st2 c hc
    exact⟨o,e⟩
  .have hn:=(hf c hc).1
   rw[qG ?_]
   .exact hn
   .rintro rfl
    obtain⟨o,e,_⟩:=pP ⟨p,q,s1,s2,s3,s4,s5⟩ _ hc;exact absurd (Ay e) (Di _)
 done:=by
  intro X hP hw hK hc k pins s σ H E Iv hf st hg;subst hP hw hK;obtain⟨p,q,s1,s2,s3,s4,s5⟩:=st;obtain⟨xs,ys,qa,qb,hend⟩:=hg;obtain⟨ia,ra,ha⟩:=qa.at Iv;obtain⟨ib,rb,hb⟩:=qb.at Iv;have off:∀ {c:Ad} {zs:Aa V},Sq tp X.K H c zs->Off z O i j c:=λ{c zs} qc=>⟨qc.off Iv (hf z (.head _)),qc.off Iv (hf O (.tail _ (.tail _ (.head _)))),qc.off Iv (hf i (.tail _ (.tail _ (.tail _ (.head _))))),qc.off Iv (hf j (.tail _ (.tail _ (.tail _ (.tail _ (.head _))))))⟩;have hT:s.TypeIs (.ref z) "zip":=⟨_,s1,rfl⟩;have l1:=ra.length;have l2:=rb.length;unfold Pe;refine Ai (Mu (En (name:=Eo "__next__") hT No (Fg No hT Vu
   (YR (Iv.ok.hd hc) D (off qa) (off qb) s1 s2 s3 s4 s5 ha hb ?_ λh' e kp he=>?_) (Uz _))))
  .rcases hend with y|y
   .exact .inl (by simp;lia)
   .exact .inr (by simp;lia)
  .obtain⟨o,ho,hcl⟩:=he
   refine Ai (Vv (T:="StopIteration") (b:=true) ⟨o,ho,hcl⟩ isSubtype_stop (AT ⟨rfl,Inv.turnL (fp:=[z,I,O,i,j]) Iv hf λc o hc e=>?_⟩));have hc:=V8 hc;exact kp c o hc.1 hc.2.1 hc.2.2.1 hc.2.2.2 e
 self:=λ_ _ _ _ _ st h=>by
  obtain⟨p,q,s1,_⟩:=st;exact Vw s1 h
noncomputable def vK (xs ys:Aa D):Aa D:=Yj (λx y=>D.tup [x,y]) xs ys
noncomputable def LU (ds:Aa D):Al (Aa D):=match ds with
 |[.tup xs,.tup ys]=>Ab (vK xs ys)
 |[.lst xs,.lst ys]=>Ab (vK xs ys)
 |_=>none
noncomputable def cP (f:DA):DI:=λenv S=>(f env S).bind λds S1=>vV (LU ds) S1
theorem YO {xs ys:Aa D}{i:Af}:(vK xs ys)[i]? = match xs[i]?,ys[i]? with|some x,Ab y=>Ab (D.tup [x,y])|_,_=>none:=by
 unfold vK;rw[List.getElem?_zipWith];cases xs[i]? <;> cases ys[i]? <;> rfl
theorem fK (xs ys:Aa D):(vK xs ys).length=min xs.length ys.length:=by simp[vK]
section
variable {K:Ak}
theorem Sq.mono {P P':Hp}(e:qD P P'){a:Ad}{xs:Aa V}(q:Sq tp K P a xs):Sq tp K P' a xs:=by
 cases tp with
 |true=>exact wI e q
 |false=>exact e.seq q
theorem JJ {P:Hp}{a b:Ad}{xs ys:Aa D}{ws:Aa V}(qa:Sq tp K P a vs)(qb:Sq tp K P b ws)(ta:qB K P α xs vs)(tb:qB K P α ys ws):ItD K (Itz tp K a b) P α (vK xs ys) where
 go:=λi H P1 α1 S hi r e _=>by
  rw[fK] at hi;have h1:i<vs.length:=by rw[<- ta.length];lia
  have h2:i<ws.length:=by rw[<- tb.length];lia
  exact⟨vs,ws,vs[i],ws[i],qa.mono (e.trans r.sub),qb.mono (e.trans r.sub),by simp,by simp⟩
 yld:=λi H x H' P1 α1 S hi r e e2 y=>by
  obtain⟨T,u,w,rfl,hT,rfl,hu,hw⟩:=y;rw[fK] at hi;have h1:i<xs.length:=by lia
  have h2:i<ys.length:=by lia
  obtain⟨v1,z1,p1⟩:=ta.get (Am h1);obtain⟨v2,z2,p2⟩:=tb.get (Am h2);have eu:=hu vs (qa.mono (e.trans r.sub));have ew:=hw ws (qb.mono (e.trans r.sub));rw[z1] at eu;cases eu;rw[z2] at ew;cases ew;obtain⟨r1,s1⟩:=r.pure (o:=.tup [u,w]) hT;refine⟨_,.tup [xs[i],ys[i]],?_,r1,s1,?_⟩
  .rw[YO,Am h1,Am h2]
  .exact bF (.of qV) (.cons (Rep.mono (e.trans s1) e2 _ _ p1) (.cons (Rep.mono (e.trans s1) e2 _ _ p2) .nil))
 stop:=λi H P1 α1 S hi r e _=>by
  rw[fK] at hi;have l1:=ta.length;have l2:=tb.length;exact⟨vs,ws,qa.mono (e.trans r.sub),qb.mono (e.trans r.sub),by lia⟩
end
section
variable {X:Cx}{e1 e2:Bn}{elts:Aa Bn}{x1:Af}{tpos:Eg}{f:DA}{p pos:Eg}
theorem Z6 {pins:Aa (Ad × Cg)}{σ:_L.St}{H P:Hp}{s:Ah}{a b:Ad}{xs ys:Aa D}{ws:Aa V}{R:It->Hp->Prop}(I:Inv X pins σ H s)(r:Rel X.K H P α S)(qa:Sq tp X.K P a vs)(qb:Sq tp X.K P b ws)(ta:qB X.K P α xs vs)(tb:qB X.K P α ys ws)
  (q:OkI X P α R (vK xs ys) S):Av (Ba X.prog X.w) X.A (call (.type "zip") [.ref a,.ref b]) (λv s1=>Av (Ba X.prog X.w) X.A (Pg v) (PIE X pins σ (.Tuple elts x1 tpos) R) X.xe s1) X.xe s:=by
 obtain⟨ia,ra,ha⟩:=(qa.mono r.sub).at I;obtain⟨ib,rb,hb⟩:=(qb.mono r.sub).at I;refine ZN ha hb λh' z1 z2 z3 z4 z5 z6 z7=>?_;refine Vw (s:={ s with heap:=h' }) z1 ?_
 have D:ZA (s.heap.objs.size+4) (s.heap.objs.size+2) (s.heap.objs.size+3) s.heap.objs.size (s.heap.objs.size+1):=by constructor <;> (intro z;simp at z)
 refine⟨_,[s.heap.objs.size+4,s.heap.objs.size+2,s.heap.objs.size+3,s.heap.objs.size,s.heap.objs.size+1],_,_,H,rfl,I.kept (t':=s.toks) z7,YJ (a:=a) (b:=b) D,⟨_,_,z1,z2,z3,z4,z5⟩,λc hc=>?_,q _ _ P α r (qD.refl _) (Bf _) (JJ qa qb ta tb)⟩;have hl:s.heap.objs.size<=c:=by
  simp only[Bg,Dg,Ik] at hc;rcases hc with rfl|rfl|rfl|rfl|rfl <;> simp
 exact I.fpOk hl (I.hok.fresh hl)
inductive ZipV (ds:Aa D)(its:Aa D):Prop
 |tup (xs ys:Aa D) (ed:ds=[.tup xs,.tup ys]) (e:its=vK xs ys)
 |lst (xs ys:Aa D) (ed:ds=[.lst xs,.lst ys]) (e:its=vK xs ys)
theorem PH (h:LU ds=Ab its):ZipV ds its:=by
 cases ds with
 |nil=>exact nn h
 |cons a ds =>
  cases a with
  |tup xs =>
   cases ds with
   |nil=>exact nn h
   |cons b ds =>
    cases b with
    |tup ys =>
     cases ds with
     |nil=>exact .tup xs ys rfl (Cj h).symm
     |cons _ _=>exact nn h
    |_=>exact nn h
  |lst xs =>
   cases ds with
   |nil=>exact nn h
   |cons b ds =>
    cases b with
    |lst ys =>
     cases ds with
     |nil=>exact .lst xs ys rfl (Cj h).symm
     |cons _ _=>exact nn h
    |_=>exact nn h
  |_=>exact nn h
theorem F0 (hg:Gl X "zip")(hm:X.mg "zip" = none)(ha:PA X [e1,e2] (tDA X f))(hs:Bl [e1,e2] X.env=(false,eval e1 X.env)::Bl [e2] X.env:=by rfl)(hpl:(Ft pos (Bl [e2] X.env)).any (·.1)=false:=by rfl) :
  PI X (.Tuple elts x1 tpos) (.Call (.Name "zip" p) [e1,e2] [] pos) (tDI X (cP f)):=by
 intro pins s σ H R I h;obtain⟨P,α,env,S,r,re,af⟩:=h;refine Call_ (yU I hg hm boot_zip (Gg (thn (wC ha I r re af pos) λus s1 ⟨vs,H1,P1,α1,ds,S1,I1,rv,r1,re1,rp,e1,e2,af1⟩=>?_) hs hpl));obtain⟨its,hi,q⟩:=vH af1;cases PH hi with
 |tup xs ys ed e =>
  subst ed e;obtain⟨v,w,u,x,rfl,rfl,p1,p2,q1,q2⟩:=m9 rp rv;simp only[Rep] at p1 p2;obtain⟨a,va,rfl,qa,ta⟩:=p1;obtain⟨b,vb,rfl,qb,tb⟩:=p2;cases (show u=Cf a from q1)
  cases (show x=Cf b from q2)
  exact Z6 (tp:=true) I1 r1 qa qb ta tb (q.base e1 e2)
 |lst xs ys ed e =>
  subst ed e;obtain⟨v,w,u,x,rfl,rfl,p1,p2,q1,q2⟩:=m9 rp rv;simp only[Rep] at p1 p2;obtain⟨a,va,rfl,qa,ta⟩:=p1;obtain⟨b,vb,rfl,qb,tb⟩:=p2;cases (show u=Cf a from q1)
  cases (show x=Cf b from q2)
  exact Z6 (tp:=false) I1 r1 qa.l qb.l ta tb (q.base e1 e2)
end
def Src (K:Ak)(mg:Ao->Al Ac)(x:Ao)(st:Fb)(ps:Aa Ao):Prop:=∃ f fd,mg x=Ab (.ref f)/\Fun K x x st f fd/\vY K fd ps []
def Lk (K:Ak)(f:Ad)(fd:Et):Prop:=∃ oc od osl,K.lookup f=Ab ⟨oc,od,.func fd,osl⟩
theorem fV {K:Ak}{x q:Ao}{st:Fb}{f:Ad}{fd:Et}(F:Fun K x q st f fd):Lk K f fd:=by
 obtain⟨oc,od,kV,doc,pm,an,cdv,ct,osl,_,lk,_⟩:=F.ex;exact⟨oc,od,osl,lk⟩
theorem Lk.one {K:Ak}{f:Ad}{fd fd':Et}(h:Lk K f fd)(h':Lk K f fd'):fd=fd':=by
 obtain⟨oc,od,osl,e⟩:=h;obtain⟨oc',od',osl',e'⟩:=h';rw[e] at e';cases e';rfl
noncomputable def Def (P:Bi)(w:Ca)(K:Ak)(mg:Ao->Al Ac)(base:Bs)(cm:Ap)(k:Af)(x:Ao)(n:Af)(F:DF):Prop:=
 ∃ f fd ps,ps.length=n/\mg x=Ab (.ref f)/\Fp K (.ref f)=true/\vY K fd ps [] /\ Lk K f fd/\FnX P w K mg base cm k f fd ps (spD K n F)
def lJ (P:Bi)(w:Ca)(K:Ak)(mg:Ao->Al Ac)(base:Bs)(cm:Ap)(k:Af)(x:Ao)(ps:Aa Ao)(F:DF):Prop:=
 ∃ f fd,mg x=Ab (.ref f)/\Fp K (.ref f)=true/\vY K fd ps [] /\ Lk K f fd/\FnX P w K mg base cm k f fd ps (spD K ps.length F)
section
variable {P:Bi}{w:Ca}{K:Ak}{mg:Ao->Al Ac}{base:Bs}{cm:Ap}
theorem YW {x:Ao}{f:Ad}{fd:Et}{cdv:Ac}(hm:mg x=Ab (.ref f))(lk:Lk K f fd)(h:fd.code=cdv/\Mod K mg base):kF K x cdv:=λc T e=>by
 obtain⟨oc,od,osl,lk⟩:=lk;rw[<- h.1];exact PySem.W.law_code h.2.kin h.2.glob e hm (h.2.kin _ _ lk) rfl
theorem BW {x:Ao}{st:Fb}{ps:Aa Ao}{k:Af}{g:DS}(h:Src K mg x st ps)(S:FnScope N ps (qJ st))
  (hbody:∀ (f:Ad) (cdv:Ac) (A:Br) (outer:Aa Iw) (s:Ah) (H:Hp) (E:XK),kF K x cdv->RoomC cm k (A.deeper (Gb x (qJ st) s.heap.objs.size f cdv)) ->
   PSs (cxC cm P w K mg base N x (qJ st) f cdv A outer s H E) (zM st) (tDS (cxC cm P w K mg base N x (qJ st) f cdv A outer s H E) g)):Def P w K mg base cm (k+1) x ps.length (qO N.length g):=by
 obtain⟨f,fd,hm,F,hb⟩:=h;exact⟨f,fd,ps,rfl,hm,F.kp,hb,fV F,fnX F S λcdv A outer s H E hc hr=>hbody f cdv A outer s H E (YW hm (fV F) hc) hr⟩
theorem UC {x:Ao}{st:Fb}{ps:Aa Ao}{k:Af}{g:DS}(h:Src K mg x st ps)(S:FnScope N ps (qJ st))
  (hbody:∀ (f:Ad) (cdv:Ac) (A:Br) (outer:Aa Iw) (s:Ah) (H:Hp) (E:XK),kF K x cdv->RoomC cm k (A.deeper (Gb x (qJ st) s.heap.objs.size f cdv)) ->
   PSs (cxC cm P w K mg base N x (qJ st) f cdv A outer s H E) (zM st) (tDS (cxC cm P w K mg base N x (qJ st) f cdv A outer s H E) g)):lJ P w K mg base cm (k+1) x ps (qO N.length g):=by
 obtain⟨f,fd,hm,F,hb⟩:=h;exact⟨f,fd,hm,F.kp,hb,fV F,fnX F S λcdv A outer s H E hc hr=>hbody f cdv A outer s H E (YW hm (fV F) hc) hr⟩
theorem Def.mono {x:Ao}{j k n:Af}{F:DF}(h:Def P w K mg base cm j x n F)(hk:j<=k:=by decide):Def P w K mg base cm k x n F:=by
 obtain⟨f,fd,ps,hn,hm,kp,hb,hl,X⟩:=h;exact⟨f,fd,ps,hn,hm,kp,hb,hl,X.len,λA outer s H args us vs Q E hr=>X.run A outer s H args us vs Q E (hr.mono hk)⟩
theorem Def.any {x:Ao}{k n:Af}{F:DF}(h:Def P w K mg base false k x n F):Def P w K mg base cm k x n F:=by
 obtain⟨f,fd,ps,hn,hm,kp,hb,hl,X⟩:=h;exact⟨f,fd,ps,hn,hm,kp,hb,hl,X.any⟩
end
section
variable {X:Cx}{cm:Ap}{k n:Af}{F:DF}{x:Ao}{p pos:Eg}{e:Bn}{es:Aa Bn}{fa:DA}
theorem dcN (G:Def X.prog X.w X.K X.mg X.base cm k x n F)(hr:RoomC cm k X.A)(hF:Fn1 X)(hg:Gl X x)(ha:PA X (e::es) (tDA X fa))(hdb:(x == ("__debug__" : Ao))=false:=by decide)(he:Bl (e::es) X.env=(false,eval e X.env)::Bl es X.env:=by rfl)(hpl:(Ft pos (Bl es X.env)).any (·.1)=false:=by rfl) :
  PE X (.Call (.Name x p) (e::es) [] pos) (tD X (qK n F fa)):=by
 obtain⟨f,fd,ps,hn,hm,kp,hb,hl,G⟩:=G;exact U8 G hr hF hg hm kp hb ha hdb he hpl
end
noncomputable def vM:DF:=λds S=>match ds with
 |[.dct0]=>.bad
 |_=>d3 ds S
theorem U1 {X:Cx}:wL X (.builtin "len") vM:=B8 trivial
theorem YV:∃ C:Ag->Ag->Ap,C=bR:=⟨_,rfl⟩
def YU:Ag->Ag->Ap:=Jz YV
theorem kI:YU=bR:=Ji YV
def qU:G2:=i2 YU λi j=>.int (i*j)
theorem K8 {X:Cx}:OpD X (Dp .Mult) qU:=by
 unfold qU;rw[kI];exact K7
theorem hu1 {cm:Ap}{k:Af}{A:Br}(hr:RoomC cm k A):A.units+1<Ev:=by have:=hr.units;lia
section
variable {X:Cx}
theorem JB:IpD X .Mult qU:=by
 intro pins s σ H x y v u Q I rx ry h;obtain⟨P,α,S,a,b,r,pa,pb,af⟩:=h;unfold qU at af;obtain⟨i,j,rfl,rfl,hc,ok⟩:=b0 af;rw[kI] at hc;unfold bR at hc;rw[Nn] at hc;cases zO pa;cases zO pb;obtain⟨t,rfl⟩:=rx;obtain⟨t',rfl⟩:=ry;have hm:c9 i j:=by
  rcases hc with hc|hc
  .exact .inl (Bp hc)
  .exact .inr (Bp hc)
 exact imul_int ⟨.int _,H,I.tok _,⟨_,rfl⟩,xr ok r (by simp only[Rep])⟩ hm.ok
theorem JA:IpD X .FloorDiv yR:=by
 intro pins s σ H x y v u Q I rx ry h;obtain⟨P,α,S,a,b,r,pa,pb,af⟩:=h;obtain⟨i,j,rfl,rfl,hc,ok⟩:=b0 af;have h1:0<j/\j<1073741824:=Bp hc;cases zO pa;cases zO pb;obtain⟨t,rfl⟩:=rx;obtain⟨t',rfl⟩:=ry;refine ifloordiv_int om ?_ (.inl (Qn om));rw[Ox i om];exact⟨.int _,H,I.tok _,⟨_,rfl⟩,xr ok r (by simp only[Rep])⟩
end
noncomputable def okO (F:DF):DF:=λds S=>match F ds S with
 |.ok d S'=>.ok d S'
 |_=>.bad
theorem MX {F:DF}{S':Sto}{d:D}(h:F ds S=.ok d S'):okO F ds S=.ok d S':=by unfold okO;rw[h]
section
variable {X:Cx}{cm:Ap}{k n:Af}{F:DF}{x:Ao}{p pos:Eg}{e:Bn}{es:Aa Bn}{fa:DA}{f:Ad}{fd:Et}{ps:Aa Ao}
theorem GJ {pins:Aa (Ad × Cg)}{σ:_L.St}{H:Hp}{s:Ah}{Q:VK}{P:Hp}(G:FnX X.prog X.w X.K X.mg X.base cm k f fd ps (spD X.K n F))(hr:RoomC cm k X.A)(hb:vY X.K fd ps [])
  (I:Inv X pins σ H s) (r:Rel X.K H P α S) (rv:qH vs us) (rp:qB X.K P α ds vs) (hn:ds.length=n) (af:qP X P α (okO F ds S) Q):Av (Ba X.prog X.w) X.A (call (.ref f) us) (EP X pins σ Q) X.xe s:=by
 have hvn:vs.length=n:=by rw[<- rp.length];exact hn
 have hsp:spD X.K n F vs H Q λ_ _ _=>Ez:=by
  refine⟨hvn,P,α,ds,S,r,rp,?_⟩;unfold okO at af;cases q:F ds S with
  |ok d S'=>rw[q] at af;exact af
  |ex c x S'=>rw[q] at af;exact An af
  |bad=>rw[q] at af;exact af
 have hl:us.length=ps.length:=by rw[<- rv.length];exact G.len _ _ _ _ hsp
 have hb':=hb s us I.kIn (by rw[Gk];exact hl)
 rw[Gk] at hb';refine Ww (Px (G.run X.A X.stack s H ⟨us,[]⟩ us vs Q _ hr I.env0 hb' rv hsp) λr s' hq=>?_);cases r with
 |error u =>
  obtain⟨_,_,_,_,_,_,_,_,_,_,_,_,z⟩:=hq;exact An z
 |ok fl =>
  cases fl with
  |ret u=>exact I.after hq
  |next=>exact An hq
  |brk=>exact An hq
  |cont=>exact An hq
theorem dcO (G:Def X.prog X.w X.K X.mg X.base cm k x n F)(hr:RoomC cm k X.A)(hg:Gl X x)(ha:PA X (e::es) (tDA X fa))(hdb:(x == ("__debug__" : Ao))=false:=by decide)(he:Bl (e::es) X.env=(false,eval e X.env)::Bl es X.env:=by rfl)(hpl:(Ft pos (Bl es X.env)).any (·.1)=false:=by rfl) :
  PE X (.Call (.Name x p) (e::es) [] pos) (tD X (qK n (okO F) fa)):=by
 obtain⟨f,fd,ps,hn0,hm,hk,hb,hl,G⟩:=G;intro pins s σ H Q I h;obtain⟨P,α,env,S,r,re,af⟩:=h;refine Hs (b8 I hg hm ?_ hdb);refine T0 (h₀:=X.base) I.ok.mod.kin hk (thn (wC ha I r re af pos) λus s1 ⟨vs,H1,P1,α1,ds,S1,I1,rv,r1,re1,rp,e1,e2,af1⟩=>⟨I1.kIn,?_⟩) he hpl;obtain⟨hn,af2⟩:=nH (env:=env) (S:=S) af1;exact GJ G hr hb I1 r1 rv rp hn (qP.base e1 e2 af2)
end
structure QE (X:Cx)(e:Bn)(f:DE):Prop where
 get:PE X e (tD X f)
structure QT (X:Cx)(e:Bn)(t:DT):Prop where
 get:PT X e (tDT X t)
structure QW (X:Cx)(e:Bn)(t:DT):Prop where
 get:PWD X e t
structure QA (X:Cx)(es:Aa Bn)(f:DA):Prop where
 get:PA X es (tDA X f)
structure QO (X:Cx)(e:Al Bn)(f:DO):Prop where
 get:PO X e (tDO X f)
structure QG (X:Cx)(t:Bn)(g:DG):Prop where
 get:PG X t (tDG X g)
structure QGs (X:Cx)(ts:Aa Bn)(g:DGs):Prop where
 get:PGs X ts (sR X g)
structure QI (X:Cx)(tg it:Bn)(f:DI):Prop where
 get:PI X tg it (tDI X f)
structure QS (X:Cx)(s:Fb)(f:DS):Prop where
 get:PS X s (tDS X f)
structure QB (X:Cx)(ss:Aa Fb)(f:DS):Prop where
 get:PSs X ss (tDS X f)
structure QJ (X:Cx)(es:Aa Bn)(fs:Aa DE):Prop where
 get:PJ X es fs
structure ZOp (X:Cx)(f:Ac->Ac->Ke Ac)(g:G2):Prop where
 get:OpD X f g
structure ZIx (X:Cx)(g:G2):Prop where
 get:IxD X g
structure ZCall (X:Cx)(f:Ac)(F:DF):Prop where
 get:wL X f F
structure ZMt (X:Cx)(id:Dt)(g:D->Aa D->Sto->Res D):Prop where
 get:MtD X id g
structure ZIp (X:Cx)(op:Mb)(g:G2):Prop where
 get:IpD X op g
structure ZSet (X:Cx)(g:G3):Prop where
 get:lK X (lI X g)
structure ZPass (X:Cx):Prop where
 get:Nj (Ba X.prog X.w) X.A X.env X.xe
section
variable {X:Cx}{a b c e e1 e2 o i:Bn}{es qE:Aa Bn}{fa fb fc fe fo fi:DE}{ta tb:DT}{fA:DA}{f g:DS}{st:Fb}{sts:Aa Fb}{x:Ao}{p pos:Eg}{n k:Af}{cm:Ap}{F:DF}{G2':G2}
theorem NC:QE X (.Constant .none j pos) (dC .non):=⟨BQ⟩
theorem R7:QE X (.Constant (.bool v) j pos) (dC (.bl v)):=⟨D3⟩
theorem NA:QE X (.Constant (.int v) j pos) (dC (.int v)):=⟨BO⟩
theorem NG:QE X (.Constant (.str v) j pos) (dC (.str v)):=⟨BU⟩
theorem NI (m:Af)(hN:X.N[m]? = Ab x)(hv:Vis X.env.scope x)(hd:(x == ("__debug__" : Ao))=false)(hcd:(x == ("__classdict__" : Ao))=false):QE X (.Name x pos) (q9 m):=⟨dv m hN hv hd hcd⟩
theorem KQ {nm:Dt}(hg:Gl X x)(hm:X.mg x=none)(hv:Fd x=Ab (.type nm))(hn:x ≠ "__name__")(hd:(x == ("__debug__" : Ao))=false):QE X (.Name x pos) (dC (.ty nm)):=⟨U7 hg hm hv hn hd⟩
theorem KR {v:Ag}(hg:Gl X x)(hm:∃ t,X.mg x=Ab (.int v t))(hd:(x == ("__debug__" : Ao))=false):QE X (.Name x pos) (dC (.int v)):=⟨let ⟨_,h⟩:=hm;U9 (v:=.int v) hg h ⟨_,rfl⟩ (λ_ _=>by simp only[Rep]) hd⟩
theorem ND (ha:QE X a fa):QE X (.UnaryOp .Not a pos) (ZX fa):=⟨BR ha.1⟩
theorem RA {op:Mb}(ho:ZOp X (Dp op) G2')(ha:QE X a fa)(hb:QE X b fb):QE X (.BinOp a op b pos) (d2 G2' fa fb):=⟨D7 ho.1 ha.1 hb.1⟩
theorem N7 {op:Sm}(ho:ZOp X (Ch op) G2')(ha:QE X a fa)(hb:QE X b fb)(hm:Kk op b=false:=by first|exact pA _|with_unfolding_all rfl):QE X (.Compare a [op] [b] pos) (d2 G2' fa fb):=⟨BL ho.1 ha.1 hb.1 hm⟩
theorem WV {op op':Sm}{g':G2}(ho:ZOp X (Ch op) G2')(ho':ZOp X (Ch op') g')(ha:QE X a fa)(hb:QE X b fb)(hc:QE X c fc)(hm:Ux [op,op'] [b,c]=false:=by with_unfolding_all rfl):QE X (.Compare a [op,op'] [b,c] pos) (wB G2' g' fa fb fc):=⟨ZZ ho.1 ho'.1 ha.1 hb.1 hc.1 hm⟩
theorem NF  (h:QE X a fa):QE X (.BoolOp op [a] pos) fa:=⟨BS h.1⟩
theorem N6 (ha:QE X a fa)(hb:QE X (.BoolOp .And (b::qE) pos) fb):QE X (.BoolOp .And (a::b::qE) pos) (mO fa fb):=⟨BJ ha.1 hb.1⟩
theorem RB (ha:QE X a fa)(hb:QE X (.BoolOp .Or (b::qE) pos) fb):QE X (.BoolOp .Or (a::b::qE) pos) (dOr fa fb):=⟨D8 ha.1 hb.1⟩
theorem R8 (hc:QT X c ta)(ha:QE X a fa)(hb:QE X b fb):QE X (.IfExp c a b pos) (dIf ta fa fb):=⟨D5 hc.1 ha.1 hb.1⟩
theorem NH  (h:QA X es fA):QE X (.Tuple es x1 pos) (jF fA):=⟨BV h.1⟩
theorem NB (h:QA X es fA):QE X (.List es pos) (jE fA):=⟨BP h.1⟩
theorem KU (h:QA X es fA):QE X (.List es pos) (pS fA):=⟨UB h.1⟩
theorem N8:QE X (.Dict [] [] pos) bU:=⟨BM⟩
theorem R9 (ho:ZIx X G2')(ha:QE X a fa)(hb:QE X b fb)(hs:mI b:=by intro _ _;rfl):QE X (.Subscript a b pos) (d2 G2' fa fb):=⟨D6 ho.1 ha.1 hb.1 hs⟩
theorem WX {lo hi:Al Bn}{fl fh:DO}{p2:Eg}(he:QE X e fe)(hl:QO X lo fl)(hu:QO X hi fh):QE X (.Subscript e (.Slice lo hi none p2) pos) (dSl fe fl fh):=⟨X2 he.1 hl.1 hu.1⟩
theorem G8:QO X none jS:=⟨UH⟩
theorem G9 (he:QE X e fe):QO X (Ab e) (wZ fe):=⟨UI he.1⟩
theorem N9 (he:QE X e fe):QE X (.FormattedValue e (-1) none pos) (d1 mX fe):=⟨BN he.1⟩
theorem NP:QJ X [] []:=⟨TR⟩
theorem G6 {fs:Aa DE}(he:QE X e fe)(hr:QJ X es fs):QJ X (e::es) (fe::fs):=⟨KG he.1 hr.1⟩
theorem KS {fs:Aa DE}(h:QJ X (e1::e2::qE) fs):QE X (.JoinedStr (e1::e2::qE) pos) (cO fs):=⟨UA h.1⟩
theorem N4:QA X [] qA:=⟨BH⟩
theorem KP (ha:QE X e fa)(hr:QA X es fA)(hs:Bl (e::es) X.env=(false,eval e X.env)::Bl es X.env:=by rfl):QA X (e::es) (q8 fa fA):=⟨U6 ha.1 hr.1 hs⟩
theorem qcN (G:Def X.prog X.w X.K X.mg X.base cm k x n F)(hr:RoomC cm k X.A)(hF:Fn1 X)(hg:Gl X x)(ha:QA X (e::es) fA)(hdb:(x == ("__debug__" : Ao))=false)(he:Bl (e::es) X.env=(false,eval e X.env)::Bl es X.env:=by rfl)(hpl:(Ft pos (Bl es X.env)).any (·.1)=false:=by rfl):QE X (.Call (.Name x p) (e::es) [] pos) (qK n F fA):=⟨dcN G hr hF hg ha.1 hdb he hpl⟩
theorem WU (hc:ZCall X (.builtin id) F)(hg:Gl X x)(hm:X.mg x=none)(hv:Fd x=Ab (.builtin id))(ha:QA X (e::es) fA)(hn:x ≠ "__name__")(hdb:(x == ("__debug__" : Ao))=false)(he:Bl (e::es) X.env=(false,eval e X.env)::Bl es X.env:=by rfl)(hpl:(Ft pos (Bl es X.env)).any (·.1)=false:=by rfl):QE X (.Call (.Name x p) (e::es) [] pos) (qX F fA):=⟨ZY hc.1 hg hm hv ha.1 hn hdb he hpl⟩
theorem Q4 {T:Dt}(hc:ZCall X (.type T) F)(hg:Gl X x)(hm:X.mg x=none)(hv:Fd x=Ab (.type T))(ha:QA X (e::es) fA)(hn:x ≠ "__name__")(hdb:(x == ("__debug__" : Ao))=false)(he:Bl (e::es) X.env=(false,eval e X.env)::Bl es X.env:=by rfl)(hpl:(Ft pos (Bl es X.env)).any (·.1)=false:=by rfl):QE X (.Call (.Name x p) (e::es) [] pos) (qX F fA):=⟨iL hc.1 hg hm hv ha.1 hn hdb he hpl⟩
theorem lF {T:Dt}{name:Ao}{apos:Eg}{h:D->Aa D->Sto->Res D}(pa:Ta T)(slot:Slot T name id)(hty:Vq (.builtin id)=pure (.type "method_descriptor"))(hT:T = "list" \/ T = "dict" \/ T = "int" \/ T = "str")(hm:ZMt X id h)(ho:QE X o fo)(ha:QA X (e::es) fA)
  (hbase:Gu o name X.env (eval o X.env)=eval o X.env:=by rfl)
  (hfew:((Ft pos (Bl (e::es) X.env)).all (λx=>!x.1)&&(backToKw pos (keywordEach [] X.env)).all (λx=>x.1.isSome)&&decide ((e::es).length+([]:Aa Xx).length+(if ([] : Aa Xx).isEmpty then 0 else 1)<30))=true:=by rfl)
  (hline:(apos.endLine == pos.line)=true:=by rfl) (hs:Bl (e::es) X.env=(false,eval e X.env)::Bl es X.env:=by rfl) (hplain:(Ft pos (Bl es X.env)).any (·.1)=false:=by rfl):QE X (.Call (.Attribute o name apos) (e::es) [] pos) (dBm T h fo fA):=⟨D4 pa slot hty hT hm.1 ho.1 ha.1 hbase hfew hline hs hplain⟩
theorem m8 {T:Dt}{name:Ao}{apos:Eg}{h:D->Aa D->Sto->Res D}(pa:Ta T)(slot:Slot T name id)(hty:Vq (.builtin id)=pure (.type "method_descriptor"))(hT:T = "list" \/ T = "dict" \/ T = "int" \/ T = "str")(hm:ZMt X id h)(ho:QE X o fo)
  (hbase:Gu o name X.env (eval o X.env)=eval o X.env:=by rfl) (hline:(apos.endLine == pos.line)=true:=by rfl):QE X (.Call (.Attribute o name apos) [] [] pos) (ZW T h fo):=⟨BK pa slot hty hT hm.1 ho.1 hbase hline⟩
theorem RD (h:QW X e ta):QT X e ta:=⟨PWD.pt h.1⟩
theorem eU (ha:QT X a ta):QW X (.BoolOp .And [a] pos) ta:=⟨UP ha.1⟩
theorem Q8 (ha:QT X a ta):QW X (.BoolOp .Or [a] pos) ta:=⟨FD ha.1⟩
theorem Q7 (ha:QT X a ta)(hb:QW X (.BoolOp .And (b::qE) pos) tb):QW X (.BoolOp .And (a::b::qE) pos) (xJ ta tb):=⟨FC ha.1 hb.1⟩
theorem VI (ha:QT X a ta)(hb:QW X (.BoolOp .Or (b::qE) pos) tb):QW X (.BoolOp .Or (a::b::qE) pos) (gV ta tb):=⟨DH ha.1 hb.1⟩
theorem NY (ha:QT X a ta):QT X (.UnaryOp .Not a pos) (vZ ta):=⟨FA ha.1⟩
theorem NW {op:Sm}(ho:ZOp X (Ch op) G2')(ha:QE X a fa)(hb:QE X b fb)(hm:Kk op b=false:=by first|exact pA _|with_unfolding_all rfl):QT X (.Compare a [op] [b] pos) (dTr (d2 G2' fa fb)):=⟨F9 ho.1 ha.1 hb.1 hm⟩
theorem Y3 {op op':Sm}{g':G2}(ho:ZOp X (Ch op) G2')(ho':ZOp X (Ch op') g')(ha:QE X a fa)(hb:QE X b fb)(hc:QE X c fc)(hm:Ux [op,op'] [b,c]=false:=by with_unfolding_all rfl):QT X (.Compare a [op,op'] [b,c] pos) (dTr (wB G2' g' fa fb fc)):=⟨X9 ho.1 ho'.1 ha.1 hb.1 hc.1 hm⟩
theorem NZ (ha:QE X a fa)(he:∀ whole,isTrue a X.env whole=(do let v <- whole;OO a.pos;holding [v] (truthy v)):=by intro _;rfl):QT X a (dTr fa):=⟨FB ha.1 he⟩
theorem KW (hN:X.N.Nodup)(hi:X.N[m]? = Ab x)(hx:Loc X.env.scope x)(hf:X.fn x=true\/X.env.scope.names.lookup x=Ab .local):QG X (.Name x pos) (gNm m):=⟨UD hN hi hx hf⟩
theorem KY:QGs X [] w5:=⟨UE⟩
theorem WY {h:DG}{gs:DGs}(h1:QG X e h)(h2:QGs X es gs)(hs:(Fz (e::es) X.env).map (·.2)=assign e X.env::(Fz es X.env).map (·.2):=by rfl):QGs X (e::es) (zH h gs):=⟨X3 h1.1 h2.1 hs⟩
theorem NK {kk:Af}{gs:DGs}(hc:X.calm=true)(h:QGs X es gs)(hn:(Fz es X.env).length=n:=by rfl)(hst:(Fz es X.env).findIdx? (·.1)=none:=by rfl):QG X (.Tuple es kk pos) (gTp n gs):=⟨BY hc h.1 hn hst⟩
theorem NJ {h:G3}(ho:QE X o fo)(hi:QE X i fi)(hs:ZSet X h)
  (ha:∀ v,assign (.Subscript o i pos) X.env v=(do
   let ov <- holding [v] (eval o X.env)
   let iv <- holding [v,ov] (eval i X.env)
   OO pos
   holding [v,ov,iv] (Xp ov iv v)
   release [v,ov,iv] []):=by intro _;rfl):QG X (.Subscript o i pos) (gSb fo fi h):=⟨BX ho.1 hi.1 hs.1 ha⟩
theorem NN {tg:Bn}(ha:QE X e fa):QI X tg e (wY fa):=⟨BZ ha.1⟩
theorem Y0 {tg:Bn}(hg:Gl X "range")(hm:X.mg "range" = none)(ha:QA X (e::es) fA)(hs:Bl (e::es) X.env=(false,eval e X.env)::Bl es X.env:=by rfl)(hpl:(Ft pos (Bl es X.env)).any (·.1)=false:=by rfl):QI X tg (.Call (.Name "range" p) (e::es) [] pos) (gW fA):=⟨X5 hg hm ha.1 hs hpl⟩
theorem NO {elts:Aa Bn}{x1:Af}{tpos:Eg}(hg:Gl X "zip")(hm:X.mg "zip" = none)(ha:QA X [e1,e2] fA)(hs:Bl [e1,e2] X.env=(false,eval e1 X.env)::Bl [e2] X.env:=by rfl)(hpl:(Ft pos (Bl [e2] X.env)).any (·.1)=false:=by rfl):QI X (.Tuple elts x1 tpos) (.Call (.Name "zip" p) [e1,e2] [] pos) (cP fA):=⟨F0 hg hm ha.1 hs hpl⟩
theorem N5:QB X [] zT:=⟨F4⟩
theorem Q3 (h:QS X st f):QB X [st] f:=⟨F5 h.1⟩
theorem eS (h1:QS X st f)(h2:QB X sts g):QB X (st::sts) (qL f g):=⟨UJ h1.1 h2.1⟩
theorem GA (he:QE X e fa)(hs:Rb e none pos.line X.env=pure false:=by rfl):QS X (.Expr e pos) (xV fa):=⟨UK he.1 hs⟩
theorem NU (he:QE X e fa):QS X (.Return (Ab e) pos) (qY fa):=⟨F7 he.1⟩
theorem RC {as bs:Aa Fb}(hc:QT X c ta)(ha:QB X as f)(hb:QB X bs g):QS X (.If c as bs pos) (sIf ta f g):=⟨DC hc.1 ha.1 hb.1⟩
theorem Y2 (hp:ZPass X)(hc:QT X c ta)(hb:QB X body f):QS X (.While c body [] pos) (vS ta f):=⟨X8 hp.1 hc.1 hb.1⟩
theorem NS {tg iter:Bn}{fI:DI}{h:DG}(hp:ZPass X)(hc:X.calm=true)(hi:QI X tg iter fI)(hg:QG X tg h)(hb:QB X body f)(hs:∀ x,Fj iter X.env x=pure x:=by intro _;rfl):QS X (.For tg iter body [] pos) (v7 fI h f):=⟨F3 hp.1 hc hi.1 hg.1 hb.1 hs⟩
theorem NV {pos':Eg}(hN:X.N.Nodup)(he:QE X e fa)(hi:X.N[m]? = Ab x)(hx:Loc X.env.scope x)(hs:Rb e (Ab (.Name x pos')) pos.line X.env=pure false)(hf:X.fn x=true\/X.env.scope.names.lookup x=Ab .local):QS X (.Assign [.Name x pos'] e pos) (qR fa (gNm m)):=⟨F8 hN he.1 hi hx hs hf⟩
theorem NQ {tg:Bn}{h:DG}(he:QE X e fa)(hg:QG X tg h)(hs:Kj [tg] e pos.line X.env=pure false:=by rfl)(hw:Ki [tg] e X.env=pure none:=by rfl)(h1:(Fz [tg] X.env).map (·.2)=[assign tg X.env]:=by rfl):QS X (.Assign [tg] e pos) (qR fa h):=⟨F1 he.1 hg.1 hs hw h1⟩
theorem NR {op:Mb}{pos':Eg}(hN:X.N.Nodup)(he:QE X e fe)(ho:ZIp X op G2')(hi:X.N[m]? = Ab x)(hx:Loc X.env.scope x)(hf:X.fn x=true\/X.env.scope.names.lookup x=Ab .local):QS X (.AugAssign (.Name x pos') op e pos) (wX m G2' fe):=⟨F2 hN he.1 ho.1 hi hx hf⟩
theorem NT {l:Af}{y:Ao}{px py pt:Eg} {kt k2 pt2} (hc:X.calm=true) (hN:X.N.Nodup) (ha:QA X [a,b] fA) (hi:X.N[m]? = Ab x) (hj:X.N[l]? = Ab y) (hij:m≠l) (hx:X.env.scope.names.lookup x=Ab .local) (hy:X.env.scope.names.lookup y=Ab .local)
  (hw:Ki [.Tuple [.Name x px,.Name y py] kt pt] (.Tuple [a,b] k2 pt2) X.env=pure (Ab [x,y]):=by rfl) (hs:Kj [.Tuple [.Name x px,.Name y py] kt pt] (.Tuple [a,b] k2 pt2) pos.line X.env=pure false:=by rfl) :
  QS X (.Assign [.Tuple [.Name x px,.Name y py] kt pt] (.Tuple [a,b] k2 pt2) pos) (tU m l fA):=⟨F6 hc hN ha.1 hi hj hij hx hy hw hs⟩
theorem Y1 {C Ae:Ad}{np cpos:Eg}(hc:X.calm=true)(hF:Fn1 X)(hg:Gl X x)(hm:X.mg x=Ab (.ref C))(hx:bS X.K C Ae=true)(ha:QA X (e::qE) fA)(hdb:(x == ("__debug__" : Ao))=false)(he:Bl (e::qE) X.env=(false,eval e X.env)::Bl qE X.env:=by rfl)(hpl:(Ft cpos (Bl qE X.env)).any (·.1)=false:=by rfl) :
  QS X (.Raise (Ab (.Call (.Name x np) (e::qE) [] cpos)) none pos) (pG (.ref C) fA):=⟨X7 hc hF hg hm hx ha.1 hdb he hpl⟩
theorem RY:ZOp X (Dp .Add) zA:=⟨MQ⟩
theorem EC:ZOp X (Dp .Sub) yS:=⟨MW⟩
theorem E7:ZOp X (Dp .Mult) qU:=⟨K8⟩
theorem E0:ZOp X (Dp .FloorDiv) yR:=⟨MR⟩
theorem E6:ZOp X (Dp .Mod) xN:=⟨MT⟩
theorem E9:ZOp X (Dp .Pow) uK:=⟨MU⟩
theorem EB:ZOp X (Dp .LShift) dE:=⟨MV⟩
theorem CD:ZOp X (Ch .Lt) gLt:=⟨VF⟩
theorem CC:ZOp X (Ch .LtE) gLe:=⟨SV⟩
theorem C9:ZOp X (Ch .Gt) gGt:=⟨SS⟩
theorem C8:ZOp X (Ch .GtE) gGe:=⟨SR⟩
theorem CA:ZOp X (Ch .Is) gIs:=⟨SU⟩
theorem PC:ZOp X (Ch .IsNot) dD:=⟨WJ⟩
theorem C7 (hr:RoomC cm k X.A):ZOp X (Ch .Eq) gEq:=⟨SQ hr.units⟩
theorem CF (hr:RoomC cm k X.A):ZOp X (Ch .NotEq) gNe:=⟨VG hr.units⟩
theorem E8 (hr:RoomC cm k X.A):ZOp X (Ch .NotEq) (bA gNe):=⟨OpD.look (VG hr.units)⟩
theorem CB:ZIx X gIx:=⟨HD⟩
theorem E2:ZCall X (.builtin "isinstance") uI:=⟨B7⟩
theorem E4:ZCall X (.builtin "len") vM:=⟨U1⟩
theorem RZ (hc:X.calm=true):ZCall X (.builtin "all") (bX false):=⟨B5 false hc⟩
theorem E1:ZCall X (.type "int") yQ:=⟨B6⟩
theorem PF:ZCall X (.type "tuple") fQ:=⟨ZO⟩
theorem sY:ZMt X "list.append" xY:=⟨oE⟩
theorem Z4:ZMt X "int.bit_length" lA:=⟨JX⟩
theorem VU (hr:RoomC cm k X.A):ZMt X "dict.get" vD:=⟨M7 (hu1 hr)⟩
theorem LO:ZIp X .Add pX:=⟨J9⟩
theorem LQ:ZIp X .Mult qU:=⟨JB⟩
theorem LP:ZIp X .FloorDiv yR:=⟨JA⟩
theorem LR:ZIp X .Sub yS:=⟨JC⟩
theorem EA (hr:RoomC cm k X.A):ZSet X xE:=⟨L6 (hu1 hr)⟩
end
section
variable {P:Bi}{w:Ca}{K:Ak}{mg:Ao->Al Ac}{base:Bs}{cm:Ap}
theorem PM {qual:Ao}{scope:Do}{f:Ad}{cd:Ac}{A:Br}{outer:Aa Iw}{s:Ah}{H:Hp}{E:XK}:ZPass (cxC cm P w K mg base N qual scope f cd A outer s H E):=⟨ZU⟩
theorem EU {x:Ao}{st:Fb}{ps:Aa Ao}{k:Af}{g:DS}(h:Src K mg x st ps)(S:FnScope N ps (qJ st))(hbd:zM st=body)
  (hbody:∀ (f:Ad) (cdv:Ac) (A:Br) (outer:Aa Iw) (s:Ah) (H:Hp) (E:XK),kF K x cdv->RoomC cm k (A.deeper (Gb x (qJ st) s.heap.objs.size f cdv)) ->
   QB (cxC cm P w K mg base N x (qJ st) f cdv A outer s H E) body g):Def P w K mg base cm (k+1) x ps.length (qO N.length g):=
 BW h S λf cdv A outer s H E hc hr=>hbd▸(hbody f cdv A outer s H E hc hr).1
theorem D9 {x:Ao}{st:Fb}{ps:Aa Ao}{k:Af}{g:DS}(h:Src K mg x st ps)(S:FnScope N ps (qJ st))(hbd:zM st=body)
  (hbody:∀ (f:Ad) (cdv:Ac) (A:Br) (outer:Aa Iw) (s:Ah) (H:Hp) (E:XK),kF K x cdv->RoomC cm k (A.deeper (Gb x (qJ st) s.heap.objs.size f cdv)) ->
   QB (cxC cm P w K mg base N x (qJ st) f cdv A outer s H E) body g):lJ P w K mg base cm (k+1) x ps (qO N.length g):=
 UC h S λf cdv A outer s H E hc hr=>hbd▸(hbody f cdv A outer s H E hc hr).1
end
structure QTs (X:Cx)(ifs:Aa Bn)(t:DT):Prop where
 get:PTs X ifs t
section
variable {X:Cx}{elt tg iter e:Bn}{ifs es:Aa Bn}{scope:Do}{pos p:Eg}{N':Aa Ao}{cap:Aa (Al Af)}{fi:DI}{g:DG}{t u:DT}{fe:DE}{fa:DA}{x:Ao}{cm:Ap}{k n:Af}{F:DF}
theorem GC:QTs X [] yP:=⟨UO⟩
theorem Y4 (h1:QT X e t)(h2:QTs X es u):QTs X (e::es) (xJ t u):=⟨XA h1.1 h2.1⟩
theorem qcO (G:Def X.prog X.w X.K X.mg X.base cm k x n F)(hr:RoomC cm k X.A)(hg:Gl X x)(ha:QA X (e::es) fa)(hdb:(x == ("__debug__" : Ao))=false)(he:Bl (e::es) X.env=(false,eval e X.env)::Bl es X.env:=by rfl)(hpl:(Ft pos (Bl es X.env)).any (·.1)=false:=by rfl) :
  QE X (.Call (.Name x p) (e::es) [] pos) (qK n (okO F) fa):=⟨dcO G hr hg ha.1 hdb he hpl⟩
end
def stn (o:Al (Af × MO))(S:Sto):Prop:=match o with
 |none=>NE
 |some p=>S[p.1]? = Ab p.2
open Classical in
def pH (o:Al (Af × MO))(S:Sto):Ap:=decide (stn o S)
theorem wJ {o:Al (Af × MO)}:pH o S=true↔stn o S:=by simp[pH]
structure ItD2 (K:Ak)(J:It)(P:Hp)(α : Aa Ad)(o:Al (Af × MO))(ds:Aa D):Prop where
 go:∀ i H P1 α1 S,i<ds.length->Rel K H P1 α1 S->stn o S->qD P P1->α<+:α1->J.go i H
 yld:∀ i H x H' P1 α1 S,i<ds.length->Rel K H P1 α1 S->stn o S->qD P P1->α<+:α1->J.yld i H x H'->∃ P2 d,ds[i]? = Ab d/\Rel K H' P2 α1 S/\qD P1 P2/\Rep K P2 α1 d x
 stop:∀ i H P1 α1 S,ds.length<=i->Rel K H P1 α1 S->stn o S->qD P P1->α<+:α1->J.stop i H
theorem ItD.two {K:Ak}{J:It}{P:Hp}(h:ItD K J P α ds):ItD2 K J P α none ds:=
 ⟨λi H P1 α1 S a b _ c d=>h.go i H P1 α1 S a b c d,λi H x H' P1 α1 S a b _ c d e=>h.yld i H x H' P1 α1 S a b c d e,λi H P1 α1 S a b _ c d=>h.stop i H P1 α1 S a b c d⟩
abbrev DI2:=qC->Sto->Res (Al (Af × MO) × Aa D)
inductive tDI2 (X:Cx)(f:DI2)(σ : _L.St)(H:Hp)(R:It->Hp->Prop):Prop
 |mk (P:Hp) (α : Aa Ad) (env:qC) (S:Sto) (r:Rel X.K H P α S) (re:z0 X.K P α σ env) (af:qI X P α (f env S) (λp S'=>∀ J H' P' α',Rel X.K H' P' α' S'->qD P P'->α<+:α'->ItD2 X.K J P' α' p.1 p.2->R J H')):tDI2 X f σ H R
noncomputable def u7 (f:DI):DI2:=λenv S=>(f env S).bind λds S1=>.ok (none,ds) S1
section
variable {X:Cx}{K:Ak}{tg e:Bn}{fa:DE}{pos:Eg}
theorem UG {f:DI}(h:PI X tg e (tDI X f)):PI X tg e (tDI2 X (u7 f)):=PI.weak h λσ H R ⟨P,α,env,S,r,re,af⟩=>by
 refine⟨P,α,env,S,r,re,?_⟩;unfold u7 at af;cases q:f env S with
 |bad=>rw[q] at af;exact af
 |ex c x S'=>rw[q] at af;exact af
 |ok ds S1 =>
  rw[q] at af;exact λJ H' P' α' r' e1 e2 it=>af J H' P' α' r' e1 e2 it.two
theorem JH {P:Hp}{a:Ad}{n:Af}(hα:α[n]? = Ab a):ItD2 K (Itl K a) P α (Ab (n,.lst ds)) ds where
 go:=λi H P1 α1 S hi r st e e2=>by
  obtain⟨vs,z,t⟩:=r.at' n a _ (bE e2 hα) st;exact⟨vs,vs[i]'(by rw[<- t.length];exact hi),.of z,by simp⟩
 yld:=λi H x H' P1 α1 S hi r st e e2 y=>by
  obtain⟨rfl,y⟩:=y;obtain⟨vs,z,t⟩:=r.at' n a _ (bE e2 hα) st;have hx:=y vs (.of z);obtain⟨v,h1,h2⟩:=t.get (Am hi);rw[hx] at h1;cases h1;exact⟨P1,_,Am hi,r,qD.refl _,h2⟩
 stop:=λi H P1 α1 S hi r st e e2=>by
  obtain⟨vs,z,t⟩:=r.at' n a _ (bE e2 hα) st;exact⟨vs,.of z,by rw[<- t.length];exact hi⟩
noncomputable def itD (d:D)(S:Sto):Res (Al (Af × MO) × Aa D):=match d with
 |.tup xs=>.ok (none,xs) S
 |.lst xs=>.ok (none,xs) S
 |.loc n=>match S[n]? with
  |some (.lst xs)=>.ok (Ab (n,.lst xs),xs) S
  |_=>.bad
 |_=>.bad
noncomputable def dIt (f:DE):DI2:=λenv S=>(f env S).bind λd S1=>itD d S1
theorem DB (ha:PE X e (tD X fa)):PI X tg e (tDI2 X (dIt fa)):=by
 intro pins s σ H R I h;obtain⟨P,α,env,S,r,re,af⟩:=h;refine thn (zL ha I r re af) λvv s1 ⟨v,H1,P1,α1,d,S1,G1,af1⟩=>?_;have seq:∀ ds,zJ d=Ab ds->(∀ J H' P' α',Rel X.K H' P' α' S1->qD P P'->α<+:α'->ItD2 X.K J P' α' none ds->R J H')->Av (Ba X.prog X.w) X.A (Pg vv) (PIE X pins σ tg R) X.xe s1:=λds e1 q =>
  dG G1.inv G1.rel G1.val G1.rep e1 λJ H' P' α' r' h1 h2 it=>q J H' P' α' r' (G1.same.trans h1) (G1.pre.trans h2) it.two
 cases d with
 |tup xs=>exact seq xs rfl af1
 |lst xs=>exact seq xs rfl af1
 |loc n =>
  obtain⟨xs,hS,af1⟩:=g9 (X:=X) (f:=λxs=>Res.ok (Ab (n,MO.lst xs),xs) S1) af1;have rp:=G1.rep;simp only[Rep] at rp;obtain⟨a,rfl,ha⟩:=rp;cases (show vv=Cf a from G1.val)
  obtain⟨vs,z,t⟩:=G1.rel.at' n a _ ha hS;obtain⟨its,rv,p,hz⟩:=G1.inv.list (SqL.of z);refine EQ p.isList ?_;refine⟨s1.heap.objs.size,[s1.heap.objs.size],_,_,H1,rfl,G1.inv.kept (t':=s1.toks) λb o e=>Aj _ e,l0 a _,⟨_,Be _ rfl,rfl,rfl⟩,λb hb=>?_,af1 _ _ P1 α1 G1.rel G1.same G1.pre (JH ha)⟩;have e:b=s1.heap.objs.size:=by simpa using hb
  subst e;exact G1.inv.fpOk (Ax _) (G1.inv.hok.fresh (Ax _))
 |_=>exact An af1
end
def xW (o:Al (Af × MO))(g:DG)(f:DS):Aa D->qC->Sto->Out
 |[],env,S=>if pH o S then .nx env S else .bad
 |d::ds,env,S=>if pH o S then (g d env S).toS env λenv1 S1=>match f env1 S1 with
  |.nx env2 S2=>xW o g f ds env2 S2
  |.ct env2 S2=>xW o g f ds env2 S2
  |.bk env2 S2=>.nx env2 S2
  |o=>o
  else .bad
def aK (fi:DI2)(g:DG)(f:DS):DS:=λenv S=>(fi env S).toS env λp S1=>xW p.1 g f p.2 env S1
inductive LoopW2 (X:Cx)(P1:Hp)(α1:Aa Ad)(o:Al (Af × MO))(g:DG)(f:DS)(ds:Aa D)(D:Ends)(i m:Af)(σ : _L.St)(H:Hp):Prop
 |mk (hi:i<=ds.length) (hm:m=ds.length-i) (P2:Hp) (α2:Aa Ad) (env2:qC) (S2:Sto) (r:Rel X.K H P2 α2 S2) (re:z0 X.K P2 α2 σ env2) (e1:qD P1 P2) (e2:α1<+:α2) (af:qQ X P2 α2 (xW o g f (ds.drop i) env2 S2) D):LoopW2 X P1 α1 o g f ds D i m σ H
section
variable {X:Cx}{tg:Bn}{pos:Eg}
theorem UL {iter:Bn}{fi:DI2}{g:DG}{f:DS}(hp:Nj (Ba X.prog X.w) X.A X.env X.xe)(hc:X.calm=true)(hi:PI X tg iter (tDI2 X fi))(hg:PG X tg (tDG X g))(hb:PSs X body (tDS X f))
  (hs:∀ x,Fj iter X.env x=pure x:=by intro _;rfl):PS X (.For tg iter body [] pos) (tDS X (aK fi g f)):=psW (Q0 hp hc hi hg hb hs) λD σ H ⟨P,α,env,S,r,re,af⟩=>by
 refine⟨P,α,env,S,r,re,?_⟩;have af1:=zZ af;cases q:fi env S with
 |bad=>rw[q] at af1;exact af1
 |ex c x S'=>rw[q] at af1;exact af1
 |ok p S1 =>
  obtain⟨o,ds⟩:=p;rw[q] at af1;have af2:qQ X P α (xW o g f ds env S1) D:=af1;intro J H1 P1 α1 r1 e1 e2 it;have it:ItD2 X.K J P1 α1 o ds:=it;refine⟨LoopW2 X P1 α1 o g f ds D,
   ⟨ds.length,Hg _,rfl,P1,α1,env,S1,r1,re.mono e1 e2,qD.refl _,Bf _,qQ.base e1 e2 af2⟩,?_⟩
  rintro i m σ2 H2 ⟨hi,rfl,P2,α2,env2,S2,r2,re2,e3,e4,af3⟩;by_cases hsb:pH o S2=true
  .have hst:=wJ.mp hsb
   by_cases hlt:i<ds.length
   .refine .inr ⟨it.go i H2 P2 α2 S2 hlt r2 hst e3 e4,LoopW2 X P1 α1 o g f ds D (i+1) (ds.length-(i+1)),λσ' H' w=>⟨_,?_,w⟩,λx H3 y=>?_⟩
    .omega
    .obtain⟨P3,d,hd,r3,e5,rp⟩:=it.yld i H2 x H3 P2 α2 S2 hlt r2 hst e3 e4 y
     have hdr:ds.drop i=d::ds.drop (i+1):=by
      rw[Fm hlt];rw[Am hlt] at hd;rw[Cj hd]
     rw[hdr] at af3;unfold xW at af3;rw[Bc hsb] at af3;have af4:=zZ (qQ.base e5 (Bf _) af3);refine⟨P3,α2,env2,S2,d,r3,re2.mono e5 (Bf _),rp,?_⟩;cases q2:g d env2 S2 with
     |bad=>rw[q2] at af4;exact af4
     |ex c x S'=>rw[q2] at af4;exact af4
     |ok env3 S3 =>
      rw[q2] at af4;intro σ4 H4 P4 α4 r4 re4 e6 e7;refine⟨P4,α4,env3,S3,r4,re4,?_⟩;have af5:=qQ.base e6 e7 af4;cases q3:f env3 S3 with
      |bad=>simp only[q3] at af5;exact af5
      |ex c x env4 S4=>simp only[q3] at af5;exact af5
      |rt d4 S4=>simp only[q3] at af5;exact af5
      |bk env4 S4=>simp only[q3] at af5;exact af5
      |nx env4 S4 =>
       simp only[q3] at af5;exact λσ5 H5 P5 α5 r5 re5 e8 e9=>⟨hlt,rfl,P5,α5,env4,S4,r5,re5,((e3.trans e5).trans e6).trans e8,(e4.trans e7).trans e9,qQ.base e8 e9 af5⟩
      |ct env4 S4 =>
       simp only[q3] at af5;exact λσ5 H5 P5 α5 r5 re5 e8 e9=>⟨hlt,rfl,P5,α5,env4,S4,r5,re5,((e3.trans e5).trans e6).trans e8,(e4.trans e7).trans e9,qQ.base e8 e9 af5⟩
   .have hdr:ds.drop i=[]:=IU om
    rw[hdr] at af3;unfold xW at af3;rw[Bc hsb] at af3;exact .inl ⟨it.stop i H2 P2 α2 S2 om r2 hst e3 e4,af3 σ2 H2 P2 α2 r2 re2 (qD.refl _) (Bf _)⟩
  .cases hdr:ds.drop i with
   |nil=>rw[hdr] at af3;unfold xW at af3;rw[Aw hsb] at af3;exact An af3
   |cons d r=>rw[hdr] at af3;unfold xW at af3;rw[Aw hsb] at af3;exact An af3
end
noncomputable def emX (m:Ap)(elt:Bn)(acc:Ac)(env:Iw):Ke Qm:=match m with
 |false=>do let _ <- call (.builtin "list.append") [acc,<- eval elt env]
 |true=>do let v <- eval elt env;OO elt.pos;let _ <- call (.builtin "set.add") [acc,v]
noncomputable def xQ (m:Ap)(elt:Bn)(gens:Aa Du)(scope:Do)(pos:Eg)(k:Af)(acc:Ac)(env:Iw):Ke Qm:=
 match gens[k+1]? with
 |some g'=>do
  let x <- eval g'.iter env
  OO g'.iter.pos
  let x <- Fj g'.iter env x
  let it <- holding [x] (Pg x)
  let _ <- runOwn (.compStart (xM m elt gens scope pos) (k+1) it acc env) env
 |none=>emX m elt acc env
theorem YI (m:Ap)(elt target iter:Bn)(ifs:Aa Bn)(gens:Aa Du)(scope:Do)(pos:Eg)(it acc:Ac)(env:Iw)(k:Af)(hg:gens[k]? = Ab ⟨target,iter,ifs,0⟩)(ha:∀ g',gens[k+1]? = Ab g'->g'.is_async=0) :
  Wk (xM m elt gens scope pos) k it acc env=(do
   OO iter.pos
   match <- Pe it with
   |none=>pure (.done .next)
   |some v =>
    IQ target it v
    assign target env v
    let mut ok:=true
    for c in ifs do
     if ok then ok <- isTrue c env (eval c env)
    if ok then xQ m elt gens scope pos k acc env
    again (.compLoop (xM m elt gens scope pos) k it acc env)):=by
 cases m <;>
 .unfold Wk xQ xM emX
  simp only[hg];cases q:gens[k+1]? with
  |none=>rfl
  |some g' =>
   have h0:=ha g' q;have e0:(g'.is_async != 0)=false:=by rw[h0];rfl
   simp only[e0,Cz,Fv,bind_assoc,pure_bind];rfl
abbrev DK:=qC->Sto->Aa D->Res (qC × Aa D)
def goL (o:Al (Af × MO))(g:DG)(t:DT)(k:DK):Aa D->DK
 |[],env,S,acc=>if pH o S then .ok (env,acc) S else .bad
 |d::ds,env,S,acc=>if pH o S then (g d env S).bind λenv1 S1=>(t env1 S1).bind λb S2 =>
   if b then (k env1 S2 acc).bind λp S3=>goL o g t k ds p.1 S3 p.2 else goL o g t k ds env1 S2 acc
  else .bad
noncomputable def zX (fe:DE):DK:=λenv S acc=>(fe env S).bind λx S1=>if acc.length<lim then .ok (env,acc++[x]) S1 else .bad
def YS (B:Acc)(Y:Cx)(pins:Aa (Ad × Cg))(P1:Hp)(α1:Aa Ad)(acc:Ad)(env:qC)(S:Sto)(ds:Aa D)(s:Ah):Prop:=
 ∃ σ H P α o,TurnSt B Y pins P1 α1 [] acc env S ds s σ H P α o
def PK (B:Acc)(Y:Cx)(step:Ac->Ke Qm)(k:DK):Prop:=
 ∀ (pins:Aa (Ad × Cg)) (P1:Hp) (α1:Aa Ad) (acc:Ad) (env env':qC) (S S':Sto) (ds ds':Aa D) (s:Ah),(∀ H:Hp,H acc=none->x8 Y pins H acc)->YS B Y pins P1 α1 acc env S ds s->k env S ds=.ok (env',ds') S' ->
  Av (Ba Y.prog Y.w) Y.A (step (.ref acc)) (λ_ s'=>YS B Y pins P1 α1 acc env' S' ds' s') (λ_ _=>Ez) s
section
variable {B:Acc}{Y:Cx}{elt tg iter:Bn}{ifs:Aa Bn}{gens:Aa Du}{scope:Do}{pos:Eg}{k:Af}{g:DG}{t:DT}{fe:DE}{it acc:Ad}{fp:Aa Ad}{J:It}{tn:Af->Bs->Prop}{items:Aa D}{P1:Hp}{α1:Aa Ad}{pins:Aa (Ad × Cg)}
theorem iX {X:Cx}{H:Hp}{b:Ad}{h:Bs}(f:x8 X pins H b)(hn:b ∉ fp):x8 X (pins++yZ fp h) H b:=by
 obtain⟨f0,f1,f2,f3,f4,f5⟩:=f;refine⟨f0,f1,f2,f3,f4,λp hp=>?_⟩;rcases Cs.mp hp with z|z
 .exact f5 p (Dr _ z)
 .rcases Cs.mp z with z|z
  .exact f5 p (Bx _ z)
  .rintro rfl
   exact hn (nV z).1
theorem Res.bind_inv {β γ:Type}{r:Res β}{f:β->Sto->Res γ}{x:γ}(h:r.bind f=.ok x S):∃ b S1,r=.ok b S1/\f b S1=.ok x S:=by
 cases r with
 |ok b S1=>exact⟨b,S1,rfl,h⟩
 |_=>cases h
inductive GoC (o:Al (Af × MO))(g:DG)(t:DT)(k:DK)(d:D)(ds acc:Aa D)(env:qC)(S SF:Sto)(x:qC × Aa D):Prop
 |no (env1:qC) (S1 S2:Sto) (z:stn o S) (q1:g d env S=.ok env1 S1) (q2:t env1 S1=.ok false S2) (r:goL o g t k ds env1 S2 acc=.ok x SF):GoC o g t k d ds acc env S SF x
 |yes (env1:qC) (S1 S2:Sto) (env5:qC) (ds5:Aa D) (S5:Sto) (z:stn o S) (q1:g d env S=.ok env1 S1) (q2:t env1 S1=.ok true S2) (q3:k env1 S2 acc=.ok (env5,ds5) S5) (r:goL o g t k ds env5 S5 ds5=.ok x SF):GoC o g t k d ds acc env S SF x
set_option tactic.hygienic true in
theorem XO {o:Al (Af × MO)}{k:DK}{d:D}{acc:Aa D}{x:qC × Aa D}(h:goL o g t k (d::ds) env S acc=.ok x SF):GoC o g t k d ds acc env S SF x:=by
 simp only[goL] at h
 split at h
 .rename_i z
  obtain⟨env1,S1,q1,h⟩:=Res.bind_inv h;obtain⟨b,S2,q2,h⟩:=Res.bind_inv h;cases b with
  |false=>exact .no env1 S1 S2 (wJ.mp z) q1 q2 h
  |true =>
   obtain⟨⟨env5,ds5⟩,S5,q3,h⟩:=Res.bind_inv h;exact .yes env1 S1 S2 env5 ds5 S5 (wJ.mp z) q1 q2 q3 h
 .cases h
set_option tactic.hygienic true in
theorem J6 {o:Al (Af × MO)}{k:DK}{acc:Aa D}(h:goL o g t k [] env S acc=.ok (envF,dsF) SF):stn o S/\env=envF/\acc=dsF/\S=SF:=by
 simp only[goL] at h
 split at h
 .rename_i z
  cases h;exact⟨wJ.mp z,rfl,rfl,rfl⟩
 .cases h
inductive LpI (B:Acc)(Y:Cx)(pins:Aa (Ad × Cg))(P1:Hp)(α1:Aa Ad)(fp:Aa Ad)(acc:Ad)(tn:Af->Bs->Prop)(G:Aa D->DK)(items:Aa D)(x:qC × Aa D)(SF:Sto)(n:Af)(s:Ah):Prop
 |mk (i:Af) (σ : _L.St) (H P:Hp) (α : Aa Ad) (o:Cg) (env:qC) (S:Sto) (ds:Aa D) (hn:n=items.length-i) (hi:i<=items.length) (st:TurnSt B Y pins P1 α1 fp acc env S ds s σ H P α o) (st1:tn i s.heap) (run:G (items.drop i) env S ds=.ok x SF):LpI B Y pins P1 α1 fp acc tn G items x SF n s
theorem GW {m:Ap}{M:Lz}{A:Br}{Q:Fin->Ah->Prop}{E:Ac->Ah->Prop}{s:Ah}{it acc:Ac}{en:Iw}(hgk:gens[k]? = Ab ⟨tg,iter,ifs,0⟩)(has:∀ g',gens[k+1]? = Ab g'->g'.is_async=0)
  (ha:∀ s,Qa s->Q (.again (.compLoop (xM m elt gens scope pos) k it acc en)) s) (hd:∀ s,Qd s->Q (.done .next) s)
  (h:Av M A (Pe it) (λr s1=>(r=none->Qd s1)/\∀ v,r=Ab v->Av M A (IQ tg it v) (λ_ s2=>Av M A (assign tg en v) (λ_ s3=>Av M A (uV ifs en) (λb s4=>(b=false->Qa s4)/\(b=true->Av M A (xQ m elt gens scope pos k acc en) (λ_ s5=>Qa s5) E s4)) E s3) E s2) E s1) E s) :
  Av M A (Wk (xM m elt gens scope pos) k it acc en) Q E s:=by
 rw[YI m elt tg iter ifs gens scope pos it acc en k hgk has];refine Ai (OH (Ai (thn h λr s1 ⟨h0,h1⟩=>?_)));cases r with
 |none=>exact AT (hd _ (h0 rfl))
 |some v =>
  refine Ai (thn (h1 v rfl) λ_ s2 h2=>Ai (thn h2 λ_ s3 h3=>Ai (thn h3 λb s4 h4=>?_)));cases b with
  |false=>exact AT (ha _ (h4.1 rfl))
  |true=>exact Ai (thn (h4.2 rfl) λ_ s5 h5=>AT (ha _ h5))
theorem UZ (hfp:∀ H:Hp,(∀ b∈fp,H b=none)->∀ b∈fp,x8 Y pins H b)(hne:acc ∉ fp)(o:Cg)(H':Hp)(hn:∀ b∈fp,H' b=none):∀ b∈fp,x8 Y (pins++[(acc,o)]) H' b:=λb hb=>by
 obtain⟨f0,f1,f2,f3,f4,f5⟩:=hfp H' hn b hb;refine⟨f0,f1,f2,f3,f4,λp hp=>?_⟩;rcases Cs.mp hp with z|z
 .exact f5 p (Dr _ z)
 .rcases Cs.mp z with z|z
  .exact f5 p (Bx _ z)
  .rw[Dc.mp z]
   rintro rfl;exact hne hb
theorem jB {i:Af}{h:Bs}(T:Turn Y.prog Y.w Y.K tg J fp it tn)(st2:tn (i+1) h)(pl:∀ b∈fp,∃ o,h.get? b=Ab o/\∀ v,o.data≠.cell v){s5:Ah}{σ5:_L.St}{H5:Hp}(I5:Inv Y (pins++yZ fp h) σ5 H5 s5):tn (i+1) s5.heap/\(∀ b∈fp,H5 b=none):=by
 refine⟨T.keep _ _ _ st2 λb hb o' e=>(I5.pin (b,o') (Bx _ (Bx _ (u9 hb e)))).1,λb hb=>?_⟩;obtain⟨o',e,d'⟩:=pl b hb;exact(I5.pin (b,o') (Bx _ (Bx _ (u9 hb e)))).2.1
theorem cN {kk:DK}{E:Ac->Ah->Prop}{s:Ah}{σ:_L.St}{H P:Hp}{o:Cg}{i:Af}(hc:Y.calm=true)(hx:Y.xe=λ_ _=>Ez)
  (T:Turn Y.prog Y.w Y.K tg J fp it tn) (hit:ItD2 Y.K J P1 α1 o' items) (hg:PG Y tg (tDG Y g)) (ht:PTs Y ifs t) (he:PK B Y (λacc=>xQ B.m elt gens scope pos k acc Y.env) kk) (hacc:∀ H:Hp,H acc=none->x8 Y pins H acc) (hfp:∀ H:Hp,(∀ b∈fp,H b=none)->∀ b∈fp,x8 Y pins H b) (hne:acc ∉ fp)
  (hi:i<=items.length) (st:TurnSt B Y pins P1 α1 fp acc env S ds s σ H P α o) (st1:tn i s.heap) (run:goL o' g t kk (items.drop i) env S ds=.ok (envF,dsF) SF)
  (hA:∀ s' σ' H' P' α' o1 env1 S' ds',i<items.length->TurnSt B Y pins P1 α1 fp acc env1 S' ds' s' σ' H' P' α' o1->tn (i+1) s'.heap->goL o' g t kk (items.drop (i+1)) env1 S' ds'=.ok (envF,dsF) SF->Qa s')
  (hD:∀ s' σ' H' P' α' o',TurnSt B Y pins P1 α1 fp acc envF SF dsF s' σ' H' P' α' o'->Qd s') :
  Av (Ba Y.prog Y.w) Y.A (Pe (.ref it)) (λr s1=>(r=none->Qd s1)/\∀ v,r=Ab v->Av (Ba Y.prog Y.w) Y.A (IQ tg (.ref it) v) (λ_ s2=>Av (Ba Y.prog Y.w) Y.A (assign tg Y.env v) (λ_ s3=>Av (Ba Y.prog Y.w) Y.A (uV ifs Y.env) (λb s4=>(b=false->Qa s4)/\(b=true->Av (Ba Y.prog Y.w) Y.A (xQ B.m elt gens scope pos k (.ref acc) Y.env) (λ_ s5=>Qa s5) E s4)) E s3) E s2) E s1) E s:=by
 have I1:=_D.Inv.pin1 st.inv (hacc H st.acn) st.at' (B.cell st.acc);have fp1:=UZ hfp hne o;by_cases hlt:i<items.length
 .have hdr:items.drop i=items[i]::items.drop (i+1):=Fm hlt
  rw[hdr] at run;have run:=XO run;have hst:stn o' S:=by cases run with|no _ _ _ z=>exact z|yes _ _ _ _ _ _ z=>exact z
  refine fE (T.item Y rfl rfl rfl hc i _ s σ H (λ_ _=>Ez) I1 (fp1 H st.fpn) st1 (hit.go i H P α S hlt st.rel hst st.same st.pre)) λr s1 ⟨u,hr,h1⟩=>⟨λz=>(by rw[hr] at z;cases z),λv hv=>?_⟩
  obtain rfl:v=u:=Cj (hv.symm.trans hr);refine fE h1 λ_ s2 ⟨x,H2,I2,rx,y,st2,fr2⟩=>?_;obtain⟨P2,d,hd,r2,e2,rp⟩:=hit.yld i H x H2 P α S hlt st.rel hst st.same st.pre y;cases (Am hlt).symm.trans hd;have pl:=T.obj _ _ st2;have I2':=I2.pinned (fp1 _ fr2) pl;have two:∀ env1 S1 b S2,g items[i] env S=.ok env1 S1->t env1 S1=.ok b S2->(∀ s4 σ3 H4 P4 α4 (I4:Inv Y (pins++yZ fp s2.heap) σ3 H4 s4),TurnSt B Y pins P1 α1 fp acc env1 S2 ds s4 σ3 H4 P4 α4 o->tn (i+1) s4.heap->(b=false->Qa s4)/\(b=true->Av (Ba Y.prog Y.w) Y.A (xQ B.m elt gens scope pos k (.ref acc) Y.env) (λ_ s5=>Qa s5) E s4))->Av (Ba Y.prog Y.w) Y.A (assign tg Y.env v) (λ_ s3=>Av (Ba Y.prog Y.w) Y.A (uV ifs Y.env) (λb s4=>(b=false->Qa s4)/\(b=true->Av (Ba Y.prog Y.w) Y.A (xQ B.m elt gens scope pos k (.ref acc) Y.env) (λ_ s5=>Qa s5) E s4)) E s3) E s2:=by
   intro env1 S1 b S2 q1 q2 next;refine fE (hx▸HL hg I2' r2 (st.env.mono e2 (Bf _)) rx rp q1) λ_ s3 ⟨σ3,H3,P3,α3,I3,r3,re3,e3,e3'⟩=>?_;refine fE (hx▸R6 ht I3 r3 re3 q2) λb' s4 ⟨hb,H4,P4,α4,I4,r4,re4,e4,e4'⟩=>?_;have I4':Inv Y (pins++yZ fp s2.heap) σ3 H4 s4:=I4.pins_of λp hp=>I4.pin p (Bx _ ((Cs.mp hp).elim (λz=>Dr _ (Dr _ z)) λz=>Bx _ z));have a4:=I4.pin (acc,o) (Bx _ (Dr _ (Bx _ (Dc.mpr rfl))));rw[hb];exact next s4 σ3 H4 P4 α4 I4' ⟨I4'.unpinned,r4,re4,((st.same.trans e2).trans e3).trans e4,(st.pre.trans e3').trans e4',(jB T st2 pl I4').2,a4.2.1,a4.1,B.mono ((e2.trans e3).trans e4) (e3'.trans e4') st.acc⟩ (jB T st2 pl I4').1
  cases run with
  |no env1 S1 S2 _ q1 q2 run=>exact two env1 S1 false S2 q1 q2 λs4 σ3 H4 P4 α4 I4 st4 tn4=>⟨λ_=>hA s4 σ3 H4 P4 α4 o env1 S2 ds hlt st4 tn4 run,λz=>(by cases z)⟩
  |yes env1 S1 S2 env5 ds5 S5 _ q1 q2 q3 run =>
   refine two env1 S1 true S2 q1 q2 λs4 σ3 H4 P4 α4 I4 st4 tn4=>⟨λz=>(by cases z),λ_=>?_⟩
   refine fE (he (pins++yZ fp s2.heap) P1 α1 acc env1 env5 S2 S5 ds ds5 s4 (λH hn=>iX (hacc H hn) hne) ⟨σ3,H4,P4,α4,o,I4,st4.rel,st4.env,st4.same,st4.pre,λb hb=>(by cases hb),st4.acn,st4.at',st4.acc⟩ q3) λ_ s5 ⟨σ5,H5,P5,α5,o5,T5⟩=>?_
   exact hA s5 σ5 H5 P5 α5 o5 env5 S5 ds5 hlt ⟨T5.inv.unpinned,T5.rel,T5.env,T5.same,T5.pre,(jB T st2 pl T5.inv).2,T5.acn,T5.at',T5.acc⟩ (jB T st2 pl T5.inv).1 run
 .rw[IU li] at run
  obtain⟨z,rfl,rfl,rfl⟩:=J6 run;refine fE (T.done Y rfl rfl rfl hc i _ s σ H (λ_ _=>Ez) I1 (fp1 H st.fpn) st1 (hit.stop i H P α _ li st.rel z st.same st.pre)) λr s1 ⟨hr,I2⟩=>⟨λ_=>?_,λv hv=>(by rw[hr] at hv;cases hv)⟩
  have a:=_D.Inv.pinned1 I2;exact hD s1 σ H P α o ⟨I2.unpinned,st.rel,st.env,st.same,st.pre,st.fpn,a.2,a.1,st.acc⟩
theorem W7 (P:Bi)(w:Ca)(m:Ap)(elt:Bn)(gens:Aa Du)(scope:Do)(pos:Eg)(k:Af)(it acc:Ac)(env:Iw):(Ba P w).den (.compLoop (xM m elt gens scope pos) k it acc env)=(Wk (xM m elt gens scope pos) k it acc env).onRaise (λx=>do noteFrame x env;theTreesLotGoes x):=by cases m <;> rfl
theorem W8 (A:Br)(m:Ap)(elt:Bn)(gens:Aa Du)(scope:Do)(pos:Eg)(k:Af)(it acc:Ac)(env:Iw):A.under (.compLoop (xM m elt gens scope pos) k it acc env)=A:=by cases m <;> rfl
theorem cM {kk:DK}{R:Xk->Ah->Prop}{s:Ah}{σ:_L.St}{H P:Hp}{ds0:Aa D}{o:Cg}(hc:Y.calm=true)(hx:Y.xe=λ_ _=>Ez)(hgk:gens[k]? = Ab ⟨tg,iter,ifs,0⟩)(has:∀ g',gens[k+1]? = Ab g'->g'.is_async=0)
  (T:Turn Y.prog Y.w Y.K tg J fp it tn) (hit:ItD2 Y.K J P1 α1 o' items) (hg:PG Y tg (tDG Y g)) (ht:PTs Y ifs t) (he:PK B Y (λacc=>xQ B.m elt gens scope pos k acc Y.env) kk) (hacc:∀ H:Hp,H acc=none->x8 Y pins H acc) (hfp:∀ H:Hp,(∀ b∈fp,H b=none)->∀ b∈fp,x8 Y pins H b) (hne:acc ∉ fp)
  (st:TurnSt B Y pins P1 α1 fp acc env S ds0 s σ H P α o) (st0:tn 0 s.heap) (run:goL o' g t kk items env S ds0=.ok (envF,dsF) SF)
  (hR:∀ s' σ' H' P' α' o',TurnSt B Y pins P1 α1 fp acc envF SF dsF s' σ' H' P' α' o'->R (.ok .next) s') :
  IE (Ba Y.prog Y.w) Y.A (.compLoop (xM B.m elt gens scope pos) k (.ref it) (.ref acc) Y.env) R s:=by
 refine codeAny_loop rfl (LpI B Y pins P1 α1 fp acc tn (goL o' g t kk) items (envF,dsF) SF) (λn s hI=>?_) items.length ⟨0,σ,H,P,α,o,env,S,ds0,rfl,Hg _,st,st0,run⟩;obtain⟨i,σ,H,P,α,o,env,S,ds,hn,hi,st,st1,run⟩:=hI;subst hn;rw[W7,W8];refine wpAny_noted (GW (m:=B.m) hgk has (Qa:=λs'=>∃ m,m<items.length-i/\LpI B Y pins P1 α1 fp acc tn (goL o' g t kk) items (envF,dsF) SF m s') (Qd:=R (.ok .next)) (λ_ h=>⟨rfl,h⟩) (λ_ h=>h) ?_);exact cN hc hx T hit hg ht he hacc hfp hne hi st st1 run (λs' σ' H' P' α' o1 env1 S' ds' hlt st' tn' run'=>⟨_,Nat.sub_succ_lt_self _ _ hlt,i+1,σ',H',P',α',o1,env1,S',ds',rfl,hlt,st',tn',run'⟩) hR
set_option tactic.hygienic true in
theorem KH (hx:Y.xe=λ_ _=>Ez)(hlast:gens[k+1]? = none)(he:PE Y elt (tD Y fe)):PK accL Y (λacc=>xQ false elt gens scope pos k acc Y.env) (zX fe):=by
 intro pins P1 α1 acc env env' S S' ds ds' s hacc ⟨σ,H,P,α,o,st⟩ run;show Av _ _ (xQ false elt gens scope pos k (.ref acc) Y.env) _ _ s;unfold xQ;rw[hlast];dsimp only[emX];unfold zX at run;cases q3:fe env S with
 |bad=>rw[q3] at run;cases run
 |ex c z S'=>rw[q3] at run;cases run
 |ok d5 S5 =>
  rw[q3,Res.bind_ok] at run
  split at run
  .rename_i hlen
   cases run;have fA:=hacc H st.acn;have I1:=_D.Inv.pin1 st.inv fA st.at' (accL.cell st.acc);refine Ai (fE (hx▸HK he I1 st.rel st.env q3) λu5 s5 ⟨v5,H5,P5,α5,G5⟩=>?_);have J:=_D.Inv.pinned1 G5.inv;have J1:=G5.inv.unpinned;obtain⟨J4,J5⟩:=J;obtain⟨its,n5,vs,ho,rvs,rps,hz⟩:=st.acc;subst ho;have hlen':vs.length=ds.length:=rps.length.symm;have hl2:=rvs.length;refine Ai (call_meets Tw ⟨_,J4,rfl⟩ Sw (Sb _ _) (Uv acc its.toArray n5 u5 (by rw[Bh];rw[<- zS];lia)) ⟨J4,?_⟩)
   have q:=Vn J4 (·.push u5)
   have fA5:=hacc H5 J5;have keep:∀ b o,b≠acc->s5.heap.get? b=Ab o->(s5.heap.update acc (Ey (·.push u5))).get? b=Ab o:=λb o hb e=>(Cu s5.heap _ (Eu hb)).trans e
   have I6:=J1.turned (t':=s5.toks) keep J5 fA5.2.1 fA5.2.2.2.1 fA5.2.2.2.2.1 fA5.2.2.2.2.2;refine AT ⟨σ,H5,P5,α5,_,I6,G5.rel,G5.env,st.same.trans G5.same,st.pre.trans G5.pre,λb hb=>(by simp at hb),J5,q,?_⟩
   refine⟨its++[u5],_,vs++[v5],by simp <;> rfl,rvs.append (.cons G5.val .nil),?_,by simp;lia⟩
   exact(qB.mono G5.same G5.pre _ _ rps).append (.cons G5.rep .nil)
  .cases run
end
theorem lR {prog:Bi}{w:Ca}{A:Br}{R:Xk->Ah->Prop}{s:Ah}{elt:Bn}{gens:Aa Du}{scope:Do}{pos:Eg}{k:Af}{it acc:Ac}{env:Iw}{g:Du}{m:Ap}(hg:gens[k]? = Ab g)(ha:g.is_async=0)
  (h0:IE (Ba prog w) A (.compLoop (xM m elt gens scope pos) k it acc env) R s)
  (h:Av (Ba prog w) A (Pg it) (λit' s'=>IE (Ba prog w) A (.compLoop (xM m elt gens scope pos) k it' acc env) R s') (notedBy (Ba prog w) A env λx s'=>R (.error x) s') s) :
  IE (Ba prog w) A (.compStart (xM m elt gens scope pos) k it acc env) R s:=by
 refine codeAny_of_tree ?_;have e1:(Ba prog w).den (.compStart (xM m elt gens scope pos) k it acc env)=(compStart (xM m elt gens scope pos) k it acc env).onRaise (λx=>do noteFrame x env;OO theWindowsPlace):=by cases m <;> rfl
 have e2:A.under (.compStart (xM m elt gens scope pos) k it acc env)=A:=by cases m <;> rfl
 have e3:(Xy (xM m elt gens scope pos) k it acc env).quiet=true/\∀ it',(Xy (xM m elt gens scope pos) k it' acc env).quiet=true:=by cases m <;> exact⟨rfl,λ_=>rfl⟩
 rw[e1,e2];refine wpAny_notedAt ?_;have hcl:clausesOf (xM m elt gens scope pos)=gens:=by cases m <;> rfl
 have e0:(g.is_async != 0)=false:=by rw[ha];rfl
 unfold compStart;simp only[hcl,hg,Option.elim,e0,Cz,Fv];refine Ai (wpAny_askSetting (wpAny_ite ?_))
 split
 .exact AT (And.intro e3.1 h0)
 .refine Ai (Gj ?_)
  exact Ai (OH (Ai (ID h (λit' s' h'=>AT (And.intro (e3.2 _) h')) λ_ _ x=>x)))
noncomputable def mkM (m:Ap)(r:Res (qC × Aa D)):Res D:=match r with
 |.ok p S2=>if m then .ok (.loc S2.length) (S2++[.lst p.2]) else .ok (.lst p.2) S2
 |_=>.bad
def zY (m:Ap)(cap:Aa (Al Af))(fi:DI2)(g:DG)(t:DT)(k:DK):DE:=λenv S=>(fi env S).bind λp S1=>mkM m (goL p.1 g t k p.2 (xX cap env) S1 [])
section
variable {X:Cx}{elt tg iter:Bn}{ifs:Aa Bn}{scope:Do}{pos:Eg}{N':Aa Ao}{cap:Aa (Al Af)}{fi:DI2}{g:DG}{t:DT}{kk:DK}{qE:Aa Du}{mm:Ap}
theorem M8 {P:Hp}{r:Res (qC × Aa D)}{Ok:D->Sto->Prop}(h:qI X P α (mkM mm r) Ok):∃ envF ds SF,r=.ok (envF,ds) SF/\(if mm then Ok (.loc SF.length) (SF++[.lst ds]) else Ok (.lst ds) SF):=by
 cases r with
 |ok p S =>
  obtain⟨envF,ds⟩:=p;refine⟨envF,ds,S,rfl,?_⟩;cases mm <;> exact h
 |ex c x S=>exact An h
 |bad=>exact An h
theorem XB {pins:Aa (Ad × Cg)}{σ:_L.St}{P1:Hp}{α1:Aa Ad}{acc C:Ad}{s:Ah}{Q:VK}(c:pQ X pins σ P1 α1 ds SF acc C s)(ok:if mm then OkV X P1 α1 Q (.loc SF.length) (SF++[.lst ds]) else OkV X P1 α1 Q (.lst ds) SF):EP X pins σ Q (.ref acc) s:=by
 cases mm with
 |false=>exact UR c ok
 |true =>
  obtain⟨H',P',α',vs,I,r,hn,e1,e2,rp,_⟩:=c;exact⟨.ref acc,_,I,rfl,tL r hn rp λv H2 P2 α2 r2 q1 q2 q3=>ok v H2 P2 α2 r2 (e1.trans q1) (e2.trans q2) q3⟩
theorem iT {M:Lz}{A:Br}{E:Ac->Ah->Prop}{s:Ah}{globals:Ad}{closure:Aa (Ao × Ad)}{qual:Ao}{env:Iw}{Q:Iw->Ah->Prop}
  (hQ:Q (newEnv scope s.heap.objs.size globals (Gp (s.heap.objs.size+1) scope.names closure) qual none .none (Ab env) Oa) { s with heap:=Va (s.heap.push { cls:=.type "dict",data:=.dict #[] }) scope.names }) :
  Av M A (Rx scope globals closure [] qual none .none (Ab env)) Q E s:=by
 simp only[Rx,Tx,Dm];refine Ai (wpAny_alloc ?_);refine Ai (wpAny_layCells _ (λname kind cells=>by cases hkc:kind == Mr <;> simp[hkc]) _ _ _ _ ?_)
 rw[show ({ s with heap:=s.heap.push { cls:=.type "dict",data:=.dict #[] } } : Ah).heap.objs.size=s.heap.objs.size+1 from Ea ..]
 refine Ai ?_;rw[Ly];exact AT (AT hQ)
theorem r8 {B:Acc}{o0:Cg}{pins:Aa (Ad × Cg)}{σ:_L.St}{H2 P1:Hp}{α1:Aa Ad}{s2:Ah}{S1:Sto}{items:Aa D}{it:Ad}{fp:Aa Ad}{tn:Af->Bs->Prop}{J:It}{E:Ac->Ah->Prop}{RR:Ac->Ad->Xk->Ah->Prop}
  (hc:X.calm=true) (S:CompSc X.env.scope X.N scope N' cap) (has:∀ g',(⟨tg,iter,ifs,0⟩::qE:Aa Du)[0+1]? = Ab g'->g'.is_async=0)
  (hg:∀ cl C ex s₀ H₀,PG (zG X N' scope cl C ex s₀ H₀) tg (tDG (zG X N' scope cl C ex s₀ H₀) g))
  (ht:∀ cl C ex s₀ H₀,PTs (zG X N' scope cl C ex s₀ H₀) ifs t) (he:∀ cl C ex s₀ H₀,PK B (zG X N' scope cl C ex s₀ H₀) (λacc=>xQ B.m elt (⟨tg,iter,ifs,0⟩::qE) scope pos 0 acc (zG X N' scope cl C ex s₀ H₀).env) kk)
  (I2:Inv X pins σ H2 s2) (r:Rel X.K H2 P1 α1 S1) (re:z0 X.K P1 α1 σ env) (T:Turn X.prog X.w X.K tg J fp it tn) (st0:tn 0 s2.heap) (hf:∀ b∈fp,x8 X pins H2 b) (hit:ItD2 X.K J P1 α1 o' items) (run:goL o' g t kk items (xX cap env) S1 [] = .ok (envF,ds) SF)
  (h0:B.O X.K P1 α1 [] o0) (hg0:o0.isFreed=false) (hRR:∀ acc C s',s2.heap.objs.size<=acc->(∃ m,s'.heap.Ns C m)->s2.heap.objs.size<=C->acc≠C->(∃ cl σ' H' P' α' o',TurnSt B (zG X N' scope cl C fp s2 H2) [] P1 α1 fp acc envF SF ds s' σ' H' P' α' o')->RR (.ref acc) C (.ok .next) s') :
  Av (Ba X.prog X.w) X.A (Rx scope X.env.globals (yA X.env.cells scope.names []) [] X.env.qual none .none (Ab X.env)) (λcenv s₄ =>
   IE (Ba X.prog X.w) X.A (.compStart (xM B.m elt (⟨tg,iter,ifs,0⟩::qE) scope pos) 0 (.ref it) (.ref s2.heap.objs.size) { cenv with scope:=relabel scope X.env }) (RR (.ref s2.heap.objs.size) cenv.locals) s₄) E { s2 with heap:=s2.heap.push o0 }:=by
 have hlt:∀ b∈fp,b<s2.heap.objs.size:=λb hb=>by
  obtain⟨o,e,_⟩:=T.obj 0 _ st0 b hb;exact Ay e
 refine iT ?_;dsimp only;generalize hH2:s2.heap.push o0=Hh;have hsz:Hh.objs.size=s2.heap.objs.size+1:=by rw[<- hH2,Ea]
 have hC:s2.heap.objs.size<=Hh.objs.size:=by rw[hsz];exact O9 _
 have hne:s2.heap.objs.size≠Hh.objs.size:=by rw[hsz];exact Cn (Ka _)
 have kp:∀ b o,Hh.get? b=Ab o->(Va (Hh.push { cls:=.type "dict",data:=.dict #[] }) scope.names).get? b=Ab o:=λb o e=>Wl _ _ b o (Aj _ e);have hns₁:(Va (Hh.push { cls:=.type "dict",data:=.dict #[] }) scope.names).Ns Hh.objs.size (λ_=>none):=(Heap.Ns.new Hh (.type "dict")).keeps (Wl _ _);have co:=cellsFrom_ok scope.names (Hh.push { cls:=.type "dict",data:=.dict #[] }) (Hh.objs.size+1) [] ⟨λ_ _ hm=>(nomatch hm),ON⟩ (by rw[Ea];exact Ax _)
 rw[Ea] at co;generalize hh₁:Va (Hh.push { cls:=.type "dict",data:=.dict #[] }) scope.names=h₁ at kp hns₁ co ⊢;have keep:∀ b o,s2.heap.get? b=Ab o->h₁.get? b=Ab o:=λb o e=>kp b o (hH2▸Aj _ e);have hacc:h₁.get? s2.heap.objs.size=Ab o0:=kp _ _ (hH2▸Be _ hg0);have I4:∀ tk,Inv (zG X N' scope (kJ X scope Hh.objs.size) Hh.objs.size fp s2 H2) [] (v9 cap σ) H2 { s2 with heap:=h₁,toks:=tk }:=λtk =>
  ZS (s4:={ s2 with heap:=h₁,toks:=tk }) S I2 hf hlt hC hns₁ rfl rfl keep co
 have loop:∀ tk,IE (Ba X.prog X.w) X.A (.compLoop (xM B.m elt (⟨tg,iter,ifs,0⟩::qE) scope pos) 0 (.ref it) (.ref s2.heap.objs.size) (compEnvC scope (kJ X scope Hh.objs.size) Hh.objs.size X.env)) (RR (.ref s2.heap.objs.size) Hh.objs.size) { s2 with heap:=h₁,toks:=tk }:=λtk=>by
  refine cM (B:=B) (kk:=kk) (o':=o') (Y:=zG X N' scope (kJ X scope Hh.objs.size) Hh.objs.size fp s2 H2) (pins:=[]) (fp:=fp) (acc:=s2.heap.objs.size) (P1:=P1) (α1:=α1) (σ:=v9 cap σ) (H:=H2) (P:=P1) (α:=α1) (o:=o0) hc rfl rfl has T hit
   (hg _ _ _ _ _) (ht _ _ _ _ _) (he _ _ _ _ _) (λH hn=>?_) (λH hn b hb=>?_) (λhm=>Di _ (hlt _ hm)) ⟨I4 tk,r,Q9 re cap,qD.refl _,Bf _,λb hb=>(hf b hb).1,I2.hok.fresh (Ax _),hacc,h0⟩ (T.keep _ _ _ st0 λb hb o e=>keep b o e) run λs' σ' H' P' α' o' st=>?_
  .refine⟨hn,hne,λhm=>?_,.inr (Ax _),λx c h z=>?_,λp hp=>absurd (show p∈([]:Aa (Ad × Cg)) from hp) (by simp)⟩
   .obtain⟨_,o,ho,_⟩:=I2.stack.mem hm
    exact Di _ (Ay ho)
   .rcases x9 S I2.ok h with⟨m,_⟩|⟨m,_⟩
    .exact Di _ (Li hC (z▸(co.empty x c m).2))
    .obtain⟨v,ob,hob,_⟩:=I2.cell x c m
     rw[z] at hob;exact Di _ (Ay hob)
  .obtain⟨_,h1,h2,h3,h4,h5⟩:=hf b hb
   refine⟨hn b hb,Cn (Bd (hlt b hb) hC),λhm=>?_,.inl hb,λx c h=>(by
    rcases x9 S I2.ok h with⟨m,_⟩|⟨m,_⟩
    .exact Eu (Cn (Jv (Bd (hlt b hb) hC) (co.empty x c m).2))
    .exact h4 x c m),λp hp=>absurd (show p∈([]:Aa (Ad × Cg)) from hp) (by simp)⟩
   rcases Bg.mp (I2.stkSub b hm) with z|z
   .exact h1 z
   .exact h2 z
  .obtain⟨m,hm,_⟩:=st.inv.loc
   exact hRR _ _ s' (Ax _) ⟨m,hm⟩ hC hne ⟨_,_,_,_,_,_,st⟩
 exact lR (k:=0) rfl rfl (loop _) (T.self X.A 0 _ _ _ (T.keep _ _ _ st0 λb hb o e=>keep b o e) (loop _))
theorem X0 (hc:X.calm=true)(S:CompSc X.env.scope X.N scope N' cap)(hi:PI X tg iter (tDI2 X fi))
  (hg:∀ cl C ex s₀ H₀,PG (zG X N' scope cl C ex s₀ H₀) tg (tDG (zG X N' scope cl C ex s₀ H₀) g))
  (ht:∀ cl C ex s₀ H₀,PTs (zG X N' scope cl C ex s₀ H₀) ifs t) (has:∀ g',(⟨tg,iter,ifs,0⟩::qE:Aa Du)[0+1]? = Ab g'->g'.is_async=0) (he:∀ cl C ex s₀ H₀,PK accL (zG X N' scope cl C ex s₀ H₀) (λacc=>xQ false elt (⟨tg,iter,ifs,0⟩::qE) scope pos 0 acc (zG X N' scope cl C ex s₀ H₀).env) kk)
  (hs:∀ x,Fj iter X.env x=pure x:=by intro _;rfl):PE X (.ListComp elt (⟨tg,iter,ifs,0⟩::qE) scope pos) (tD X (zY mm cap fi g t kk)):=by
 intro pins s σ H Q I h;obtain⟨P,α,env,S0,r,re,af⟩:=h;rw[eval_ListComp];have af':qI X P α ((fi env S0).bind λp S1=>mkM mm (goL p.1 g t kk p.2 (xX cap env) S1 [])) (OkV X P α Q):=af;refine wpAny_comprehension_free (use:=none) rfl hs (U3 S I.ok) S.kind S.names ?_;refine thn (hi pins s σ H (λJ H1=>∃ (P1:Hp) (α1:Aa Ad) (p:Al (Af × MO) × Aa _D.D) (S1:Sto),Rel X.K H1 P1 α1 S1/\qD P P1/\α<+:α1/\ItD2 X.K J P1 α1 p.1 p.2/\qI X P α (mkM mm (goL p.1 g t kk p.2 (xX cap env) S1 [])) (OkV X P α Q)) I ⟨P,α,env,S0,r,re,?_⟩) λxv s1 h1=>thn h1 λitv s2 h2=>?_
 .cases q:fi env S0 with
  |bad=>rw[q] at af';exact af'
  |ex c x S'=>rw[q] at af';exact af'
  |ok p S1=>rw[q] at af';exact λJ H1 P1 α1 r1 e1 e2 it=>⟨P1,α1,p,S1,r1,e1,e2,it,af'⟩
 obtain⟨it,fp,tn,J,H2,rfl,I2,T,st0,hf,P1,α1,p,S1,r1,e1,e2,hit,af1⟩:=h2;obtain⟨envF,ds,SF,run,ok⟩:=M8 af1;refine Fi (r8 (B:=accL) (o0:={ cls:=.type "list",dict:=none,data:=.seq ([] : Aa Ac).toArray }) (RR:=λacc C=>compPost (Ba X.prog X.w) X.A X.xe none (EP X pins σ Q) acc C) hc S has hg ht he I2 r1 (re.mono e1 e2) T st0 hf hit run ⟨[],0,[],rfl,.nil,.nil,Hg _⟩ rfl ?_);intro acc C s' hA ⟨m,hm⟩ hC hne ⟨cl,σf,Hf,Pf,αf,of,stf⟩;have fin:∀ h',Fe C s'.heap h'->pQ X pins σ P1 α1 ds SF acc C { s' with heap:=h' }:=λh' sb=>ZR I2 hf rfl hC hA hne stf sb
 refine⟨m,hm,λh' sb=>XB (mm:=mm) (fin h' sb) ?_⟩;cases mm with
 |false=>exact λv H3 P3 α3 r3 q1 q2 q3=>ok v H3 P3 α3 r3 (e1.trans q1) (e2.trans q2) q3
 |true=>exact λv H3 P3 α3 r3 q1 q2 q3=>ok v H3 P3 α3 r3 (e1.trans q1) (e2.trans q2) q3
end
section
variable {prog:Bi}{w:Ca}{A:Br}{E:Ac->Ah->Prop}{s:Ah}
theorem iS {e it l:Ad}{i:Af}{x old:Ac}(he:Re s.heap e it i old)(hit:zD tp s.heap it l i)(hl:xI tp s.heap l xs)(hx:xs[i]? = Ab x)(ne:e≠it)
  (hQ:∀ g,Xz g e it ((i:Ag)+1) x s.heap.objs.size->zD tp g it l (i+1)->Hw g s.heap.objs.size (.int i s.toks) x->g.objs.size=s.heap.objs.size+1->(∀ b o,b≠e->b≠it->s.heap.get? b=Ab o->g.get? b=Ab o)->Q (.ref s.heap.objs.size) { s with heap:=g,toks:=s.toks+1 }) :
  Av (Ba prog w) A (Mm.«enumerate.__next__» ⟨[.ref e],[]⟩) (λfin s'=>∃ v,fin=.done (.ret v)/\Q v s') E s:=by
 obtain⟨hp,gn,dr,tk,os⟩:=s;show Av _ _ (field (.ref e) 2 >>= _) _ _ _;refine Ai (Dq he rfl (x:=.ref it) rfl (Ai (kY hit hl hx λg1 i1 s1=>?_)))
 replace s1:Fe it hp g1:=s1
 have e1:Re g1 e it i old:=(s1.2 e ne).trans he;show Av _ _ (field (.ref e) 3 >>= _) _ _ ⟨g1,gn,dr,tk,os⟩;refine Ai (Dq e1 rfl (x:=Ga i) rfl ?_);show Av _ _ (field (.ref e) 4 >>= _) _ _ ⟨g1,gn,dr,tk,os⟩;refine Ai (Dq e1 rfl (x:=.none) rfl ?_);show Av _ _ (mkInt i >>= _) _ _ ⟨g1,gn,dr,tk,os⟩;refine Ai (wpAny_mkInt ?_);show Av _ _ (setField (.ref e) 3 (Ga ((i:Ag)+1)) >>= _) _ _ ⟨g1,gn,dr,tk+1,os⟩;refine Ai (Eh e1 (by simp) λg2 e2 s2=>?_)
 replace s2:Fe e g1 g2:=s2
 replace e2:Re g2 e it ((i:Ag)+1) old:=e2
 show Av _ _ (setField (.ref e) 4 .none >>= _) _ _ ⟨g2,gn,dr,tk+1,os⟩;refine Ai (Eh e2 (by simp) λg3 e3 s3=>?_)
 replace s3:Fe e g2 g3:=s3
 replace e3:Re g3 e it ((i:Ag)+1) old:=e3
 show Av _ _ (newTuple [.int i tk,x] >>= _) _ _ ⟨g3,gn,dr,tk+1,os⟩;refine Ai (Rw ?_);have e4:Re (g3.push { cls:=.type "tuple",data:=.seq #[.int i tk,x] }) e it ((i:Ag)+1) old:=Aj _ e3;generalize q4:g3.push { cls:=.type "tuple",data:=.seq #[.int i tk,x] } = g4 at e4;have sz:g3.objs.size=hp.objs.size:=by rw[s3.1,s2.1,s1.1]
 have el:e<hp.objs.size:=Ay he;have t4:Hw g4 hp.objs.size (.int i tk) x:=by rw[<- q4,<- sz];exact Be _ rfl
 have z4:g4.objs.size=hp.objs.size+1:=by rw[<- q4,Ea,sz]
 have k4:∀ b o,b≠e->b≠it->hp.get? b=Ab o->g4.get? b=Ab o:=λb o b1 b2 q=>by
  rw[<- q4];exact Aj _ (s3.extBut b o b1 (s2.extBut b o b1 (s1.extBut b o b2 q)))
 have i4:zD tp g4 it l (i+1):=i1.keep λo q=>by rw[<- q4];exact Aj _ (s3.extBut _ o ne.symm (s2.extBut _ o ne.symm q))
 show Av _ _ (Dv (.ref e) >>= _) _ _ ⟨g4,gn,dr,tk+1,os⟩;rw[sz];refine Ai ?_;unfold Dv;refine Ai (Dq e4 rfl (x:=.none) rfl (AT ?_));simp only[Dm];refine Ai (Gj (Ai (Dq e4 rfl (x:=old) rfl (Ai (Eh e4 (by simp) λg5 e5 s5=>?_)))))
 replace s5:Fe e g4 g5:=s5
 replace e5:Re g5 e it ((i:Ag)+1) x:=e5
 show Av _ _ (Fw (.ref e) (.ref hp.objs.size) >>= _) _ _ ⟨g5,gn,dr,tk+1,os⟩;refine Ai ?_;unfold Fw;refine Ai (Eh e5 (by simp) λg6 e6 s6=>?_)
 replace s6:Fe e g5 g6:=s6
 replace e6:Xz g6 e it ((i:Ag)+1) x hp.objs.size:=e6
 refine Eh e6 (by simp) λg7 e7 s7=>?_
 replace s7:Fe e g6 g7:=s7
 replace e7:Xz g7 e it ((i:Ag)+1) x hp.objs.size:=e7
 have up:∀ b o,b≠e->g4.get? b=Ab o->g7.get? b=Ab o:=λb o b1 q=>s7.extBut b o b1 (s6.extBut b o b1 (s5.extBut b o b1 q));exact Ai (Jj (AT ⟨_,rfl,hQ g7 e7 (i4.keep λo q=>up _ o ne.symm q) (up _ _ (Ia el) t4) (by rw[s7.1,s6.1,s5.1,z4]) λb o b1 b2 q=>up b o b1 (k4 b o b1 b2 q)⟩))
set_option maxHeartbeats 4000000 in
set_option tactic.hygienic true in
theorem XE (tp:Ap)(l:Ad)(xs:Bj Ac) :
  Meets (Mm.«enumerate.__new__» ⟨[.type "enumerate",.ref l],[]⟩) (λ_ R s=>(∃ n dct sl,s.heap.get? l=Ab { cls:=.type (if tp then "tuple" else "list"),dict:=dct,data:=.seq xs n,slots:=sl }) /\ R (.ok (.ret (.ref (s.heap.push (vN tp l)).objs.size))) { s with heap:=(s.heap.push (vN tp l)).push { cls:=.type "enumerate",data:=.fields #[.none,.bool false,.ref s.heap.objs.size,Ga 0,.none,.none] } }):=
 .of_wp λprog w A R s h=>by
  obtain⟨hp,gn,dr,tk,os⟩:=s;obtain⟨⟨n,dct,sl,hl⟩,h⟩:=h;have hsub:=sub_enumerate;cases tp
  .have L1:Vt (Mt ⟨hp,gn,dr,tk,os⟩) l xs:=⟨_,hl,rfl,n,rfl⟩
   wp_walk using Fx hl
   refine Wm λst=>AT ?_
   split
   .rename_i c _ _ _ _ _
    cases (c == Jd "enumerate") <;> (wp_walk using Fx hl,EQ L1;exact⟨_,rfl,h⟩)
   .wp_walk using Fx hl,EQ L1;exact⟨_,rfl,h⟩
  .have L1:Ui (Mt ⟨hp,gn,dr,tk,os⟩) l xs:=⟨_,hl,rfl,n,rfl⟩
   wp_walk using Fx hl
   refine Wm λst=>AT ?_
   split
   .rename_i c _ _ _ _ _
    cases (c == Jd "enumerate") <;> (wp_walk using Fx hl,Fy L1;exact⟨_,rfl,h⟩)
   .wp_walk using Fx hl,Fy L1;exact⟨_,rfl,h⟩
theorem iE {tp:Ap}{l:Ad}{xs:Bj Ac}{Q:Ac->Ah->Prop}(hl:∃ n dct sl,s.heap.get? l=Ab { cls:=.type (if tp then "tuple" else "list"),dict:=dct,data:=.seq xs n,slots:=sl })
  (h:∀ g,Re g (s.heap.objs.size+1) s.heap.objs.size 0 .none->zD tp g s.heap.objs.size l 0->(∀ b o,s.heap.get? b=Ab o->g.get? b=Ab o)->Q (.ref (s.heap.objs.size+1)) { s with heap:=g }) :
  Av (Ba prog w) A (call (.type "enumerate") [.ref l]) Q E s:=by
 refine callType_new F.called_enumerate (by decide) (F.typeCall_enumerate_1 _) (F.newCall_enumerate_1 _) (λobj=>F.args_object_init_2 obj _) F.entry_enumerate_new (XE tp l xs) ⟨hl,?_⟩
 have hz:(s.heap.push (vN tp l)).objs.size=s.heap.objs.size+1:=Ea ..;show _/\_;have he:((s.heap.push (vN tp l)).push { cls:=.type "enumerate",data:=.fields #[.none,.bool false,.ref s.heap.objs.size,Ga 0,.none,.none] }).get? (s.heap.push (vN tp l)).objs.size=Ab _:=Be _ rfl;rw[hz] at he ⊢;exact⟨⟨_,he,rfl⟩,h _ he (kS (Aj _ (Be _ rfl))) λb o x=>Aj _ (Aj _ x)⟩
end
noncomputable def Ite (tp:Ap)(K:Ak)(a:Ad):It:=
  ⟨λi H=>∃ xs x,Sq tp K H a xs/\xs[i]? = Ab x,
   λi H v H'=>∃ T x,v=.ref T/\H T=none/\H'=upd H T (.tup [.int i,x])/\∀ xs,Sq tp K H a xs->xs[i]? = Ab x,
   λi H=>∃ xs,Sq tp K H a xs/\xs.length<=i⟩
def i6 (tp:Ap)(e it l:Ad)(k:Af)(h:Bs):Prop:=∃ old,Re h e it k old/\zD tp h it l k
theorem QQ {P:Bi}{w:Ca}{K:Ak}{elts:Aa Bn}{x1:Af}{tpos:Eg}{e it a:Ad}(ne:e≠it):Turn P w K (.Tuple elts x1 tpos) (Ite tp K a) [e,it] e (i6 tp e it a) where
 mem:=by simp
 obj:=λk h st c hc=>by
  obtain⟨old,s1,s2⟩:=st;simp only[Bg,Dg,Ik] at hc;rcases hc with rfl|rfl
  .exact⟨_,s1,λv y=>by cases y⟩
  .exact s2.there
 keep:=λk h h' st kp=>by
  obtain⟨old,s1,s2⟩:=st;exact⟨old,kp e (by simp) _ s1,s2.keep λo q=>kp it (by simp) o q⟩
 item:=by
  intro X hP hw hK hc k pins s σ H E Iv hf st hg;subst hP hw hK;obtain⟨old,s1,s2⟩:=st;obtain⟨xs,x,qa,hx⟩:=hg;obtain⟨ia,ra,ha⟩:=qa.at Iv;obtain⟨u,hu,ru⟩:=ra.get hx;have hT:s.TypeIs (.ref e) "enumerate":=⟨_,s1,rfl⟩;unfold Pe;refine Ai (Mu (En (name:=Eo "__next__") hT Jk (Fg Jk hT Qs
   (iS s1 s2 ha (by simpa using hu) ne λh' a1 a2 a3 a4 a5=>AT ?_) (Qb _))))
  refine⟨_,rfl,wpAny_letOwnedTupleGo_enum (s:={ s with heap:=h',toks:=s.toks+1 }) a1 λh2 b1 b2=>?_⟩
  have up:∀ c o,c≠e->h'.get? c=Ab o->h2.get? c=Ab o:=λc o n q=>(b2.2 c n).trans q;have el:e<s.heap.objs.size:=Ay s1;have T2:Hw h2 s.heap.objs.size (.int k s.toks) u:=up _ _ (Ia el) a3;have st2:i6 tp e it a (k+1) h2:=⟨u,b1,a2.keep λo q=>up _ o ne.symm q⟩;refine⟨.ref s.heap.objs.size,upd H s.heap.objs.size (.tup [.int k,x]),?_,rfl,⟨_,x,rfl,Iv.hok.fresh (Ax _),rfl,λzs qz=>by rw[qz.inj Iv qa];exact hx⟩,st2,λc hc=>?_⟩
  .have:=Inv.turnLay (fp:=[e,it]) (its:=[.int k s.toks,u]) (h':=h2) (xs:=[.int k,x]) Iv hf (λc o hc q=>by
    simp only[Bg,Dg,Ik,Tn] at hc;exact up c o hc.1 (a5 c o hc.1 hc.2 q)) (λc hc=>by
    obtain⟨old',t1,t2⟩:=st2;simp only[Bg,Dg,Ik] at hc;rcases hc with rfl|rfl
    .exact⟨_,t1⟩
    .obtain⟨o,q,_⟩:=t2.there;exact⟨o,q⟩) (Ax _) (.cons ⟨_,rfl⟩ (.cons ru .nil)) ⟨_,T2,rfl,_,rfl⟩ (by show 2<=sizeLine;decide)
   exact this.tok (s.toks+1)
  .have hn:=(hf c hc).1
   rw[qG ?_]
   .exact hn
   .rintro rfl
    obtain⟨o,q,_⟩:∃ o,s.heap.get? s.heap.objs.size=Ab o/\NE:=by
     simp only[Bg,Dg,Ik] at hc;rcases hc with z|z
     .exact⟨_,z▸s1,trivial⟩
     .obtain⟨o,e',_⟩:=s2.there;exact⟨o,z▸e',trivial⟩
    exact absurd (Ay q) (Di _)
 done:=by
  intro X hP hw hK hc k pins s σ H E Iv hf st hg;subst hP hw hK;obtain⟨old,s1,s2⟩:=st;obtain⟨xs,qa,hend⟩:=hg;obtain⟨ia,ra,ha⟩:=qa.at Iv;have hT:s.TypeIs (.ref e) "enumerate":=⟨_,s1,rfl⟩;have l1:=ra.length;unfold Pe;refine Ai (Mu (En (name:=Eo "__next__") hT Jk (Fg Jk hT Qs ?_ (Qb _))));show Av _ _ (field (.ref e) 2 >>= _) _ _ _;refine Ai (Dq s1 rfl (x:=.ref it) rfl (Ai (uP (Iv.ok.hd hc) s2 ha (by simp;omega) λh' x kp hx'=>?_)))
  obtain⟨o,ho,hcl⟩:=hx';refine Ai (Vv (T:="StopIteration") (b:=true) ⟨o,ho,hcl⟩ isSubtype_stop (AT ⟨rfl,Inv.turnL (fp:=[e,it]) Iv hf λc o hc q=>?_⟩));simp only[Bg,Dg,Ik,Tn] at hc;exact kp c o hc.2 q
 self:=λ_ _ _ _ _ st h=>by
  obtain⟨old,s1,_⟩:=st;exact Vb s1 h
noncomputable def yB (xs:Aa D):Aa D:=xs.mapIdx λi x=>D.tup [.int i,x]
noncomputable def YZ (ds:Aa D):Al (Aa D):=match ds with
 |[.tup xs]=>Ab (yB xs)
 |[.lst xs]=>Ab (yB xs)
 |_=>none
noncomputable def l9 (f:DA):DI:=λenv S=>(f env S).bind λds S1=>vV (YZ ds) S1
theorem iR (xs:Aa D)(i:Af):(yB xs)[i]? = (xs[i]?).map λx=>D.tup [.int i,x]:=by
 unfold yB;rw[List.getElem?_mapIdx]
theorem gX (xs:Aa D):(yB xs).length=xs.length:=by simp[yB]
theorem XW {K:Ak}{P:Hp}{a:Ad}{xs:Aa D}(qa:Sq tp K P a vs)(ta:qB K P α xs vs):ItD K (Ite tp K a) P α (yB xs) where
 go:=λi H P1 α1 S hi r e _=>by
  rw[gX] at hi;have h1:i<vs.length:=by rw[<- ta.length];omega
  exact⟨vs,vs[i],qa.mono (e.trans r.sub),by simp⟩
 yld:=λi H x H' P1 α1 S hi r e e2 y=>by
  obtain⟨T,u,rfl,hT,rfl,hu⟩:=y;rw[gX] at hi;obtain⟨v1,z1,p1⟩:=ta.get (Am hi);have eu:=hu vs (qa.mono (e.trans r.sub));rw[z1] at eu;cases eu;obtain⟨r1,s1⟩:=r.pure (o:=.tup [.int i,u]) hT;refine⟨_,.tup [.int i,xs[i]],?_,r1,s1,?_⟩
  .rw[iR,Am hi];rfl
  .exact bF (.of qV) (.cons (by simp only[Rep]) (.cons (Rep.mono (e.trans s1) e2 _ _ p1) .nil))
 stop:=λi H P1 α1 S hi r e _=>by
  rw[gX] at hi;have l1:=ta.length;exact⟨vs,qa.mono (e.trans r.sub),by omega⟩
section
variable {X:Cx}{e1:Bn}{elts:Aa Bn}{x1:Af}{tpos:Eg}{f:DA}{p pos:Eg}
theorem Sq.obj {pins:Aa (Ad × Cg)}{σ:_L.St}{H:Hp}{s:Ah}{a:Ad}{xs:Aa V}(I:Inv X pins σ H s)(q:Sq tp X.K H a xs):∃ its:Aa Ac,qH xs its/\∃ n dct sl,s.heap.get? a=Ab { cls:=.type (if tp then "tuple" else "list"),dict:=dct,data:=.seq its.toArray n,slots:=sl }:=by
 obtain⟨its,rv,h⟩:=q.at I;refine⟨its,rv,?_⟩;cases tp with
 |true =>
  obtain⟨o,ho,hc,n,hd⟩:=h;obtain⟨c,d,dt,sl⟩:=o;dsimp only at hc hd;subst hc;subst hd;exact⟨n,_,_,ho⟩
 |false =>
  obtain⟨o,ho,hc,n,hd⟩:=h;obtain⟨c,d,dt,sl⟩:=o;dsimp only at hc hd;subst hc;subst hd;exact⟨n,_,_,ho⟩
theorem rL {pins:Aa (Ad × Cg)}{σ:_L.St}{H P:Hp}{s:Ah}{a:Ad}{xs:Aa D}{R:It->Hp->Prop}(I:Inv X pins σ H s)(r:Rel X.K H P α S)(qa:Sq tp X.K P a vs)(ta:qB X.K P α xs vs)
  (q:OkI X P α R (yB xs) S):Av (Ba X.prog X.w) X.A (call (.type "enumerate") [.ref a]) (λv s1=>Av (Ba X.prog X.w) X.A (Pg v) (PIE X pins σ (.Tuple elts x1 tpos) R) X.xe s1) X.xe s:=by
 obtain⟨ia,ra,ha⟩:=Sq.obj I (qa.mono r.sub);refine iE (tp:=tp) ha λh' z1 z2 z7=>?_;refine Vb (s:={ s with heap:=h' }) z1 ?_
 refine⟨_,[s.heap.objs.size+1,s.heap.objs.size],_,_,H,rfl,I.kept (t':=s.toks) z7,QQ (tp:=tp) (a:=a) (by intro z;simp at z),⟨_,z1,z2⟩,λc hc=>?_,q _ _ P α r (qD.refl _) (Bf _) (XW qa ta)⟩
 have hl:s.heap.objs.size<=c:=by
  simp only[Bg,Dg,Ik] at hc;rcases hc with rfl|rfl <;> simp
 exact I.fpOk hl (I.hok.fresh hl)
theorem mL:Fd "enumerate" = Ab (.type "enumerate"):=by decide +kernel
theorem XD (h:YZ ds=Ab its):∃ d xs,ds=[d]/\ItV d xs/\its=yB xs:=by
 cases ds with
 |nil=>exact nn h
 |cons d ds =>
  cases ds with
  |cons _ _=>cases d <;> exact nn h
  |nil =>
   cases d with
   |tup xs=>exact⟨_,xs,rfl,.tup rfl,(Cj h).symm⟩
   |lst xs=>exact⟨_,xs,rfl,.lst rfl,(Cj h).symm⟩
   |_=>exact nn h
theorem UF (hg:Gl X "enumerate")(hm:X.mg "enumerate" = none)(ha:PA X [e1] (tDA X f))(hs:Bl [e1] X.env=(false,eval e1 X.env)::Bl [] X.env:=by rfl)(hpl:(Ft pos (Bl [] X.env)).any (·.1)=false:=by rfl) :
  PI X (.Tuple elts x1 tpos) (.Call (.Name "enumerate" p) [e1] [] pos) (tDI X (l9 f)):=by
 intro pins s σ H R I h;obtain⟨P,α,env,S,r,re,af⟩:=h;refine Call_ (yU I hg hm mL (Gg (thn (wC ha I r re af pos) λus s1 ⟨vs,H1,P1,α1,ds,S1,I1,rv,r1,re1,rp,e1,e2,af1⟩=>?_) hs hpl));obtain⟨its,hi,q⟩:=vH af1;obtain⟨d,xs,rfl,hd,rfl⟩:=XD hi;obtain⟨v,u,rfl,rfl,p1,q1⟩:=v3 rp rv;cases hd with
 |tup ed =>
  subst ed;simp only[Rep] at p1;obtain⟨a,va,rfl,qa,ta⟩:=p1;cases (show u=Cf a from q1)
  exact rL (tp:=true) I1 r1 qa ta (q.base e1 e2)
 |lst ed =>
  subst ed;simp only[Rep] at p1;obtain⟨a,va,rfl,qa,ta⟩:=p1;cases (show u=Cf a from q1)
  exact rL (tp:=false) I1 r1 qa.l ta (q.base e1 e2)
end
section
variable {X:Cx}
noncomputable def xZ:D->Aa D->Sto->Res D:=λa ds S=>match a,ds with
 |.loc n,[i,x]=>match S[n]? with
  |some (.dct kvs)=>match xO i with
   |some k=>match zQ kvs k with
    |some d=>.ok d S
    |none=>if kvs.length<lim then .ok x (S.set n (.dct (xC kvs k x))) else .bad
   |none=>.bad
  |_=>.bad
 |_,_=>.bad
theorem bJ (a b c:Ac):argsOk "dict.setdefault" ⟨[a,b,c],[]⟩:=by unfold argsOk;kernel_rfl
inductive SdV (a:D)(ds:Aa D)(S:Sto):Prop
 |bad (e:xZ a ds S=.bad)
 |of (n:Af) (i x:D) (kvs:Aa (Key × D)) (k:Key) (ea:a=.loc n) (ed:ds=[i,x]) (hS:S[n]? = Ab (.dct kvs)) (hk:xO i=Ab k) (e:xZ a ds S=(match zQ kvs k with|some d=>.ok d S|none=>if kvs.length<lim then .ok x (S.set n (.dct (xC kvs k x))) else .bad))
theorem sdV (a:D)(ds:Aa D)(S:Sto):SdV a ds S:=by
 cases a with
 |loc n =>
  cases ds with
  |nil=>exact .bad rfl
  |cons i ds =>
   cases ds with
   |nil=>exact .bad rfl
   |cons x ds =>
    cases ds with
    |cons _ _=>exact .bad rfl
    |nil =>
     have z:xZ (.loc n) [i,x] S=(match S[n]? with|some (.dct kvs)=>(match xO i with|some k=>(match zQ kvs k with|some d=>.ok d S|none=>if kvs.length<lim then .ok x (S.set n (.dct (xC kvs k x))) else .bad)|none=>.bad)|_=>.bad):=rfl
     cases hS:S[n]? with
     |none=>rw[hS] at z;exact .bad z
     |some m =>
      rw[hS] at z;cases m with
      |dct kvs =>
       cases hk:xO i with
       |none=>rw[hk] at z;exact .bad z
       |some k=>rw[hk] at z;exact .of n i x kvs k rfl rfl hS hk z
      |_=>exact .bad z
 |_=>exact .bad rfl
theorem oF:MtD X "dict.setdefault" xZ:=by
 intro pins σ H s P α S v vv vs us a ds Q I r rv p rvs rps af;cases sdV a ds S with
 |bad e=>rw[e] at af;exact An af
 |of n i x kvs k ea ed hS hk e =>
  rw[e] at af;subst ea ed;clear e;obtain⟨vi,vx,ui,ux,rfl,rfl,pi,px,qi,qx⟩:=m9 rps rvs;simp only[Rep] at p;obtain⟨b,rfl,q⟩:=p;obtain⟨ws,z,t⟩:=r.at' n b _ q hS;cases dH hk pi;cases (show vv=Cf b from rv)
  obtain⟨hz,hd,us',rel,dd⟩:=pT I.hok z;have hz':us'.length<=sizeLine:=by rw[<- rel.length];exact hz
  obtain⟨k1,k2⟩:=tE (k:=k) t;have er:=rel.val k;refine Lp Je dd.typeIs PySem.F.entry_dict_setdefault (bJ _ _ _) (kt_meets_setdefault (qZ X.prog X.w) b (b7 qi) hd ux) ⟨us',dd,hz',λv' hv'=>?_,λhn h' dd' hs=>?_⟩
  .cases hv:zQ kvs k with
   |none =>
    rw[k2 hv,hv'] at er;exact An er
   |some d =>
    obtain⟨w',e1,e2⟩:=k1 d hv;rw[hv] at af;rw[e1,hv'] at er;exact⟨w',H,I.tok _,er,xr af r e2⟩
  .cases hv:zQ kvs k with
   |some d =>
    obtain⟨w',e1,e2⟩:=k1 d hv;rw[e1,hn] at er;exact An er
   |none =>
    rw[hv] at af;obtain⟨hl,af⟩:=y7 (X:=X) af;have hl':(yF ws k vx).length<=sizeLine:=by
     have:=jG ws k vx;have e3:=tB t;rw[<- zS];lia
    have he:∃ q,h'.get? b=Ab q:=let ⟨q,_,_,hq,_⟩:=dd';⟨q,hq⟩
    have I':=mQ (t':=s.toks+1) I (by rw[z];exact Ib) hs he (iO hl' hd (rel.put k qx) dd')
    exact⟨vx,_,I',qx,af _ _ P α (r.put (m':=.dct (xC kvs k x)) q hS (by intro z;cases z) ⟨_,qV,rX px t⟩) (qD.refl _) (Bf _) px⟩
noncomputable def xA:Aa D->Al (Aa Ag)
 |[]=>Ab []
 |.int i::r=>(xA r).map (i::·)
 |_::_=>none
theorem p7 (ns:Aa Ag):xA (ns.map D.int)=Ab ns:=by
 induction ns with
 |nil=>rfl
 |cons n r ih=>exact congrArg (Option.map (n::·)) ih
theorem vE:∀ {ds:Aa D} {ns:Aa Ag},xA ds=Ab ns->ds=ns.map D.int
 |[],ns,h=>by cases h;rfl
 |d::r,ns,h=>by
  cases d with
  |int i =>
   obtain⟨m,h1,rfl⟩:=Ee.mp (show (xA r).map (i::·)=Ab ns from h)
   rw[vE h1];rfl
  |_=>exact nn h
theorem yM {K:Ak}{P:Hp}:∀ {ns:Aa Ag} {vs:Aa V},qB K P α (ns.map D.int) vs->vs=ns.map V.int
 |[],vs,r=>by rw[r.nil_inv];rfl
 |n::ns,vs,r=>by
  obtain⟨w,ws,rfl,p,t⟩:=r.cons_inv;simp only[Rep] at p;rw[p,yM t];rfl
noncomputable def mY:G2:=λa b S=>match a,b with
 |.tup xs,.tup ys=>match xA xs,xA ys with
  |some ns,Ab ms=>.ok (.bl (_H.lexLt ns ms)) S
  |_,_=>.bad
 |_,_=>gLt a b S
end
section
variable {X:Cx}
theorem sS {pins:Aa (Ad × Cg)}{σ:_L.St}{H P:Hp}{s:Ah}{xs:Aa D}{v:V}{vv:Ac}(I:Inv X pins σ H s)(r:Rel X.K H P α S)(rv:qF v vv)(p:Rep X.K P α (.tup xs) v)(h:xA xs=Ab ns) :
  ∃ a its,vv=.ref a/\Oh s.heap a (List.toArray its)/\IS its ns:=by
 have:=vE h;subst this;obtain⟨a,vs,its,rfl,q1,t1,rv1,h1,l1,_⟩:=y9 I r p;have:=yM t1;subst this;exact⟨a,its,rv,h1,by simpa using fR rv1⟩
set_option tactic.hygienic true in
theorem MS (hu:X.A.units<Ev):OpD X (Ch .Lt) mY:=by
 intro pins σ H s P α S v u vv uu a b Q I r rv ru pa pb af;unfold mY at af
 split at af
 .rename_i xs ys
  split at af
  .rename_i ns ms h1 h2
   obtain⟨a,its,rfl,t1,i1⟩:=sS I r rv pa h1;obtain⟨b,its2,rfl,t2,i2⟩:=sS I r ru pb h2;exact _H.lt_tupInts t1 t2 (by simpa using i1) (by simpa using i2) hu ⟨.bl _,H,I,rfl,xr af r (by simp only[Rep])⟩
  .exact An af
 .exact VF pins σ H s P α S v u vv uu a b Q I r rv ru pa pb af
end
section
variable {X:Cx}
noncomputable def mV:DF:=λds S=>match ds with
 |[d]=>match (zJ d).bind xA with
  |some ns=>.ok (.int ns.sum) S
  |none=>.bad
 |_=>.bad
theorem UW {P:Hp}{Ok:D->Sto->Prop}(h:qI X P α (mV ds S) Ok):∃ d xs ns,ds=[d]/\ItV d xs/\xA xs=Ab ns/\Ok (.int ns.sum) S:=by
 obtain⟨d,rfl,h1⟩:=sA (X:=X) (β:=D) (g:=λd=>match (zJ d).bind xA with|some ns=>.ok (D.int ns.sum) S|none=>.bad) h
 cases hb:(zJ d).bind xA with
 |none=>rw[hb] at h1;exact An h1
 |some ns =>
  rw[hb] at h1;obtain⟨xs,hx,hns⟩:=Ep.mp hb;exact⟨d,xs,ns,rfl,itV hx,hns,h1⟩
theorem rP (rv:qH (ns.map V.int) us){i:Af}{v:Ac}(h:us.toArray[i]? = Ab v):∃ t,v=.int (ns.getD i 0) t:=by
 have hu:us[i]? = Ab v:=by simpa using h
 have hl:=rv.length;rw[Ar] at hl;have hi:i<us.length:=(Az.mp hu).1;have hn:i<ns.length:=by lia
 obtain⟨u,h1,h2⟩:=rv.get (i:=i) (x:=.int ns[i]) (by rw[Eb,Am hn];rfl)
 cases h1.symm.trans hu;obtain⟨t,rfl⟩:=h2;exact⟨t,by simp[Gs,hn]⟩
theorem B9 (hc:X.calm=true):wL X (.builtin "sum") mV:=by
 intro pins σ H s P α S vs us ds Q I r rv rp af;obtain⟨d,xs,ns,ed,hd,hns,ok⟩:=UW af;clear af;subst ed;obtain⟨v,u,rfl,rfl,p,q⟩:=v3 rp rv;clear rp rv;have fin:∀ {o:Cg} (h':Bs) (tk t':Af),(∀ b ob,b ∉ [s.heap.objs.size]->(s.heap.push o).get? b=Ab ob->h'.get? b=Ab ob)->EP X pins σ Q (.int (preSum (λi=>ns.getD i 0) ns.length) t') { s with heap:=h',toks:=tk }:=
  λ{o} h' tk t' k=>⟨.int _,H,nQ I k,⟨t',rfl⟩,xr ok r (by simp only[Rep];rw[preSum_getD,List.take_length])⟩
 clear ok;have hh:X.A.in1.handled=none:=I.ok.hd hc;cases hd with
 |tup ed =>
  subst ed;obtain⟨a,ws,its,rfl,sq,t,rvi,ht,hl,_⟩:=y9 I r p;cases (show u=Cf a from q)
  cases vE hns;cases yM t;have hlen:its.toArray.size=ns.length:=by have:=rvi.length;rw[Ar] at this;rw[Bh,this]
  have hne:a≠s.heap.objs.size:=by obtain⟨o,e,_⟩:=ht;exact Cn (Ay e)
  have W:=Yx (prog:=X.prog) (w:=X.w) hh s.heap.objs.size a hne its.toArray;have hT:∀ o,(s.heap.push o).IsTuple a its.toArray:=λo=>by obtain⟨o,e,c⟩:=ht;exact⟨o,Aj _ e,c⟩
  have ht':s.heap.IsTuple a its.toArray:=ht;refine call_sum_walkG (Fy ht' ⟨s.heap.objs.size,_,_,_,_,_,λi=>ns.getD i 0,rfl,W,⟨⟨_,Be _ rfl,rfl,rfl⟩,hT _⟩,?_,λi v h=>rP rvi h,λh' tk t' k=>?_⟩)
  .intro b hb
   have:b<s.heap.objs.size+1:=by
    simp only[Bg,Dg,Ik] at hb;rcases hb with rfl|rfl
    .exact Ka _
    .obtain⟨o,e,_⟩:=ht
     exact Jl (Ay e)
   rw[Ea];exact this
  .rw[hlen]
   exact fin h' tk t' k
 |lst ed =>
  subst ed;obtain⟨a,ws,its,n,rfl,sq,t,rvi,ht,hl,_⟩:=vR I r p;cases (show u=Cf a from q)
  cases vE hns;cases yM t;have hL:s.heap.IsList a its.toArray:=⟨_,ht,rfl,n,rfl⟩;have hlen:its.toArray.size=ns.length:=by have:=rvi.length;rw[Ar] at this;rw[Bh,this]
  have hne:a≠s.heap.objs.size:=Cn (Ay ht);have W:=Wz (prog:=X.prog) (w:=X.w) hh s.heap.objs.size a hne its.toArray;have hL':∀ o,(s.heap.push o).IsList a its.toArray:=λo=>⟨_,Aj _ ht,rfl,n,rfl⟩;refine call_sum_walkG (EQ hL ⟨s.heap.objs.size,_,_,_,_,_,λi=>ns.getD i 0,rfl,W,⟨⟨_,Be _ rfl,rfl,rfl⟩,hL' _⟩,?_,λi v h=>rP rvi h,λh' tk t' k=>?_⟩)
  .intro b hb
   have:b<s.heap.objs.size+1:=by
    simp only[Bg,Dg,Ik] at hb;rcases hb with rfl|rfl
    .exact Ka _
    .exact Jl (Ay ht)
   rw[Ea];exact this
  .rw[hlen]
   exact fin h' tk t' k
end
end _D
namespace _D
open PySem PySem.Spec PyProof.Rows _L PySem.SeqAt
section
variable {X:Cx}{pins:Aa (Ad × Cg)}{σ : _L.St}{H P:Hp}{α : Aa Ad}{S:Sto}{s:Ah}
inductive Same2 (X:Cx)(P:Hp)(α : Aa Ad)(d d':D):Prop
 |eq (h:d=d')
 |tt (xs ys:Aa D) (its:Aa Ac) (ed:d=.tup xs) (ed':d'=.tup ys) (q:Seqs X P α xs ys its its)
 |ll (xs ys:Aa D) (its:Aa Ac) (ed:d=.lst xs) (ed':d'=.lst ys) (q:Seqs X P α xs ys its its)
theorem VM {d d':D}{u:Ac}(k1:Kd X P α s d u)(k2:Kd X P α s d' u):Same2 X P α d d':=by
 cases k1 with
 |non=>cases k2;exact .eq rfl
 |bl b=>cases k2;exact .eq rfl
 |int i t=>cases k2;exact .eq rfl
 |str x t=>cases k2;exact .eq rfl
 |tup a xs its vs rp rv h q =>
  cases k2 with
  |tup _ ys its2 ws rp2 rv2 h2 q2 =>
   cases t8 h h2;exact .tt xs ys its rfl rfl ⟨vs,ws,rp,rv,rp2,rv2⟩
  |lst _ ys its2 ws rp2 rv2 h2 q2=>exact(cT h h2).elim
 |lst a xs its vs rp rv h q =>
  cases k2 with
  |lst _ ys its2 ws rp2 rv2 h2 q2 =>
   cases rR h h2;exact .ll xs ys its rfl rfl ⟨vs,ws,rp,rv,rp2,rv2⟩
  |tup _ ys its2 ws rp2 rv2 h2 q2=>exact(cT h2 h).elim
theorem nI (I:Inv X pins σ H s)(r:Rel X.K H P α S){m:Af}(ih:∀ (d d' e:D) (u:Ac),pl m d=true->pl m d'=true->Kd X P α s d u->Kd X P α s d' u->eqD d e=eqD d' e){xs ys zs:Aa D}{its:Aa Ac}(h1:xs.all (pl m)=true)(h2:ys.all (pl m)=true)(q:Seqs X P α xs ys its its):zU xs zs=zU ys zs:=by
 obtain⟨vs,ws,rp,rv,rp2,rv2⟩:=q;have l1:=rp.length.trans rv.length;have l2:=rp2.length.trans rv2.length;rw[wF,wF,l1,l2]
 congr 1
 have key:∀ j∈Ds (min its.length zs.length),eqD (xs.getD j .non) (zs.getD j .non)=eqD (ys.getD j .non) (zs.getD j .non):=λj hj=>by
  have hj':=DL.mp hj;have hj:j<its.toArray.size:=by rw[Bh];lia
  obtain⟨w1,y1,z1,m1⟩:=xB rp rv hj;obtain⟨w2,y2,z2,m2⟩:=xB rp2 rv2 hj;exact ih _ _ _ _ (xP h1 m1) (xP h2 m2) (yC I r (xP h1 m1) y1 z1) (yC I r (xP h2 m2) y2 z2)
 rw[IW,Bt,Bt];exact⟨λh j hj=>(key j hj)▸h j hj,λh j hj=>(key j hj).symm▸h j hj⟩
theorem US (I:Inv X pins σ H s)(r:Rel X.K H P α S):∀ (n:Af) (d d' e:D) (u:Ac),pl n d=true->pl n d'=true->Kd X P α s d u->Kd X P α s d' u->eqD d e=eqD d' e:=by
 intro n
 induction n with
 |zero =>
  intro d d' e u h1 h2 k1 k2;cases VM k1 k2 with
  |eq h=>rw[h]
  |tt _ _ _ ed=>subst ed;exact Cq h1
  |ll _ _ _ ed=>subst ed;exact Cq h1
 |succ m ih =>
  intro d d' e u h1 h2 k1 k2;cases VM k1 k2 with
  |eq h=>rw[h]
  |tt xs ys its ed ed' q =>
   subst ed ed';cases e with
   |tup zs=>exact nI I r ih h1 h2 q
   |_=>rfl
  |ll xs ys its ed ed' q =>
   subst ed ed';cases e with
   |lst zs=>exact nI I r ih h1 h2 q
   |_=>rfl
open Classical in
def eOf (X:Cx)(P:Hp)(α : Aa Ad)(s:Ah)(xs:Aa D)(d:D)(y:Ac):Ap:=if h:∃ z,z∈xs/\Kd X P α s z y then eqD (Jz h) d else false
theorem iP (I:Inv X pins σ H s)(r:Rel X.K H P α S){n:Af}{xs:Aa D}{vs:Aa V}{its:Aa Ac}{d:D}(h:xs.all (pl n)=true)(rp:qB X.K P α xs vs)(rv:qH vs its){j:Af}(hj:j<its.length):∃ z,z∈xs/\Kd X P α s z its[j]/\eOf X P α s xs d its[j]=eqD z d/\eqD z d=eqD (xs.getD j .non) d:=by
 obtain⟨w,y,z,m⟩:=xB rp rv (j:=j) (by rw[Bh];exact hj)
 have k:=yC I r (xP h m) y z;have ex:∃ z,z∈xs/\Kd X P α s z its[j]:=⟨_,m,k⟩;have hs:=Ji ex;refine⟨Jz ex,hs.1,hs.2,?_,US I r n _ _ d _ (xP h hs.1) (xP h m) hs.2 k⟩;unfold eOf;rw[dif_pos ex]
theorem UQ (I:Inv X pins σ H s)(r:Rel X.K H P α S){n:Af}{xs:Aa D}{vs:Aa V}{its:Aa Ac}{d:D}(h:xs.all (pl n)=true)(rp:qB X.K P α xs vs)(rv:qH vs its):its.map (eOf X P α s xs d)=xs.map λx=>eqD x d:=by
 have l:=rp.length.trans rv.length;refine Mv (by rw[Ar,Ar,l]) λj h1 h2=>?_
 rw[Ar] at h1 h2;rw[Vx,Vx];obtain⟨z,_,_,e1,e2⟩:=iP (d:=d) I r h rp rv h1;rw[e1,e2];simp[Gs,h2]
theorem iQ (I:Inv X pins σ H s)(r:Rel X.K H P α S){n:Af}{A:Br}{xs:Aa D}{vs:Aa V}{its:Aa Ac}{d:D}{v:V}{u:Ac}(hu:A.units+n<Ev)(h:xs.all (pl n)=true)(hd:pl n d=true)(rp:qB X.K P α xs vs)(rv:qH vs its)(p:Rep X.K P α d v)(q:qF v u):∀ y,y∈its.toArray->Wx A s y u (eOf X P α s xs d y):=λy hy=>by
 obtain⟨j,hj,rfl⟩:=Cw.mp (show y∈its by simpa using hy)
 obtain⟨z,hz,k,e1,_⟩:=iP (d:=d) I r h rp rv hj;rw[e1];exact(lW I r n A z d _ u hu (xP h hz) hd k (yC I r hd p q)).eq
noncomputable def inI (a b:D):Al Ap:=match zJ b with
 |some xs=>if xs.all (pl zP)&&pl zP a then Ab (xs.any λx=>eqD x a) else none
 |none=>none
noncomputable def gIn:G2:=λa b S=>match inI a b with
 |some k=>.ok (.bl k) S
 |none=>.bad
noncomputable def gZ:G2:=λa b S=>match inI a b with
 |some k=>.ok (.bl (!k)) S
 |none=>.bad
theorem XR {a b:D}{k:Ap}(h:inI a b=Ab k):∃ xs,ItV b xs/\xs.all (pl zP)=true/\pl zP a=true/\k=xs.any λx=>eqD x a:=by
 unfold inI at h;cases e:zJ b with
 |none=>rw[e] at h;exact nn h
 |some xs =>
  rw[e] at h;obtain⟨c,rfl⟩:=uL h;have c':=Ge.mp c;exact⟨xs,itV e,c'.1,c'.2,rfl⟩
theorem DV (hu:X.A.units+64<Ev)(I:Inv X pins σ H s)(r:Rel X.K H P α S){a b:D}{v u:V}{vv uu:Ac}{k:Ap}(rv:qF v vv)(ru:qF u uu)(pa:Rep X.K P α a v)(pb:Rep X.K P α b u)(h:inI a b=Ab k) :
  (∀ {Q:Ac->Ah->Prop} {E:Ac->Ah->Prop},Q (.bool k) s->Av (Ba X.prog X.w) X.A (Ch .In vv uu) Q E s)/\∀ {Q:Ac->Ah->Prop} {E:Ac->Ah->Prop},Q (.bool (!k)) s->Av (Ba X.prog X.w) X.A (Ch .NotIn vv uu) Q E s:=by
 obtain⟨xs,hb,h1,h2,rfl⟩:=XR h;have hu':X.A.in1.units+zP<Ev:=by show X.A.units+1+zP<Ev;unfold zP;lia
 have any:∀ {vs:Aa V} {its:Aa Ac},qB X.K P α xs vs->qH vs its->its.toArray.any (eOf X P α s xs a)=xs.any λx=>eqD x a:=λrp rvi=>by
  rw[<- Array.any_toList];have e:=congrArg (λl=>l.any id) (UQ (d:=a) I r h1 rp rvi);rw[Pz,Pz] at e;exact e
 cases hb with
 |tup ed =>
  subst ed;obtain⟨l,ws,its,rfl,sq,t,rvi,ht,_,_⟩:=y9 I r pb;cases (show uu=Cf l from ru)
  have he:=iQ I r hu' h1 h2 t rvi pa rv;exact⟨λq=>in_tupleAt (eOf X P α s xs a) ht he (by rw[any t rvi];exact q),λq=>notIn_tupleAt (eOf X P α s xs a) ht he (by rw[any t rvi];exact q)⟩
 |lst ed =>
  subst ed;obtain⟨l,ws,its,n,rfl,sq,t,rvi,ht,_,_⟩:=vR I r pb;cases (show uu=Cf l from ru)
  have hL:s.heap.IsList l its.toArray:=⟨_,ht,rfl,n,rfl⟩;have he:=iQ I r hu' h1 h2 t rvi pa rv;exact⟨λq=>in_listAt (eOf X P α s xs a) hL he (by rw[any t rvi];exact q),λq=>notIn_listAt (eOf X P α s xs a) hL he (by rw[any t rvi];exact q)⟩
theorem WK (hu:X.A.units+64<Ev):OpD X (Ch .NotIn) gZ:=by
 intro pins σ H s P α S v u vv uu a b Q I r rv ru pa pb af;have af1:qI X P α (match inI a b with|some k=>Res.ok (D.bl (!k)) S|none=>.bad) (OkV X P α Q):=af
 clear af;cases e:inI a b with
 |none=>rw[e] at af1;exact An af1
 |some k =>
  rw[e] at af1;exact(DV hu I r rv ru pa pb e).2 ⟨.bl _,H,I,rfl,xr af1 r (by simp only[Rep])⟩
end
end _D
namespace _D
open PySem PySem.Spec PyProof.Rows _L
section
variable {K:Ak}{H P:Hp}{α : Aa Ad}{S:Sto}
theorem Rel.still {a:Ad}{n:Af}{m:MO}{o:HO}(r:Rel K H P α S)(ha:α[n]? = Ab a)(hs:S[n]? = Ab m)(hd:m≠.dead):Rel K (upd H a o) (upd P a o) α (S.set n .dead)/\qD P (upd P a o):=by
 have hP:=r.sep n a m ha hs hd;have sP:qD P (upd P a o):=gE hP;have r1:=r.put (o:=o) (m':=.dead) ha hs hd trivial;have hn:n<S.length:=(Az.mp hs).1;refine⟨⟨r1.tb.keep (λ_ _ q _=>q) λb u q _ p n=>⟨(qG λ(z:b=a)=>n (by rw[z];exact Ec ha)).trans p,n⟩,λb u e=>?_,r1.len,r1.nd,λi b u q1 q2 q3=>?_,λi b u q1 q2=>(r1.at' i b u q1 q2).mono sP (Bf _),r1.own⟩,sP⟩
 .by_cases hb:b=a
  .subst hb;rw[qV] at e ⊢;exact e
  .rw[qG hb] at e ⊢;exact r.sub _ _ e
 .have hb:b≠a:=by
   rintro rfl;have:=nU r.nd q1 ha;subst this;rw[Dl hn] at q2;cases q2;exact q3 rfl
  rw[qG hb];exact r1.sep i b u q1 q2 q3
end
noncomputable def CV (f:DE):DI:=λenv S=>(f env S).bind λd S1=>match d with
 |.loc n=>match S1[n]? with
  |some (.dct kvs)=>.ok (kvs.map (·.2)) (S1.set n .dead)
  |_=>.bad
 |_=>.bad
theorem rY {K:Ak}{P:Hp}{α:Aa Ad}:∀ {kvs:Aa (Key × D)} {vs:Aa (Key × V)},KVs K P α kvs vs->qB K P α (kvs.map (·.2)) (vs.map (·.2))
 |_,_,.nil=>.nil
 |_,_,.cons z t=>.cons z.2 (rY t)
section
variable {X:Cx}{tg o:Bn}{fo:DE}{apos cpos:Eg}
theorem mC {S:Sto}{n:Af}{kvs:Aa (Key × D)}(h:S[n]? = Ab (.dct kvs)):tyD (.loc n) S=Ab "dict":=by
 show (match S[n]? with|some (.lst _)=>Ab "list" | some (.dct _)=>Ab "dict" | _=>none)=_
 rw[h]
end
structure QI2 (X:Cx)(tg it:Bn)(f:DI2):Prop where
 get:PI X tg it (tDI2 X f)
structure QK (B:Acc)(Y:Cx)(step:Ac->Ke Qm)(k:DK):Prop where
 get:PK B Y step k
section
variable {B:Acc}{X Y:Cx}{tg it e o elt iter ie:Bn}{es ifs qE:Aa Bn}{fa fo fe fi:DE}{fA:DA}{fI:DI}{f2:DI2}{g:DG}{t:DT}{kk:DK}{p pos:Eg}{n k:Af}{x:Ao}{cm:Ap}{F:DF}{f:DS}{gens grest:Aa Du}{scope:Do}{N':Aa Ao}{cap:Aa (Al Af)}{mm:Ap}
theorem NM (h:QI X tg it fI):QI2 X tg it (u7 fI):=⟨UG h.1⟩
theorem NL (h:QE X e fa):QI2 X tg e (dIt fa):=⟨DB h.1⟩
theorem KZ {e1:Bn}{elts:Aa Bn}{x1:Af}{tpos:Eg}(hg:Gl X "enumerate")(hm:X.mg "enumerate" = none)(ha:QA X [e1] fA)(hs:Bl [e1] X.env=(false,eval e1 X.env)::Bl [] X.env:=by rfl)(hpl:(Ft pos (Bl [] X.env)).any (·.1)=false:=by rfl) :
  QI X (.Tuple elts x1 tpos) (.Call (.Name "enumerate" p) [e1] [] pos) (l9 fA):=⟨UF hg hm ha.1 hs hpl⟩
theorem GB {body:Aa Fb}(hp:ZPass X)(hc:X.calm=true)(hi:QI2 X tg iter f2)(hg:QG X tg g)(hb:QB X body f)(hs:∀ x,Fj iter X.env x=pure x:=by intro _;rfl):QS X (.For tg iter body [] pos) (aK f2 g f):=⟨UL hp.1 hc hi.1 hg.1 hb.1 hs⟩
theorem G7 (hx:Y.xe=λ_ _=>Ez)(hlast:gens[k+1]? = none)(he:QE Y elt fe):QK accL Y (λacc=>xQ false elt gens scope pos k acc Y.env) (zX fe):=⟨KH hx hlast he.1⟩
theorem WW (hc:X.calm=true)(S:CompSc X.env.scope X.N scope N' cap)(hi:QI2 X tg iter f2)(hg:∀ cl C ex s₀ H₀,QG (zG X N' scope cl C ex s₀ H₀) tg g)(ht:∀ cl C ex s₀ H₀,QTs (zG X N' scope cl C ex s₀ H₀) ifs t)
  (has:∀ g',(⟨tg,iter,ifs,0⟩::grest:Aa Du)[0+1]? = Ab g'->g'.is_async=0)
  (he:∀ cl C ex s₀ H₀,QK accL (zG X N' scope cl C ex s₀ H₀) (λacc=>xQ false elt (⟨tg,iter,ifs,0⟩::grest) scope pos 0 acc (zG X N' scope cl C ex s₀ H₀).env) kk) (hs:∀ x,Fj iter X.env x=pure x) :
  QE X (.ListComp elt (⟨tg,iter,ifs,0⟩::grest) scope pos) (zY mm cap f2 g t kk):=
 ⟨X0 hc S hi.1 (λcl C ex s H=>(hg cl C ex s H).1) (λcl C ex s H=>(ht cl C ex s H).1) has (λcl C ex s H=>(he cl C ex s H).1) hs⟩
theorem sZ:ZMt X "dict.setdefault" xZ:=⟨oF⟩
theorem E5 (hr:RoomC cm k X.A):ZOp X (Ch .Lt) mY:=⟨MS (by have:=hu1 hr;omega)⟩
end
noncomputable def xH (H:Hp):Aa (Ad × HO)->Hp
 |[]=>H
 |p::ps=>xH (upd H p.1 p.2) ps
theorem bH {b:Ad}:∀ {L:Aa (Ad × HO)} {H:Hp},b ∉ L.map (·.1)->xH H L b=H b
 |[],_,_=>rfl
 |p::ps,H,h=>by
  simp only[Bz,Bg,Tn] at h;show xH (upd H p.1 p.2) ps b=H b;rw[bH h.2,qG h.1]
theorem gG {a:Ad}{o:HO}:∀ {L:Aa (Ad × HO)} {H:Hp},(L.map (·.1)).Nodup->(a,o)∈L->xH H L a=Ab o
 |p::ps,H,nd,h=>by
  simp only[Bz,Co] at nd;show xH (upd H p.1 p.2) ps a=Ab o;rcases Bg.mp h with rfl|h
  .rw[bH nd.1,qV]
  .exact gG nd.2 h
theorem sV {b:Ad}{u:HO}:∀ {L:Aa (Ad × HO)} {H:Hp},xH H L b=Ab u->(b,u)∈L\/H b=Ab u
 |[],_,h=>.inr h
 |p::ps,H,h=>by
  rcases sV (L:=ps) (H:=upd H p.1 p.2) h with h|h
  .exact .inl (Au _ h)
  .by_cases hb:b=p.1
   .subst hb
    rw[qV] at h;cases h;exact .inl (Bv ..)
   .rw[qG hb] at h
    exact .inr h
section
variable {K:Ak}
theorem Rel.pureL {α:Aa Ad}{S:Sto}:∀ {L:Aa (Ad × HO)} {H P:Hp},(∀ p∈L,H p.1=none)->(L.map (·.1)).Nodup->Rel K H P α S->Rel K (xH H L) (xH P L) α S/\qD P (xH P L)
 |[],_,_,_,_,r=>⟨r,qD.refl _⟩
 |p::ps,H,P,hn,nd,r=>by
  simp only[Bz,Co] at nd;obtain⟨r1,e1⟩:=r.pure (o:=p.2) (hn p (Bv ..));obtain⟨r2,e2⟩:=Rel.pureL (L:=ps) (λq hq=>by
   have:q.1≠p.1:=λe=>nd.1 (e▸Bk.mpr ⟨q,hq,rfl⟩);rw[qG this];exact hn q (Au _ hq)) nd.2 r1
  exact⟨r2,e1.trans e2⟩
end
section
variable {X:Cx}{pins:Aa (Ad × Cg)}{σ : _L.St}{H:Hp}{s:Ah}
theorem Inv.laidL {L:Aa (Ad × HO)}{h':Bs}{t':Af}(I:Inv X pins σ H s)(k:∀ b u,s.heap.get? b=Ab u->h'.get? b=Ab u)(hp:∀ p∈L,s.heap.objs.size<=p.1)(new:∀ p∈L,zE X.prog X.w (xH H L) h' p.1 p.2) :
  Inv X pins σ (xH H L) { s with heap:=h',toks:=t' }:=by
 have old:∀ b u,H b=Ab u->xH H L b=Ab u:=λb u e=>by
  rw[bH (L:=L)]
  .exact e
  .intro hb
   obtain⟨p,hp',rfl⟩:=Bk.mp hb;rw[I.hok.fresh (hp p hp')] at e;cases e
 have low:∀ b,b<s.heap.objs.size->xH H L b=H b:=λb hb=>bH λhm=>by
  obtain⟨p,hp',rfl⟩:=Bk.mp hm;exact absurd (Bd hb (hp p hp')) (Di _)
 refine I.un ⟨λb u q _ _ _=>k b u q,λb u q _ _ _=>⟨u.slots,k b u q⟩,λb u q n _=>by rw[low b (Ay q)];exact n,λb u q _=>⟨u,k b u q⟩,λb xs q=>old b _ q,λb o xs q=>old b _ q,λb ps q=>⟨#[],by rw[old b _ q];simp⟩⟩ λb u e=>?_
 rcases sV e with hm|hb
 .exact new (b,u) hm
 .exact(I.hok b u hb).stay (λc v _ q=>k c v q) (λc q=>old c _ q) λc xs q=>old c _ q
end
noncomputable def kD:Key->D
 |.inl i=>.int i
 |.inr x=>.str x
theorem o6 {K:Ak}{P:Hp}{α:Aa Ad}(k:Key):Rep K P α (kD k) (kV k):=by
 cases k <;> simp only[kD,kV,Rep]
theorem cU {k:Key}{u:Ac}(h:kT k u=true):qF (kV k) u:=by
 rcases zV h with⟨i,t,rfl,rfl⟩|⟨x,t,rfl,rfl⟩
 .exact⟨t,rfl⟩
 .exact⟨t,rfl⟩
noncomputable def jQ (f:DE):DE:=λenv S=>(f env S).bind λd S1=>match d with
 |.loc n=>match S1[n]? with
  |some (.dct kvs)=>.ok (.lst (kvs.map λp=>.tup [kD p.1,p.2])) S1
  |_=>.bad
 |_=>.bad
theorem iB:Fd "list" = Ab (.type "list"):=by decide +kernel
noncomputable def yG (as:Aa Ad)(vs:Aa (Key × V)):Aa (Ad × HO):=Yj (λa p=>(a,HO.tup [kV p.1,p.2])) as vs
theorem fF:∀ (as:Aa Ad) (vs:Aa (Key × V)),as.length=vs.length->(yG as vs).map (·.1)=as
 |[],vs,h=>rfl
 |a::as,vs,h=>by
  cases vs with
  |nil=>exact Wi h
  |cons v vs=>exact congrArg (a::·) (fF as vs (Yf h))
theorem fG:∀ {as:Aa Ad} {vs:Aa (Key × V)} {p:Ad × HO},p∈yG as vs->∃ (j:Af) (q:Key × V),as[j]? = Ab p.1/\vs[j]? = Ab q/\p.2=HO.tup [kV q.1,q.2]
 |a::as,v::vs,p,h=>by
  rcases Bg.mp (show p∈(a,HO.tup [kV v.1,v.2])::yG as vs from h) with rfl|h
  .exact⟨0,v,rfl,rfl,rfl⟩
  .obtain⟨j,q,e1,e2,e3⟩:=fG h
   exact⟨j+1,q,by simpa using e1,by simpa using e2,e3⟩
theorem pJ {K:Ak}{P:Hp}{α:Aa Ad}:∀ {as:Aa Ad} {kvs:Aa (Key × D)} {vs:Aa (Key × V)},KVs K P α kvs vs->as.length=vs.length->(∀ p∈yG as vs,P p.1=Ab p.2)->qB K P α (kvs.map λp=>D.tup [kD p.1,p.2]) (as.map V.ref)
 |[],[],_,.nil,_,_=>.nil
 |a::as,_,_,.cons (a:=x) (b:=y) (l₁:=xs) (l₂:=ys) z t,hl,h=>by
  refine .cons ?_ (pJ t (by simpa using hl) λp hp=>h p (Au _ hp))
  have h0:=h (a,HO.tup [kV y.1,y.2]) (Bv ..);simp only[Rep];refine⟨a,[kV y.1,y.2],rfl,.inl (.inl h0),.cons ?_ (.cons z.2 .nil)⟩;rw[z.1];exact o6 _
 |[],_::_,_,.cons _ _,hl,_=>by simp at hl
theorem fU {κ:Type}:∀ {vs:Aa (κ × V)} {us:Aa (κ × Ac)},KV vs us->∀ {j:Af} {q:κ × V},vs[j]? = Ab q->∃ u,us[j]? = Ab (q.1,u)/\qF q.2 u
 |_,_,.nil,j,q,h=>by simp at h
 |_,_,.cons (a:=x) (b:=y) z t,j,q,h=>by
  cases j with
  |zero =>
   simp at h;subst h;exact⟨y.2,by simp;exact Gd z.1.symm rfl,z.2⟩
  |succ j =>
   obtain⟨u,e1,e2⟩:=fU t (j:=j) (q:=q) (by simpa using h)
   exact⟨u,by simpa using e1,e2⟩
theorem l3 (as:Aa Ad):qH (as.map V.ref) (as.map Cf):=by
 induction as with
 |nil=>exact .nil
 |cons a as ih=>exact .cons rfl ih
section
variable {X:Cx}{o:Bn}{fo:DE}{apos cpos pos p2:Eg}
set_option tactic.hygienic true in
theorem iM (hc:X.calm=true)(hg:Gl X "list")(hm:X.mg "list" = none)(ho:PE X o (tD X fo))(hbase:Gu o "items" X.env (eval o X.env)=eval o X.env:=by rfl)(hline:(apos.endLine == cpos.line)=true:=by rfl)
  (he:Bl [.Call (.Attribute o "items" apos) [] [] cpos] X.env=(false,eval (.Call (.Attribute o "items" apos) [] [] cpos) X.env)::Bl [] X.env:=by rfl) :
  PE X (.Call (.Name "list" p2) [.Call (.Attribute o "items" apos) [] [] cpos] [] pos) (tD X (jQ fo)):=by
 intro pins s σ H Q I h;obtain⟨P,α,env,S,r,re,af⟩:=h;refine Call_ (yU I hg hm iB (Gg ?_ he rfl));rw[he];refine Ot (IJ hbase hline (thn (zL ho I r re af) λvv s1 ⟨v,H1,P1,α1,d,S1,G1,af1⟩=>?_));cases d with
 |loc n =>
  simp only at af1
  split at af1
  .rename_i kvs hS
   have rp:=G1.rep;have I1:=G1.inv;have r1:=G1.rel;have ht:tyD (.loc n) S1=Ab "dict":=mC hS;obtain⟨h1,h2⟩:=pN I1 G1.val (pO r1 rp ht (by simp))
   simp only[Rep] at rp;obtain⟨a,rfl,ha⟩:=rp;cases (show vv=Cf a from G1.val)
   obtain⟨vs,z,t⟩:=r1.at' n a _ ha hS;obtain⟨hz,hd,us,rel,dd⟩:=pT I1.hok z;refine⟨"dict","dict.items",Hi,Gf,Lq,h1,h2,Hq rfl (Ko ?_)⟩;refine Lp Gf dd.typeIs Lg (Kq _) (Pm (qZ X.prog X.w) a hd) ⟨⟨us,dd⟩,?_⟩;obtain⟨ep,oa,es,hoa,qE⟩:=dd.dictAt;refine OK ?_;have hlu:us.length<=sizeLine:=by rw[<- rel.length];exact hz
   refine PySem.W.kdx_call (s:={ s1 with heap:=s1.heap.push { cls:=.type "dict_items",data:=.fields #[.ref a] } }) (knd:=qZ X.prog X.w) (d:=a) (kvs:=us) (ep:=ep) (I1.ok.hd hc) ⟨_,Be _ rfl,rfl,rfl⟩ ⟨oa,es,Aj _ hoa,qE⟩ hlu λh' tk acc c as hk hL hlen g hacc=>?_
   have I2:=I1.kept (t':=s1.toks) (h':=s1.heap.push { cls:=.type "dict_items",data:=.fields #[.ref a] }) λb u e=>Aj _ e;have hlv:as.length=vs.length:=by rw[hlen,rel.length]
   let LA:Ad:=(s1.heap.push { cls:=.type "dict_items",data:=.fields #[.ref a] }).objs.size
   let L:Aa (Ad × HO):=yG as vs++[(LA,HO.lst (as.map V.ref))]
   have hfst:L.map (·.1)=as++[LA]:=by simp[L,fF as vs hlv]
   have nd:(L.map (·.1)).Nodup:=by
    rw[hfst,Io];refine⟨g.rise.imp λhlt=>Cn hlt,by simp,λx hx y hy e=>?_⟩
    have hy':y=LA:=by simpa using hy
    rw[e,hy'] at hx;exact absurd (g.above LA hx) (Di _)
   have hge:∀ p∈L,(s1.heap.push { cls:=.type "dict_items",data:=.fields #[.ref a] }).objs.size<=p.1:=λp hp=>by
    have:p.1∈as++[LA]:=by rw[<- hfst];exact Bk.mpr ⟨p,hp,rfl⟩
    rcases Cs.mp this with h|h
    .exact Dz (g.above _ h)
    .have:p.1=LA:=by simpa using h
     rw[this];exact Ax _
   have I3:Inv X pins σ (xH H1 L) { s1 with heap:=h',toks:=tk }:=Inv.laidL (s:={ s1 with heap:=s1.heap.push { cls:=.type "dict_items",data:=.fields #[.ref a] } }) (L:=L) (t':=tk) I2 hk hge λp hp=>by
    rcases Cs.mp hp with hp|hp
    .obtain⟨j,q,e1,e2,e3⟩:=fG hp
     obtain⟨u,e4,e5⟩:=fU rel e2;obtain⟨key,k,x,f1,f2,f3⟩:=g.pairs j p.1 e1;rw[e4] at f1;cases f1;rw[e3];exact⟨(by decide:2<=sizeLine),[key,u],.cons (cU f2) (.cons e5 .nil),_,f3,rfl,_,rfl⟩
    .have:p=(LA,HO.lst (as.map V.ref)):=by simpa using hp
     subst this;refine⟨by rw[Ar,hlv];exact hz,as.map Cf,c,l3 as,?_⟩
     rw[hL,<- hacc]
   obtain⟨r3,e3⟩:=r1.pureL (L:=L) (λp hp=>I2.hok.fresh (hge p hp)) nd;refine⟨.ref LA,_,I3,rfl,af1 _ _ _ α1 r3 (G1.same.trans e3) G1.pre ?_⟩;have hPa:xH P1 L LA=Ab (HO.lst (as.map V.ref)):=gG nd (by simp[L])
   refine tQ (.inl (.inl hPa)) ?_;exact pJ (KVs.mono e3 (Bf _) t) hlv λp hp=>gG nd (Dr _ hp)
  .exact An af1
 |_=>exact An af1
end
section
variable {X:Cx}{tg e o i:Bn}{fa fo fi:DE}{p pos apos cpos:Eg}{cm:Ap}{k:Af}
theorem Q5 (hc:X.calm=true)(hg:Gl X "list")(hm:X.mg "list" = none)(ho:QE X o fo)(hbase:Gu o "items" X.env (eval o X.env)=eval o X.env:=by rfl)(hline:(apos.endLine == cpos.line)=true:=by rfl)
  (he:Bl [.Call (.Attribute o "items" apos) [] [] cpos] X.env=(false,eval (.Call (.Attribute o "items" apos) [] [] cpos) X.env)::Bl [] X.env:=by rfl) :
  QE X (.Call (.Name "list" p) [.Call (.Attribute o "items" apos) [] [] cpos] [] pos) (jQ fo):=⟨iM hc hg hm ho.1 hbase hline he⟩
end
section
variable {X:Cx}{cm:Ap}{k:Af}
theorem ED (hc:X.calm=true):ZCall X (.builtin "sum") mV:=⟨B9 hc⟩
theorem PD (hr:RoomC cm k X.A):ZOp X (Ch .NotIn) gZ:=⟨WK hr.units⟩
end
end _D
namespace _S
open PySem
def Rs (xs:Bj Af):Prop:=xs.toList.Pairwise (· < ·)
structure Tb (t:OC):Prop where
 rs:Rs t.place
 dm:t.dummies=#[]
open PySem.SetTable (Probe leap runEnd turns bits)
noncomputable def adv (mask:Af)(p:Wn):Wn:=if p.more>0 then { p with j:=p.j+1,more:=p.more-1 } else { p with j:=(leap mask p.i p.perturb).1,more:=runEnd mask (leap mask p.i p.perturb).1-(leap mask p.i p.perturb).1,i:=(leap mask p.i p.perturb).1,perturb:=(leap mask p.i p.perturb).2 }
noncomputable def it (mask:Af):Af->Wn->Wn
 |0,p=>p
 |n+1,p=>it mask n (adv mask p)
noncomputable def rs (mask i pert:Af):Wn:={ j:=i,more:=runEnd mask i-i,i,perturb:=pert,dummy:=none }
noncomputable def st (mask:Af)(h:Ag):Wn:=rs mask (bits h % (mask+1)) (bits h)
def Msk (mask:Af):Prop:=mask=7\/mask=31\/mask=127\/mask=511\/mask=2047
def Way (t:OC)(p:Wn)(n:Af):Prop:=∀ m,m<n->(it t.mask m p).j∈t.place.toList
end _S
namespace _S
open PySem
open PySem.SetTable (Probe leap runEnd turns bits)
structure Own (mask:Af)(owner:Bj (Al Af))(us:Aa Af):Prop where
 size:owner.size=mask+1
 nd:us.Nodup
 le:∀ u∈us,u<=mask
 at':∀ j k,j<=mask->(owner.getD j (Ab 0)=Ab k↔us[k]? = Ab j)
theorem Own.none {mask:Af}{owner:Bj (Al Af)}{us:Aa Af}(O:Own mask owner us){j:Af}(hj:j<=mask):(owner.getD j (Ab 0)).isNone=true↔j ∉ us:=by
 constructor
 .intro h hm
  obtain⟨k,hk,e⟩:=Cw.mp hm;have:=(O.at' j k hj).mpr (by rw[Am hk,e])
  rw[this] at h;cases h
 .intro h
  cases q:owner.getD j (Ab 0) with
  |none=>rfl
  |some k=>exact absurd (Ec ((O.at' j k hj).mp q)) h
end _S
namespace _S
open PySem
open PySem.SetTable (Probe leap runEnd turns bits)
structure Set0 {K:Type}(is:K->Ac->Prop)(hash:K->Ag)(es:Bj (Ag × Ac))(seen:Aa K):Prop where
 good:∀ e∈es.toList,∃ k,e.1=hash k/\is k e.2
 nd:es.toList.Pairwise λa b=>∀ k,is k a.2->¬ is k b.2
 mem:∀ k,k∈seen↔∃ e∈es.toList,is k e.2
section
open Classical in
theorem dQ {K:Type}{is:K->Ac->Prop}:∀ (L:Aa (Ag × Ac)) (U:Aa K),L.Pairwise (λa b=>∀ k,is k a.2->¬ is k b.2)->(∀ e∈L,∃ k∈U,is k e.2)->L.length<=U.length
 |[],U,_,_=>Hg _
 |e::L,U,nd,h=>by
  rw[Lj] at nd;obtain⟨k0,hk0,q0⟩:=h e (by simp)
  have ih:=dQ L (U.erase k0) nd.2 λe' he'=>by
   obtain⟨k,hk,q⟩:=h e' (by simp[he'])
   have:k≠k0:=λz=>nd.1 e' he' k0 q0 (z▸q);exact⟨k,(Sd this).mpr hk,q⟩
  rw[OY hk0] at ih;have:0<U.length:=Qt hk0;rw[By]
  lia
open Classical in
theorem Set0.few {K:Type}{is:K->Ac->Prop}{hash:K->Ag}{es:Bj (Ag × Ac)}{seen U:Aa K}{k:K}(Z:Set0 is hash es seen)(hU:∀ k'∈seen,k'∈U)(hk:k∈U)(hn:k ∉ seen):es.size<U.length:=by
 have:=dQ es.toList (U.erase k) Z.nd λe he=>by
  obtain⟨k',_,q⟩:=Z.good e he;have hs:=(Z.mem k').mpr ⟨e,he,q⟩;have hne:k'≠k:=λz=>hn (z▸hs);exact⟨k',(Sd hne).mpr (hU k' hs),q⟩
 rw[OY hk,Ce] at this;have:0<U.length:=Qt hk
 lia
end
structure TabT (t:OC)(es:Bj (Ag × Ac)):Prop where
 tb:Tb t
 msk:Msk t.mask
 size:t.place.size=es.size
 le:∀ x∈t.place.toList,x<=t.mask
 few:es.size*5<t.mask*3
 way:∀ (i:Af) (e:Ag × Ac),es[i]? = Ab e->∃ n,t.place[i]? = Ab (it t.mask n (st t.mask e.1)).j/\Way t (st t.mask e.1) n
 plain:t.plain=true
end _S
namespace _S
open PySem
open PySem.SetTable (Probe leap runEnd turns bits)
def Sup (h0 h:Bs):Prop:=∀ b o,h0.get? b=Ab o->h.get? b=Ab o
def isT (prog:Bi)(w:Ca)(h0:Bs)(ks:Aa Ag)(v:Ac):Prop:=∃ a,v=.ref a/\Po (IC prog w) h0 ks a
section
variable {prog:Bi}{w:Ca}{h0:Bs}
theorem isT.inj {x y:Aa Ag}{v:Ac}(hx:isT prog w h0 x v)(hy:isT prog w h0 y v):x=y:=by
 obtain⟨a,rfl,h1⟩:=hx;obtain⟨b,e,h2⟩:=hy;cases e;exact h1.inj h2
theorem QN {h:Bs}{ks:Aa Ag}{a:Ad}(hS:Sup h0 h)(hx:Po (IC prog w) h0 ks a):Po (IC prog w) h ks a:=by
 obtain⟨o,items,n,ho,r⟩:=hx;exact⟨o,items,n,hS _ _ ho,r⟩
variable {A:Br}{E:Ac->Ah->Prop}{s:Ah}
end
end _S
namespace _S
open PySem
open PySem.SetTable (Probe leap runEnd turns bits)
@[reducible] def setO (es:Bj (Ag × Ac))(ep:Af)(t:OC):Cg:={ cls:=.type "set",dict:=none,data:=.set es ep t }
end _S
namespace _S
open PySem
open PySem.SetTable (Probe leap runEnd turns bits)
def isI (prog:Bi)(w:Ca)(k:Ag)(v:Ac):Prop:=(IC prog w).is k v=true
section
variable {prog:Bi}{w:Ca}{A:Br}{E:Ac->Ah->Prop}{s:Ah}{S:Ad}{led:Ap}{V:Aa Ac}
set_option tactic.hygienic true in
theorem uC {k:Ag}{v:Ac}(h:isI prog w k v):∃ t,v=.int k t:=by
 cases v <;> first|(exact absurd h (by rintro⟨⟩)) | skip
 rename_i i t;refine⟨t,?_⟩;have:i=k:=(IC prog w).inj (.int i t) i k (WF _ _ _ _) h;rw[this]
end
end _S
namespace _S
open PySem
section
variable {prog:Bi}{w:Ca}{A:Br}{E:Ac->Ah->Prop}{s:Ah}
noncomputable def M4 (w:Ca):Ap:=!w.params.followText "set-order"
variable {K:Type}{is:K->Ac->Prop}{hash:K->Ag}{U:Aa K}
end
noncomputable def itO (slot i:Af)(S:Ad)(n ep:Af):Cg:={ cls:=.type "set_iterator",data:=.fields #[.int slot 0,.int i 0,.ref S,.int n 0,.int ep 0] }
def At (w:Ca)(I S:Ad)(es:Bj (Ag × Ac))(ep:Af)(t:OC)(i:Af)(h:Bs):Prop:=
 ∃ slot,h.get? I=Ab (itO slot i S es.size ep)/\h.get? S=Ab (setO es ep t)/\(w.params.followText "set-order" = true\/SetTable.below t.place slot=i)
section
variable {prog:Bi}{w:Ca}{A:Br}{E:Ac->Ah->Prop}{s:Ah}{S I:Ad}{es:Bj (Ag × Ac)}{ep:Af}{t:OC}
theorem At.type {i:Af}(h:At w I S es ep t i s.heap):s.TypeIs (.ref I) "set_iterator":=by
 obtain⟨slot,h,_⟩:=h;exact⟨_,h,rfl⟩
end
end _S
namespace _S
open PySem PySem.W PyProof.Rows
variable {vs:Aa Ac}{n:Af}{arr m:Bj Bq}
structure Ord {K:Type}(lt:K->K->Ap):Prop where
 irr:∀ a,lt a a=false
 tr:∀ {a b c},lt a b=true->lt b c=true->lt a c=true
 tri:∀ {a b},lt a b=false->a=b\/lt b a=true
noncomputable def ltI (a b:Ag):Ap:=decide (a<b)
theorem HI:Ord ltI:=⟨λa=>by simp[ltI],λ{a b c} h1 h2=>by simp only[ltI,Aq] at *;omega,λ{a b} h=>by simp only[ltI,Aq,Hj] at *;omega⟩
theorem eD:∀ a:Aa Ag,_H.lexLt a a=false
 |[]=>rfl
 |x::xs=>by rw[_H.lexLt_cons,Bc rfl];exact eD xs
theorem oB:∀ {a b c:Aa Ag},_H.lexLt a b=true->_H.lexLt b c=true->_H.lexLt a c=true
 |_,[],[],_,h=>by cases h
 |_,_::_,[],_,h=>by cases h
 |[],_,_::_,_,_=>rfl
 |_::_,[],_::_,h,_=>by cases h
 |x::xs,y::ys,z::zs,h1,h2=>by
  rw[_H.lexLt_cons] at h1 h2 ⊢;by_cases e1:x=y
  .subst e1
   rw[Bc rfl] at h1;by_cases e2:x=z
   .rw[Bc e2] at h2 ⊢;exact oB h1 h2
   .rw[Aw e2] at h2 ⊢;exact h2
  .rw[Aw e1] at h1
   have h1:=Bp h1;by_cases e2:y=z
   .subst e2;rw[Aw e1];exact Bw h1
   .rw[Aw e2] at h2
    have h2:=Bp h2;rw[Aw (by omega)]
    exact Bw (by omega)
theorem eE:∀ {a b:Aa Ag},_H.lexLt a b=false->a=b\/_H.lexLt b a=true
 |[],[],_=>.inl rfl
 |[],_::_,h=>by cases h
 |_::_,[],_=>.inr rfl
 |x::xs,y::ys,h=>by
  rw[_H.lexLt_cons] at h ⊢;by_cases e:x=y
  .subst e
   rw[Bc rfl] at h ⊢;rcases eE h with h|h
   .exact .inl (by rw[h])
   .exact .inr h
  .rw[Aw e] at h
   have h:=Ht h;rw[Aw (Eu e)];exact .inr (Bw (by omega))
theorem uQ:Ord _H.lexLt:=⟨eD,oB,eE⟩
theorem nG {α:Type}{p q:α->Ap}:∀ {l:Aa α},(∀ x∈l,p x=true->q x=true)->(∃ x∈l,q x=true/\p x=false)->l.countP p<l.countP q
 |[],_,⟨x,h,_⟩=>by simp at h
 |a::l,h,⟨x,hx,h1,h2⟩=>by
  have le:l.countP p<=l.countP q:=Rf λy hy=>h y (by simp[hy])
  rw[Vy,Vy];rcases Bg.mp hx with rfl|hx
  .rw[Aw (by rw[h2];decide),Bc h1];omega
  .have ih:=nG (l:=l) (λy hy=>h y (by simp[hy])) ⟨x,hx,h1,h2⟩
   have:=h a (by simp)
   cases hp:p a with
   |false=>rw[Aw (by decide)];split <;> omega
   |true=>rw[Bc rfl,Bc (this hp)];omega
section
variable {K:Type}{lt':K->K->Ap}
noncomputable def gC (lt':K->K->Ap)(ks:Aa K)(x:K):Ag:=(ks.countP (λk=>lt' k x):Af)
theorem sJ (O:Ord lt'){ks:Aa K}{x y:K}(hx:x∈ks):lt' x y=decide (gC lt' ks x<gC lt' ks y):=by
 unfold gC;cases h:lt' x y with
 |true =>
  refine(Bw ?_).symm;have:=nG (l:=ks) (p:=λk=>lt' k x) (q:=λk=>lt' k y) (λz _ hz=>O.tr hz h) ⟨x,hx,h,O.irr x⟩;omega
 |false =>
  refine(Cc ?_).symm;have:ks.countP (λk=>lt' k y)<=ks.countP (λk=>lt' k x):=by
   rcases O.tri h with e|h'
   .rw[e];exact Ax _
   .exact Rf λz _ hz=>O.tr hz h'
  omega
noncomputable def bQ (lt':K->K->Ap)(ks:Aa K)(d:K)(i j:Af):Ap:=lt' (ks.getD i d) (ks.getD j d)
def Nf (lt':K->K->Ap)(l:Aa K):Prop:=l.Pairwise λa b=>lt' b a=false
theorem jX (O:Ord lt'):∀ {a b:Aa K},Nf lt' a->Nf lt' b->a.Perm b->a=b
 |[],b,_,_,p=>(List.nil_perm.mp p).symm
 |x::a,b,ha,hb,p=>by
  cases b with
  |nil=>exact absurd p.symm (by simp)
  |cons y b =>
   unfold Nf at ha hb;rw[Lj] at ha hb;have e:x=y:=by
    rcases Bg.mp (p.mem_iff.mp (.head _)) with e|e
    .exact e
    .rcases Bg.mp (p.mem_iff.mpr (.head _)) with e'|e'
     .exact e'.symm
     .have h1:=ha.1 y e'
      have h2:=hb.1 x e;rcases O.tri h1 with e|h
      .exact e.symm
      .rw[h2] at h;cases h
   subst e;rw[jX O ha.2 hb.2 (List.Perm.cons_inv p)]
noncomputable def vI (lt':K->K->Ap)(l:Aa K):Aa K:=l.mergeSort λa b=>!lt' b a
theorem yN (l:Aa K):(vI lt' l).Perm l:=Td _ _
theorem bG (O:Ord lt')(l:Aa K):Nf lt' (vI lt' l):=by
 have:=Lr (le:=λa b=>!lt' b a) (λa b c h1 h2=>?_) (λa b=>?_) l
 .exact this.imp λh=>by simpa using h
 .have h1:lt' b a=false:=by simpa using h1
  have h2:lt' c b=false:=by simpa using h2
  cases h3:lt' c a with
  |false=>rfl
  |true =>
   rcases O.tri h1 with e|h
   .rw[<- e] at h3;rw[h3] at h2;cases h2
   .have:=O.tr h3 h;rw[h2] at this;cases this
 .cases h:lt' b a with
  |false=>rfl
  |true =>
   cases h':lt' a b with
   |false=>rfl
   |true=>have:=O.tr h h';rw[O.irr] at this;cases this
noncomputable def FK (lt':K->K->Ap)(x:K):Aa K->Aa K
 |[]=>[x]
 |y::l=>if lt' x y then x::y::l else if lt' y x then y::FK lt' x l else y::l
noncomputable def srt (lt':K->K->Ap):Aa K->Aa K
 |[]=>[]
 |x::xs=>FK lt' x (srt lt' xs)
end
noncomputable def t7:Ap->Bq->Bj Bq->Af->Af->Af->Mw Fa Ke (Al Af):=sortPriv% PySem.Builtin.gallop
noncomputable def WB:Bj Bq->Bj Bq->Mw Fa Ke (Bj Bq):=sortPriv% PySem.Builtin.mergeLo
noncomputable def WA:Bj Bq->Bj Bq->Mw Fa Ke (Bj Bq):=sortPriv% PySem.Builtin.mergeHi
noncomputable def nv:Bq:=(Df,Df)
section
variable {M:Lz}{A:Br}{E:Ac->Ah->Prop}{s:Ah}{κ : La}{U:Bq->Prop}{r:Bq->Ag}
structure Cm (M:Lz)(A:Br)(s:Ah)(κ : La)(U:Bq->Prop)(r:Bq->Ag):Prop where
 lt:∀ {x y:Bq},U x->U y->∀ {E:Ac->Ah->Prop} {Q:Al Ap->Fa->Prop} {st:Fa},kindOf st=κ->Q (Ab (decide (r x<r y))) st->wpS M A E s (lt' x y) Q st
theorem z9 {i:Af}{Q:Bq->Fa->Prop}{st:Fa}(h:i<arr.size)(q:Q (arr.getD i nv) st):wpS M A E s (elem' arr i) Q st:=by
 rw[elem'_eq,getElem?_pos arr i h];have e:arr.getD i nv=arr[i]:=by simp[Ic,h]
 rw[e] at q;exact Bm q
theorem i3 (C:Cm M A s κ U r){left:Ap}{key:Bq}{arr:Bj Bq}{i:Af}{Q:Al Ap->Fa->Prop}{st:Fa}(hk:kindOf st=κ)(hi:i<arr.size)(hU:U (arr.getD i nv))(hkU:U key)
  (q:Q (Ab (if left then decide (r (arr.getD i nv)<r key) else !decide (r key<r (arr.getD i nv)))) st) :
  wpS M A E s (do let x <- elem' arr i;if left then lt' x key else (do let a <- lt' key x;pure (a.map (λb=>!b)))) Q st:=by
 refine Bb (z9 hi ?_);cases left with
 |true=>exact C.lt hU hkU hk q
 |false=>exact Bb (C.lt hkU hU hk (Bm q))
theorem mF (C:Cm M A s κ U r){left:Ap}{key:Bq}{arr:Bj Bq}{base n hint cut:Af}{Q:Al Af->Fa->Prop}{st:Fa}(hk:kindOf st=κ)(hh:hint<n)(hb:base+n<=arr.size)(hU:∀ i,i<n->U (arr.getD (base+i) nv))(hkU:U key)(hc:cut<=n)
  (hB:∀ i,i<n->(if left then decide (r (arr.getD (base+i) nv)<r key) else !decide (r key<r (arr.getD (base+i) nv)))=decide (i<cut)) (h:Q (Ab cut) st):wpS M A E s (t7 left key arr base n hint) Q st:=by
 have B:∀ {i:Af} {E:Ac->Ah->Prop} {Q:Al Ap->Fa->Prop},i<n->Q (Ab (decide (i<cut))) st->wpS M A E s (do let x <- elem' arr (base+i);if left then lt' x key else (do let a <- lt' key x;pure (a.map (λb=>!b)))) Q st:=by
  intro i E Q hi q;exact i3 C hk (by lia) (hU i hi) hkU (by rw[hB i hi];exact q)
 have bin:∀ {lo hi:Af} {f:Af->Al (Al Af) × Af × Af->Mw Fa Ke (ForInStep (Al (Al Af) × Af × Af))},lo<=cut->cut<=hi->hi<=n ->
   (∀ x a b,f x (none,a,b)=if a>=b then pure (.done (none,a,b)) else ((do let x <- elem' arr (base+(a+(b-a)/2));if left then lt' x key else (do let a <- lt' key x;pure (a.map (λb=>!b)))) >>= λo=>match o with
    |some more=>if more then pure (.yield (none,a+(b-a)/2+1,b)) else pure (.yield (none,a,a+(b-a)/2))
    |_=>pure (.done (Ab none,a,b))))->wpS M A E s (forIn [0:n] (none,lo,hi) f) (λc st'=>st'=st/\∃ a,c=(none,a,cut)) st:=by
  intro lo hi f h1 h2 h3 hf;refine Es (I:=λx c st'=>st'=st/\∃ a b,c=(none,a,b)/\a<=cut/\cut<=b/\b<=n/\b-a<=n-x) ?_ ?_ ⟨rfl,lo,hi,rfl,h1,h2,h3,by lia⟩
  .rintro x c st' _ hx ⟨rfl,a,b,rfl,q1,q2,q3,q4⟩
   rw[hf];by_cases g:a>=b
   .rw[Bc g];exact Bm ⟨rfl,a,by rw[show b=cut by lia]⟩
   .rw[Aw g]
    refine Bb (B (by lia) ?_)
    by_cases z:a+(b-a)/2<cut
    .simp only[z,IH,Dm]
     exact Bm ⟨rfl,_,_,rfl,by lia,q2,q3,by lia⟩
    .simp only[z,IK,Cz,Fv]
     exact Bm ⟨rfl,_,_,rfl,q1,by lia,by lia,by lia⟩
  .rintro c st' ⟨rfl,a,b,rfl,q1,q2,q3,q4⟩
   exact⟨rfl,a,by rw[show b=cut by lia]⟩
 refine Bb (B hh ?_);dsimp only;by_cases hr:hint<cut
 .simp only[hr,IH,Dm]
  refine Bb (Gm (Es (I:=λx c st'=>st'=st/\∃ a b,c=(none,a,b)/\hint+a<cut/\a<b/\x<b)
   (Q:=λc st'=>st'=st/\∃ a b,c=(none,a,b)/\hint+a<cut/\cut<=hint+min b (n-hint)) ?_ ?_ ⟨rfl,0,1,rfl,hr,by lia,by lia⟩) ?_)
  .rintro x c st' _ hx ⟨rfl,a,b,rfl,q1,q2,q3⟩
   dsimp only;by_cases g:b>=n-hint
   .rw[Bc g];exact Bm ⟨rfl,a,b,rfl,q1,by lia⟩
   .rw[Aw g]
    refine Bb (B (by lia) ?_)
    by_cases z:hint+b<cut
    .simp only[z,IH,Bool.not_true,Cz,Fv]
     exact Bm ⟨rfl,_,_,rfl,z,by lia,by lia⟩
    .simp only[z,IK,Bool.not_false,Dm]
     exact Bm ⟨rfl,a,b,rfl,q1,by lia⟩
  .rintro c st' ⟨rfl,a,b,rfl,q1,q2,q3⟩
   exact⟨rfl,a,b,rfl,q1,by lia⟩
  .rintro c st' ⟨rfl,a,b,rfl,q1,q2⟩
   dsimp only;refine Bb (Gm (bin (lo:=hint+a+1) (hi:=hint+min b (n-hint)) (by lia) q2 (by lia) λ_ _ _=>rfl) ?_)
   rintro c st' ⟨rfl,a',rfl⟩;exact Bm h
 .simp only[hr,IK,Cz,Fv]
  refine Bb (Gm (Es (I:=λx c st'=>st'=st/\∃ a b,c=(none,a,b)/\cut+a<=hint/\a<b/\x<b)
   (Q:=λc st'=>st'=st/\∃ a b,c=(none,a,b)/\cut+a<=hint/\hint+1<=cut+min b (hint+1)) ?_ ?_ ⟨rfl,0,1,rfl,by lia,by lia,by lia⟩) ?_)
  .rintro x c st' _ hx ⟨rfl,a,b,rfl,q1,q2,q3⟩
   dsimp only;by_cases g:b>=hint+1
   .rw[Bc g];exact Bm ⟨rfl,a,b,rfl,q1,by lia⟩
   .rw[Aw g]
    refine Bb (B (by lia) ?_)
    by_cases z:hint-b<cut
    .simp only[z,IH,Dm]
     exact Bm ⟨rfl,a,b,rfl,q1,by lia⟩
    .simp only[z,IK,Cz,Fv]
     exact Bm ⟨rfl,_,_,rfl,by lia,by lia,by lia⟩
  .rintro c st' ⟨rfl,a,b,rfl,q1,q2,q3⟩
   exact⟨rfl,a,b,rfl,q1,by lia⟩
  .rintro c st' ⟨rfl,a,b,rfl,q1,q2⟩
   dsimp only;refine Bb (Gm (bin (lo:=hint+1-min b (hint+1)) (hi:=hint-a) (by lia) (by lia) (by lia) λ_ _ _=>rfl) ?_)
   rintro c st' ⟨rfl,a',rfl⟩;exact Bm h
end
def Le (r:Bq->Ag)(x y:Bq):Prop:=r x<=r y
structure Mg (r:Bq->Ag)(o A B T:Aa Bq):Prop where
 p1:(o++A).Pairwise (Le r)
 p2:(o++B).Pairwise (Le r)
 pm:(o++A++B).Perm T
structure Mh (r:Bq->Ag)(A B o T:Aa Bq):Prop where
 p1:(A++o).Pairwise (Le r)
 p2:(B++o).Pairwise (Le r)
 pm:(A++B++o).Perm T
section
variable {r:Bq->Ag}{o A B A1 A2 B1 B2 T:Aa Bq}
theorem Mg.b (h:Mg r o A (B1++B2) T)(l:∀ x∈B1,∀ y∈A,Le r x y):Mg r (o++B1) A B2 T:=by
 obtain⟨p1,p2,pm⟩:=h;refine⟨?_,by rw[Ci];exact p2,?_⟩
 .rw[Ci]
  rw[Ed] at p1 p2 ⊢;refine⟨p1.1,?_,λx hx y hy=>?_⟩
  .rw[Ed]
   exact⟨(Ed.mp p2.2.1).1,p1.2.1,l⟩
  .rcases Cs.mp hy with hy|hy
   .exact p2.2.2 x hx y (Dr _ hy)
   .exact p1.2.2 x hx y hy
 .refine Np ?_ pm
  simp only[Ci];refine Jm _ ?_;simp only[<- Ci];exact IX _ Jn
theorem Mg.a (h:Mg r o (A1++A2) B T)(l:∀ x∈A1,∀ y∈B,Le r x y):Mg r (o++A1) A2 B T:=by
 obtain⟨p1,p2,pm⟩:=h;refine⟨by rw[Ci];exact p1,?_,by simpa only [Ci] using pm⟩
 rw[Ci];rw[Ed] at p1 p2 ⊢;refine⟨p2.1,?_,λx hx y hy=>?_⟩
 .rw[Ed]
  exact⟨(Ed.mp p1.2.1).1,p2.2.1,l⟩
 .rcases Cs.mp hy with hy|hy
  .exact p1.2.2 x hx y (Dr _ hy)
  .exact p2.2.2 x hx y hy
theorem Mh.a (h:Mh r (A1++A2) B o T)(l:∀ x∈B,∀ y∈A2,Le r x y):Mh r A1 B (A2++o) T:=by
 obtain⟨p1,p2,pm⟩:=h;refine⟨by rw[<- Ci];exact p1,?_,?_⟩
 .rw[Ci] at p1
  rw[Ed] at p1 p2 ⊢;refine⟨p2.1,p1.2.1,λx hx y hy=>?_⟩;rcases Cs.mp hy with hy|hy
  .exact l x hx y hy
  .exact p2.2.2 x hx y hy
 .refine Np ?_ pm
  simp only[Ci];refine Jm _ ?_;simp only[<- Ci];exact IX _ Jn
theorem Mh.b (h:Mh r A (B1++B2) o T)(l:∀ x∈A,∀ y∈B2,Le r x y):Mh r A B1 (B2++o) T:=by
 obtain⟨p1,p2,pm⟩:=h;refine⟨?_,by rw[<- Ci];exact p2,by simpa only [Ci] using pm⟩
 rw[Ci] at p2;rw[Ed] at p1 p2 ⊢;refine⟨p1.1,p2.2.1,λx hx y hy=>?_⟩;rcases Cs.mp hy with hy|hy
 .exact l x hx y hy
 .exact p1.2.2 x hx y hy
end
structure Mo (r:Bq->Ag)(T:Aa Bq)(m:Bj Bq):Prop where
 pm:m.toList.Perm T
 up:m.toList.Pairwise (Le r)
noncomputable abbrev v8 (st:Fa)(g:Af):Fa:=Cy (kindOf st) (arrOf st) (pendingOf st) g (failedOf st)
theorem mS {a:Bj Bq}{i:Af}(h:i<a.size):a.toList.drop i=a.getD i nv::a.toList.drop (i+1):=by
 rw[Fm (by simpa using h)]
 congr 1
 simp[Ic,h]
theorem zK {a:Bj Bq}{i:Af}(h:i<a.size):a.getD i nv∈a.toList:=by
 have e:a.getD i nv=a[i]:=by simp[Ic,h]
 rw[e];exact Array.getElem_mem_toList h
theorem wM {r:Bq->Ag}{a:Bj Bq}(s:a.toList.Pairwise (Le r)){i j:Af}(h:i<=j)(hj:j<a.size):r (a.getD i nv)<=r (a.getD j nv):=by
 rcases Hk i j with l|l
 .have e:=Ip.mp s i j (by simpa using Jv l hj) (by simpa using hj) l
  have hi:i<a.size:=Jv l hj;simpa [Ic,hi,hj,Le] using e
 .rw[Qu h l];exact Hx _
theorem kU {a:Bj Bq}{i:Af}{x:Bq}(h:x∈a.toList.drop i):∃ j,i<=j/\j<a.size/\x=a.getD j nv:=by
 obtain⟨k,hk,e⟩:=Cw.mp h;rw[Vc] at e;have hk':k<a.size-i:=by simpa using hk
 refine⟨i+k,by lia,by lia,?_⟩
 have:i+k<a.size:=by lia
 simp[Ic,this,<- e]
theorem kX {a:Bj Bq}{x:Bq}(h:x∈a.toList.take n):∃ j,j<n/\j<a.size/\x=a.getD j nv:=by
 obtain⟨k,hk,e⟩:=Cw.mp h;rw[Vd] at e;have hk':k<n/\k<a.size:=by rw[Gq,Ce] at hk;lia
 refine⟨k,hk'.1,hk'.2,?_⟩;simp[Ic,hk'.2,<- e]
theorem bW {a:Bj Bq}{i k:Af}:(a.extract i (i+k)).toList++a.toList.drop (i+k)=a.toList.drop i:=by
 rw[Iu,Gv,IL,<- List.drop_drop];exact Mx _ _
theorem pU {a:Bj Bq}{i:Af}:(a.extract i a.size).toList=a.toList.drop i:=by
 rw[Iu,Gv];exact IY (by simp)
theorem tI {a:Bj Bq}{i k:Af}{x:Bq}(h:x∈(a.extract i (i+k)).toList):∃ j,i<=j/\j<i+k/\j<a.size/\x=a.getD j nv:=by
 rw[Iu,Gv,IL] at h;obtain⟨m,hm,e⟩:=Cw.mp h;rw[Vd,Vc] at e;have hm':m<k/\i+m<a.size:=by rw[Gq,Mp,Ce] at hm;lia
 refine⟨i+m,by lia,by lia,hm'.2,?_⟩
 simp[Ic,hm'.2,<- e]
def GL (r:Bq->Ag)(a b o:Bj Bq)(i j:Af):Prop:=Mg r o.toList (a.toList.drop i) (b.toList.drop j) (a.toList++b.toList)
section
variable {r:Bq->Ag}{a b o:Bj Bq}{i j k:Af}
theorem GL.pb (sa:a.toList.Pairwise (Le r))(h:GL r a b o i j)(hj:j<b.size)(l:i<a.size->r (b.getD j nv)<=r (a.getD i nv)):GL r a b (o.push (b.getD j nv)) i (j+1):=by
 have h':Mg r o.toList (a.toList.drop i) ([b.getD j nv]++b.toList.drop (j+1)) (a.toList++b.toList):=by rw[Rg,<- mS hj];exact h
 have:=h'.b λx hx y hy=>by
  cases Dc.mp hx;obtain⟨m,h1,h2,rfl⟩:=kU hy;exact Ex (l (by lia)) (wM sa h1 h2)
 unfold GL;rw[Iq];exact this
theorem GL.pa (sb:b.toList.Pairwise (Le r))(h:GL r a b o i j)(hi:i<a.size)(l:j<b.size->r (a.getD i nv)<=r (b.getD j nv)):GL r a b (o.push (a.getD i nv)) (i+1) j:=by
 have h':Mg r o.toList ([a.getD i nv]++a.toList.drop (i+1)) (b.toList.drop j) (a.toList++b.toList):=by rw[Rg,<- mS hi];exact h
 have:=h'.a λx hx y hy=>by
  cases Dc.mp hx;obtain⟨m,h1,h2,rfl⟩:=kU hy;exact Ex (l (by lia)) (wM sb h1 h2)
 unfold GL;rw[Iq];exact this
theorem GL.ea (sb:b.toList.Pairwise (Le r))(h:GL r a b o i j)(hj:j<b.size)(l:∀ m,m<k->r (a.getD (i+m) nv)<=r (b.getD j nv)):GL r a b (o++a.extract i (i+k)) (i+k) j:=by
 have h':Mg r o.toList ((a.extract i (i+k)).toList++a.toList.drop (i+k)) (b.toList.drop j) (a.toList++b.toList):=by rw[bW];exact h
 have:=h'.a λx hx y hy=>by
  obtain⟨m,h1,h2,h3,rfl⟩:=tI hx;obtain⟨m',h4,h5,rfl⟩:=kU hy;have:=l (m-i) (by lia)
  rw[show i+(m-i)=m by lia] at this
  exact Ex this (wM sb h4 h5)
 unfold GL;rw[Dh];exact this
theorem GL.eb (sa:a.toList.Pairwise (Le r))(h:GL r a b o i j)(hi:i<a.size)(l:∀ m,m<k->r (b.getD (j+m) nv)<=r (a.getD i nv)):GL r a b (o++b.extract j (j+k)) i (j+k):=by
 have h':Mg r o.toList (a.toList.drop i) ((b.extract j (j+k)).toList++b.toList.drop (j+k)) (a.toList++b.toList):=by rw[bW];exact h
 have:=h'.b λx hx y hy=>by
  obtain⟨m,h1,h2,h3,rfl⟩:=tI hx;obtain⟨m',h4,h5,rfl⟩:=kU hy;have:=l (m-j) (by lia)
  rw[show j+(m-j)=m by lia] at this
  exact Ex this (wM sa h4 h5)
 unfold GL;rw[Dh];exact this
theorem GL.fin (h:GL r a b o i j)(e:i=a.size\/j=b.size):Mo r (a.toList++b.toList) (o++a.extract i a.size++b.extract j b.size):=by
 refine⟨?_,?_⟩ <;> rw[Dh,Dh,pU,pU]
 .exact h.pm
 .rcases e with rfl|rfl
  .rw[Mf (by simp),Gk];exact h.p2
  .rw[Mf (l:=b.toList) (by simp),Gk];exact h.p1
theorem GL.last (h:GL r a b o i j)(e:i+1=a.size)(l:∀ x∈b.toList,Le r x (a.getD (a.size-1) nv)):Mo r (a.toList++b.toList) (o++b.extract j b.size++a.extract i a.size):=by
 have hi:i<a.size:=by lia
 have hd:a.toList.drop i=[a.getD i nv]:=by rw[mS hi,Mf (by simp;lia)]
 refine⟨?_,?_⟩ <;> rw[Dh,Dh,pU,pU]
 .refine Np ?_ h.pm
  rw[Ci,Ci];exact Jm _ Jn
 .have p1:=h.p1
  rw[hd] at p1 ⊢;rw[Ed] at p1 ⊢;refine⟨h.p2,Qc _ _,λx hx y hy=>?_⟩;rcases Cs.mp hx with hx|hx
  .exact p1.2.2 x hx y hy
  .cases Dc.mp hy
   have:=l x (Se hx);rw[show a.size-1=i by lia] at this
   exact this
end
theorem lT {p:Af->Ap}:∀ (n:Af),(∀ i j,i<=j->j<n->p j=true->p i=true)->∃ c,c<=n/\∀ i,i<n->p i=decide (i<c)
 |0,_=>⟨0,Ax _,λi h=>by lia⟩
 |n+1,h=>by
  obtain⟨c,hc,e⟩:=lT n λi j a b=>h i j a (by lia)
  by_cases q:p n=true
  .refine⟨n+1,Ax _,λi hi=>?_⟩
   rw[h i n (by lia) (by lia) q]
   simp[hi]
  .refine⟨c,by lia,λi hi=>?_⟩
   rcases Hk i n with l|l
   .exact e i l
   .have:i=n:=by lia
    subst this;have:¬ i<c:=by lia
    simp[this,q]
section
variable {M:Lz}{A:Br}{E:Ac->Ah->Prop}{s:Ah}{κ : La}{U:Bq->Prop}{r:Bq->Ag}
theorem qM {σ α:Type}{c:Prop}[Il c]{x y:Mw σ Ke α}{Q:α->σ->Prop}{st:σ}(h1:c->wpS M A E s x Q st)(h2:¬ c->wpS M A E s y Q st):wpS M A E s (if c then x else y) Q st:=by
 by_cases h:c
 .rw[Bc h];exact h1 h
 .rw[Aw h];exact h2 h
theorem XM (C:Cm M A s κ U r){key:Bq}{arr:Bj Bq}{base n hint:Af}{Q:Al Af->Fa->Prop}{st:Fa}(hk:kindOf st=κ)(hh:hint<n)(hb:base+n<=arr.size)(hU:∀ i,i<n->U (arr.getD (base+i) nv))(hkU:U key)
  (sa:∀ i j,i<=j->j<n->r (arr.getD (base+i) nv)<=r (arr.getD (base+j) nv)) (h:∀ c,c<=n->(∀ i,i<c->r (arr.getD (base+i) nv)<=r key)->(∀ i,c<=i->i<n->r key<r (arr.getD (base+i) nv))->Q (Ab c) st):wpS M A E s (t7 false key arr base n hint) Q st:=by
 obtain⟨c,hc,e⟩:=lT (p:=λi=>!decide (r key<r (arr.getD (base+i) nv))) n λi j a b q=>by
  have:=sa i j a b;simp only[Jh,Hj] at q ⊢
  lia
 refine mF C hk hh hb hU hkU hc (λi hi=>by simpa using e i hi) (h c hc (λi hi=>?_) λi hi hn=>?_)
 .have:=e i (by lia)
  simp only[hi,IH,Jh,Hj] at this
  lia
 .have:=e i hn
  simp only[show ¬ i<c by lia,IK,Bool.not_eq_false',Aq] at this
  exact this
theorem XN (C:Cm M A s κ U r){key:Bq}{arr:Bj Bq}{base n hint:Af}{Q:Al Af->Fa->Prop}{st:Fa}(hk:kindOf st=κ)(hh:hint<n)(hb:base+n<=arr.size)(hU:∀ i,i<n->U (arr.getD (base+i) nv))(hkU:U key)
  (sa:∀ i j,i<=j->j<n->r (arr.getD (base+i) nv)<=r (arr.getD (base+j) nv)) (h:∀ c,c<=n->(∀ i,i<c->r (arr.getD (base+i) nv)<r key)->(∀ i,c<=i->i<n->r key<=r (arr.getD (base+i) nv))->Q (Ab c) st):wpS M A E s (t7 true key arr base n hint) Q st:=by
 obtain⟨c,hc,e⟩:=lT (p:=λi=>decide (r (arr.getD (base+i) nv)<r key)) n λi j a b q=>by
  have:=sa i j a b;simp only[Aq] at q ⊢
  lia
 refine mF C hk hh hb hU hkU hc (λi hi=>by simpa using e i hi) (h c hc (λi hi=>?_) λi hi hn=>?_)
 .have:=e i (by lia)
  simp only[hi,IH,Aq] at this;exact this
 .have:=e i hn
  simp only[show ¬ i<c by lia,IK,Hj] at this
  lia
end
section
variable {M:Lz}{A:Br}{E:Ac->Ah->Prop}{s:Ah}{σ α γ δ:Type}{Q:α->σ->Prop}{st:σ}{c c' c2:Prop}[Il c][Il c'][Il c2]
theorem c8 {K:γ->Mw σ Ke α}{x y:γ}(h:∀ z,wpS M A E s (K z) Q st):wpS M A E s (if c then K x else K y) Q st:=qM (λ_=>h x) λ_=>h y
theorem QZ {K:γ->δ->Mw σ Ke α}{u:Mw σ Ke α}{x y:γ}{w v:δ}(P:γ->δ->Prop)(hK:∀ z w,P z w->wpS M A E s (K z w) Q st)(h1:c->c'->wpS M A E s u Q st)(h2:c->¬ c'->P x w)(h3:¬ c->P y v):wpS M A E s (if c then (if c' then u else K x w) else K y v) Q st:=qM (λe=>qM (h1 e) λe'=>hK _ _ (h2 e e')) λe=>hK _ _ (h3 e)
theorem Z0 {K:γ->δ->Mw σ Ke α}{u u':Mw σ Ke α}{x y:γ}{w v:δ}(P:γ->δ->Prop)(hK:∀ z w,P z w->wpS M A E s (K z w) Q st)(h1:c->c'->wpS M A E s u Q st)(h1':c->¬ c'->c2->wpS M A E s u' Q st)(h2:c->¬ c'->¬ c2->P x w)(h3:¬ c->P y v):wpS M A E s (if c then (if c' then u else if c2 then u' else K x w) else K y v) Q st:=qM (λe=>qM (h1 e) λe'=>qM (h1' e e') λe2=>hK _ _ (h2 e e' e2)) λe=>hK _ _ (h3 e)
end
section
variable {prog:Bi}{w:Ca}{A:Br}{E:Ac->Ah->Prop}{s:Ah}{κ : La}{U:Bq->Prop}{r:Bq->Ag}
theorem rG (C:Cm (Ba prog w) A s κ U r){a b:Bj Bq}{Q:Bj Bq->Fa->Prop}{st:Fa}(hk:kindOf st=κ)(ua:∀ x∈a.toList,U x)(ub:∀ x∈b.toList,U x)(sa:a.toList.Pairwise (Le r))(sb:b.toList.Pairwise (Le r))
  (h:∀ m g,Mo r (a.toList++b.toList) m->Q m (v8 st g)) (ha:0<a.size) (hb:0<b.size) (h0:r (b.getD 0 nv)<=r (a.getD 0 nv)) (h1:∀ x∈b.toList,Le r x (a.getD (a.size-1) nv)):wpS (Ba prog w) A E s (WB a b) Q st:=by
 have G0:GL r a b #[] 0 0:=⟨by simpa using sa,by simpa using sb,by simp⟩
 have G1:=G0.pb sa hb λ_=>h0;refine Bb (OD (Gj ⟨rfl,?_⟩));refine Bb (z9 hb ?_);dsimp only;refine qM (λe=>Bm (h _ (Qv st) (G1.fin (.inr (by simpa using e))))) λe1=>?_
 refine qM (λe=>Bm (h _ (Qv st) (G1.last (by simpa using e) h1))) λe2=>?_
 have e1:1<b.size:=by
  have:¬ 1=b.size:=by simpa using e1
  lia
 have e2:0+1<a.size:=by
  have:¬ 0+1=a.size:=by simpa using e2
  lia
 refine Bb (Lu ?_);refine Bb (Gm (Es (I:=λx c st'=>(∃ g,st'=v8 st g)/\∃ o i j g,c=(none,o,i,j,g)/\GL r a b o i j/\i+1<a.size/\j<b.size/\x<i+j)
  (Q:=λc st'=>(∃ g,st'=v8 st g)/\∃ m,c.1=Ab m/\Mo r (a.toList++b.toList) m) ?_ ?_ ⟨⟨Qv st,rfl⟩,_,0,1,_,rfl,G1,e2,e1,by lia⟩) ?_)
 .rintro x c st' _ hx ⟨⟨g,rfl⟩,o,i,j,mg,rfl,G,hi,hj,hp⟩
  dsimp only;refine Bb (Gm (Es (I:=λy c st'=>(∃ g,st'=v8 st g)/\∃ o i' j' p q,c=(none,o,i',j',p,q)/\GL r a b o i' j'/\i'+1<a.size/\j'<b.size/\i+j+y<=i'+j')
   (Q:=λc st'=>(∃ g,st'=v8 st g)/\((∃ m,c.1=Ab m/\Mo r (a.toList++b.toList) m)\/∃ o i' j' p q,c=(none,o,i',j',p,q)/\GL r a b o i' j'/\i'+1<a.size/\j'<b.size/\x+1<i'+j')) ?_ ?_ ⟨⟨g,rfl⟩,o,i,j,0,0,rfl,G,hi,hj,by lia⟩) ?_)
  .rintro y c st' _ hy ⟨⟨g,rfl⟩,o,i',j',p,q,rfl,G,hi,hj,hq⟩
   dsimp only;refine Bb (z9 hj (Bb (z9 (i:=i') (by lia) (Bb (C.lt (ub _ (zK hj)) (ua _ (zK (i:=i') (by lia))) hk ?_)))))
   dsimp only;refine qM (λl=>?_) λl=>?_
   .have l:r (b.getD j' nv)<r (a.getD i' nv):=by simpa using l
    have G2:=G.pb sa hj λ_=>Gn l;refine Bb (z9 hj ?_);refine qM (λe=>?_) λe=>?_
    .exact Bm ⟨⟨g,rfl⟩,.inl ⟨_,rfl,G2.fin (.inr (by simpa using e))⟩⟩
    .have e:¬ j'+1=b.size:=by simpa using e
     refine qM (λ_=>?_) λ_=>?_
     .exact Bm ⟨⟨g,rfl⟩,.inr ⟨_,_,_,_,_,rfl,G2,hi,by lia,by lia⟩⟩
     .exact Bm ⟨⟨g,rfl⟩,_,_,_,_,_,rfl,G2,hi,by lia,by lia⟩
   .have l:¬ r (b.getD j' nv)<r (a.getD i' nv):=by simpa using l
    have G2:=G.pa sb (by lia) λ_=>WP.mp l
    refine Bb (z9 (i:=i') (by lia) ?_)
    refine qM (λe=>?_) λe=>?_
    .exact Bm ⟨⟨g,rfl⟩,.inl ⟨_,rfl,G2.last (by simpa using e) h1⟩⟩
    .have e:¬ i'+1+1=a.size:=by simpa using e
     refine qM (λ_=>?_) λ_=>?_
     .exact Bm ⟨⟨g,rfl⟩,.inr ⟨_,_,_,_,_,rfl,G2,by lia,hj,by lia⟩⟩
     .exact Bm ⟨⟨g,rfl⟩,_,_,_,_,_,rfl,G2,by lia,hj,by lia⟩
  .rintro c st' ⟨z,o,i',j',p,q,rfl,G,hi,hj,hq⟩
   exact⟨z,.inr ⟨_,_,_,_,_,rfl,G,hi,hj,by lia⟩⟩
  .rintro c st' ⟨⟨g,rfl⟩,⟨m,hc,hm⟩|⟨o,i',j',p,q,rfl,G,hi,hj,hq⟩⟩
   .obtain⟨c0,c1⟩:=c
    cases hc;exact Bm ⟨⟨g,rfl⟩,m,rfl,hm⟩
   dsimp only;refine Bb (OD (Gj ⟨rfl,?_⟩));refine Bb (Gm (Es (I:=λy c st'=>(∃ g,st'=v8 st g)/\∃ o i' j' p q t,c=(none,o,i',j',p,q,t)/\GL r a b o i' j'/\i'+1<a.size/\j'<b.size/\x+1<i'+j')
    (Q:=λc st'=>(∃ g,st'=v8 st g)/\((∃ m,c.1=Ab m/\Mo r (a.toList++b.toList) m)\/∃ o i' j' p q t,c=(none,o,i',j',p,q,t)/\GL r a b o i' j'/\i'+1<a.size/\j'<b.size/\x+1<i'+j')) ?_ ?_ ⟨⟨g,rfl⟩,o,i',j',_,_,_,rfl,G,hi,hj,hq⟩) ?_)
   .rintro y c st' _ hy ⟨⟨g,rfl⟩,o,i,j,p,q,t,rfl,G,hi,hj,hq⟩
    dsimp only;generalize p-1=p1;apply c8 (x:=p1) (y:=p);intro mg;have hi0:i<a.size:=OS hi;refine Bb (Ie ?_);refine Bb (z9 hj ?_);refine Bb (XM C hk (OT hi0) (Uj (Te (Dz hi0))) (λi' hi'=>ua _ (zK (Jo hi'))) (ub _ (zK hj)) (λi' j' h1 h2=>wM sa (Ho h1 _) (Jo h2)) λk k1 k2 k3=>?_);dsimp only;have G2:=G.ea sb hj k2;have k4:i+k<=a.size:=Rh (Dz hi0) k1;have k5:i+k<a.size->r (b.getD j nv)<r (a.getD (i+k) nv):=λh=>k3 k (Ax _) (Sf (by rw[Nv];exact h))
    have k6:x+1<i+k+j:=Bd hq (Sg (Pk _ _) _);have k7:k=0->i=i+k:=λh=>by rw[h];rfl
    generalize i+k=i1 at G2 k4 k5 k6 k7 ⊢;generalize o++a.extract i i1=o1 at G2 ⊢;apply Z0 (x:=o1) (w:=i1) (y:=o) (v:=i) (P:=λout ia=>GL r a b out ia j/\ia+1<a.size/\x+1<ia+j/\r (b.getD j nv)<r (a.getD ia nv))
    case h1=>exact λ_ e=>Bm ⟨⟨_,rfl⟩,.inl ⟨_,rfl,G2.last (by simpa using e) h1⟩⟩
    case h1'=>exact λ_ _ e=>Bm ⟨⟨_,rfl⟩,.inl ⟨_,rfl,G2.fin (.inl (by simpa using e))⟩⟩
    case h2 =>
     intro _ e3 e4;have e3:¬ i1+1=a.size:=by simpa using e3
     have e4:¬ i1=a.size:=by simpa using e4
     have e5:i1<a.size:=Gz k4 e4;exact⟨G2,Gz e5 e3,k6,k5 e5⟩
    case h3 =>
     intro e;have e:=k7 (IZ e);exact⟨G,hi,hq,by rw[e];exact k5 (by rw[<- e];exact hi0)⟩
    case hK =>
     rintro out ia ⟨G2,hl,hq,hc⟩;have ha0:ia<a.size:=OS hl;refine Bb (z9 hj ?_);have G3:=G2.pb sa hj λ_=>Gn hc;refine qM (λe=>Bm ⟨⟨_,rfl⟩,.inl ⟨_,rfl,G3.fin (.inr (by simpa using e))⟩⟩) λe5=>?_
     have e5:¬ j+1=b.size:=by simpa using e5
     have hj1:j+1<b.size:=Gz hj e5;refine Bb (z9 ha0 ?_);refine Bb (XN C hk (OT hj1) (Uj (Te hj)) (λi hi=>ub _ (zK (Jo hi))) (ua _ (zK ha0)) (λi j h1 h2=>wM sb (Ho h1 _) (Jo h2)) λm m1 m2 m3=>?_);dsimp only;have G4:=G3.eb sa ha0 λi hi=>Gn (m2 i hi);have m4:j+1+m<=b.size:=Rh hj m1;have m5:j+1+m<b.size->r (a.getD ia nv)<=r (b.getD (j+1+m) nv):=λh=>m3 m (Ax _) (Sf (by rw[Nv];exact h))
     have m6:j+1<=j+1+m:=Pk _ _;have m7:m=0->j+1=j+1+m:=λh=>by rw[h]
     generalize j+1+m=j1 at G4 m4 m5 m6 m7 ⊢;generalize out.push (b.getD j nv)++b.extract (j+1) j1=o2 at G4 ⊢;apply QZ (x:=o2) (w:=j1) (y:=out.push (b.getD j nv)) (v:=j+1) (P:=λout ib=>GL r a b out ia ib/\ib<b.size/\j+1<=ib/\r (a.getD ia nv)<=r (b.getD ib nv))
     case h1=>exact λ_ e=>Bm ⟨⟨_,rfl⟩,.inl ⟨_,rfl,G4.fin (.inr (by simpa using e))⟩⟩
     case h2 =>
      intro _ e6;have e6:¬ j1=b.size:=by simpa using e6
      have e7:=Gz m4 e6;exact⟨G4,e7,m6,m5 e7⟩
     case h3 =>
      intro e;have e:=m7 (IZ e);exact⟨G3,hj1,Ax _,by rw[e];exact m5 (by rw[<- e];exact hj1)⟩
     case hK =>
      rintro out ib ⟨G4,hb1,hb2,hc4⟩;refine Bb (z9 ha0 ?_);have G5:=G4.pa sb ha0 λ_=>hc4;refine qM (λe=>Bm ⟨⟨_,rfl⟩,.inl ⟨_,rfl,G5.last (by simpa using e) h1⟩⟩) λe7=>?_
      have e7:¬ ia+1+1=a.size:=by simpa using e7
      have e8:ia+1+1<a.size:=Gz hl e7;have e9:x+1<ia+1+ib:=Bd hq (Xe (O9 _) (Nat.le_of_succ_le hb2));exact qM (λ_=>Bm ⟨⟨_,rfl⟩,.inr ⟨_,_,_,_,_,_,rfl,G5,e8,hb1,e9⟩⟩) λ_=>Bm ⟨⟨_,rfl⟩,_,_,_,_,_,_,rfl,G5,e8,hb1,e9⟩
   .rintro c st' ⟨z,o,i',j',p,q,t,rfl,G,hi,hj,hq⟩
    exact⟨z,.inr ⟨_,_,_,_,_,_,rfl,G,hi,hj,by lia⟩⟩
   .rintro c st' ⟨⟨g,rfl⟩,⟨m,hc,hm⟩|⟨o,i',j',p,q,t,rfl,G,hi,hj,hq⟩⟩
    .obtain⟨c0,c1⟩:=c
     cases hc;exact Bm ⟨⟨g,rfl⟩,m,rfl,hm⟩
    dsimp only;refine Bb (Ie ?_);exact Bm ⟨⟨_,rfl⟩,_,_,_,_,rfl,G,hi,hj,by lia⟩
 .rintro c st' ⟨z,o,i',j',p,rfl,G,hi,hj,hq⟩
  exfalso
  lia
 .rintro c st' ⟨⟨g,rfl⟩,m,hc,hm⟩
  obtain⟨c0,c1⟩:=c;cases hc;exact Bm (h m g hm)
end
theorem tW {a:Bj Bq}(h:0<n)(hn:n<=a.size):a.toList.take n=a.toList.take (n-1)++[a.getD (n-1) nv]:=by
 obtain⟨m,rfl⟩:∃ m,n=m+1:=⟨n-1,by lia⟩
 rw[Nat.add_sub_cancel,List.take_add_one];have hm:m<a.size:=by lia
 simp[Ic,hm]
theorem lZ {a:Bj Bq}{i:Af}(h:i<=n):a.toList.take i++(a.extract i n).toList=a.toList.take n:=by
 rw[Iu,Gv]
 conv=>rhs;rw[show n=i+(n-i) by lia,List.take_add]
theorem kN {a:Bj Bq}:(a.extract 0 n).toList=a.toList.take n:=by
 rw[Iu,Gv];simp
theorem kW {a:Bj Bq}{i:Af}{x:Bq}(hn:i<=n)(h:x∈(a.extract i n).toList):∃ j,i<=j/\j<n/\j<a.size/\x=a.getD j nv:=by
 obtain⟨k,rfl⟩:∃ k,n=i+k:=⟨n-i,by lia⟩
 exact tI h
def GH (r:Bq->Ag)(a b o:Bj Bq)(i j:Af):Prop:=Mh r (a.toList.take i) (b.toList.take j) o.toList.reverse (a.toList++b.toList)
section
variable {r:Bq->Ag}{a b o:Bj Bq}{i j k:Af}
theorem GH.pa (sb:b.toList.Pairwise (Le r))(h:GH r a b o i j)(h1:0<i)(h2:i<=a.size)(hj:j<=b.size)(l:0<j->r (b.getD (j-1) nv)<=r (a.getD (i-1) nv)):GH r a b (o.push (a.getD (i-1) nv)) (i-1) j:=by
 have h':Mh r (a.toList.take (i-1)++[a.getD (i-1) nv]) (b.toList.take j) o.toList.reverse (a.toList++b.toList):=by rw[<- tW h1 h2];exact h
 have:=h'.a λx hx y hy=>by
  cases Dc.mp hy;obtain⟨m,q1,q2,rfl⟩:=kX hx;exact Ex (wM sb (by lia) (by lia)) (l (by lia))
 unfold GH;rw[Iq,Kr];exact this
theorem GH.pb (sa:a.toList.Pairwise (Le r))(h:GH r a b o i j)(h1:0<j)(h2:j<=b.size)(hi:i<=a.size)(l:0<i->r (a.getD (i-1) nv)<=r (b.getD (j-1) nv)):GH r a b (o.push (b.getD (j-1) nv)) i (j-1):=by
 have h':Mh r (a.toList.take i) (b.toList.take (j-1)++[b.getD (j-1) nv]) o.toList.reverse (a.toList++b.toList):=by rw[<- tW h1 h2];exact h
 have:=h'.b λx hx y hy=>by
  cases Dc.mp hy;obtain⟨m,q1,q2,rfl⟩:=kX hx;exact Ex (wM sa (by lia) (by lia)) (l (by lia))
 unfold GH;rw[Iq,Kr];exact this
theorem GH.ea (sb:b.toList.Pairwise (Le r))(h:GH r a b o i j)(hk:k<=i)(hj:j<=b.size)(l:0<j->∀ m,k<=m->m<i->m<a.size->r (b.getD (j-1) nv)<=r (a.getD m nv)):GH r a b (o++(a.extract k i).reverse) k j:=by
 have h':Mh r (a.toList.take k++(a.extract k i).toList) (b.toList.take j) o.toList.reverse (a.toList++b.toList):=by rw[lZ hk];exact h
 have:=h'.a λx hx y hy=>by
  obtain⟨m,q1,q2,rfl⟩:=kX hx;obtain⟨m',q3,q4,q5,rfl⟩:=kW hk hy;exact Ex (wM sb (by lia) (by lia)) (l (by lia) m' q3 q4 q5)
 unfold GH;rw[Dh,Jw,Kr,Sh];exact this
theorem GH.eb (sa:a.toList.Pairwise (Le r))(h:GH r a b o i j)(hk:k<=j)(hi:i<=a.size)(l:0<i->∀ m,k<=m->m<j->m<b.size->r (a.getD (i-1) nv)<=r (b.getD m nv)):GH r a b (o++(b.extract k j).reverse) i k:=by
 have h':Mh r (a.toList.take i) (b.toList.take k++(b.extract k j).toList) o.toList.reverse (a.toList++b.toList):=by rw[lZ hk];exact h
 have:=h'.b λx hx y hy=>by
  obtain⟨m,q1,q2,rfl⟩:=kX hx;obtain⟨m',q3,q4,q5,rfl⟩:=kW hk hy;exact Ex (wM sa (by lia) (by lia)) (l (by lia) m' q3 q4 q5)
 unfold GH;rw[Dh,Jw,Kr,Sh];exact this
theorem GH.fin (h:GH r a b o i j)(e:i=0\/j=0):Mo r (a.toList++b.toList) (a.extract 0 i++b.extract 0 j++o.reverse):=by
 refine⟨?_,?_⟩ <;> rw[Dh,Dh,kN,kN,Jw]
 .exact h.pm
 .rcases e with rfl|rfl
  .rw[Xf,Ja];exact h.p2
  .rw[Xf,Gk];exact h.p1
theorem GH.first (h:GH r a b o i j)(e:j=1)(hb:0<b.size)(l:∀ x∈a.toList,Le r (b.getD 0 nv) x):Mo r (a.toList++b.toList) (b.extract 0 j++a.extract 0 i++o.reverse):=by
 subst e;have hd:b.toList.take 1=[b.getD 0 nv]:=by rw[tW (by lia) (by lia)];rfl
 refine⟨?_,?_⟩ <;> rw[Dh,Dh,kN,kN,Jw]
 .refine Np ?_ h.pm
  exact IX _ Jn
 .have p2:=h.p2
  rw[hd] at p2 ⊢;rw[Ci];rw[Ed] at p2 ⊢;refine⟨p2.1,h.p1,λx hx y hy=>?_⟩;rcases Cs.mp hy with hy|hy
  .cases Dc.mp hx
   exact l y (List.mem_of_mem_take hy)
  .exact p2.2.2 x hx y hy
end
section
variable {prog:Bi}{w:Ca}{A:Br}{E:Ac->Ah->Prop}{s:Ah}{κ : La}{U:Bq->Prop}{r:Bq->Ag}
theorem rF (C:Cm (Ba prog w) A s κ U r){a b:Bj Bq}{Q:Bj Bq->Fa->Prop}{st:Fa}(hk:kindOf st=κ)(ua:∀ x∈a.toList,U x)(ub:∀ x∈b.toList,U x)(sa:a.toList.Pairwise (Le r))(sb:b.toList.Pairwise (Le r))
  (h:∀ m g,Mo r (a.toList++b.toList) m->Q m (v8 st g)) (ha:0<a.size) (hb:0<b.size) (h0:∀ x∈a.toList,Le r (b.getD 0 nv) x) (h1:r (b.getD (b.size-1) nv)<=r (a.getD (a.size-1) nv)):wpS (Ba prog w) A E s (WA a b) Q st:=by
 have G0:GH r a b #[] a.size b.size:=by
  unfold GH;rw[IY (by simp),IY (by simp)]
  exact⟨by simpa using sa,by simpa using sb,by simp⟩
 have G1:=G0.pa sb ha (Ax _) (Ax _) λ_=>h1;refine Bb (OD (Gj ⟨rfl,?_⟩));refine Bb (z9 (i:=a.size-1) (by lia) ?_)
 dsimp only;refine qM (λe=>Bm (h _ (Qv st) (G1.fin (.inl (by simpa using e))))) λe1=>?_
 refine qM (λe=>Bm (h _ (Qv st) (G1.first (by simpa using e) hb h0))) λe2=>?_
 have e1:¬ a.size-1=0:=by simpa using e1
 have e2:¬ b.size=1:=by simpa using e2
 refine Bb (Lu ?_);refine Bb (Gm (Es (I:=λx c st'=>(∃ g,st'=v8 st g)/\∃ o i j g,c=(none,i,j,o,g)/\GH r a b o i j/\0<i/\i<=a.size/\1<j/\j<=b.size/\x+i+j<a.size+b.size)
  (Q:=λc st'=>(∃ g,st'=v8 st g)/\∃ m,c.1=Ab m/\Mo r (a.toList++b.toList) m) ?_ ?_ ⟨⟨Qv st,rfl⟩,_,a.size-1,b.size,_,rfl,G1,by lia,by lia,by lia,by lia,by lia⟩) ?_)
 .rintro x c st' _ hx ⟨⟨g,rfl⟩,o,i,j,mg,rfl,G,hi,hi2,hj,hj2,hp⟩
  dsimp only;refine Bb (Gm (Es (I:=λy c st'=>(∃ g,st'=v8 st g)/\∃ o i' j' p q,c=(none,i',j',o,p,q)/\GH r a b o i' j'/\0<i'/\i'<=a.size/\1<j'/\j'<=b.size/\i'+j'+y<=i+j)
   (Q:=λc st'=>(∃ g,st'=v8 st g)/\((∃ m,c.1=Ab m/\Mo r (a.toList++b.toList) m)\/∃ o i' j' p q,c=(none,i',j',o,p,q)/\GH r a b o i' j'/\0<i'/\i'<=a.size/\1<j'/\j'<=b.size/\x+1+i'+j'<a.size+b.size)) ?_ ?_ ⟨⟨g,rfl⟩,o,i,j,0,0,rfl,G,hi,hi2,hj,hj2,by lia⟩) ?_)
  .rintro y c st' _ hy ⟨⟨g,rfl⟩,o,i',j',p,q,rfl,G,hi,hi2,hj,hj2,hq⟩
   dsimp only;refine Bb (z9 (i:=j'-1) (by lia) (Bb (z9 (i:=i'-1) (by lia) (Bb (C.lt (ub _ (zK (i:=j'-1) (by lia))) (ua _ (zK (i:=i'-1) (by lia))) hk ?_)))))
   dsimp only;refine qM (λl=>?_) λl=>?_
   .have l:r (b.getD (j'-1) nv)<r (a.getD (i'-1) nv):=by simpa using l
    have G2:=G.pa sb hi hi2 hj2 λ_=>Gn l;refine Bb (z9 (i:=i'-1) (by lia) ?_)
    refine qM (λe=>Bm ⟨⟨g,rfl⟩,.inl ⟨_,rfl,G2.fin (.inl (by simpa using e))⟩⟩) λe=>?_
    have e:¬ i'-1=0:=by simpa using e
    exact qM (λ_=>Bm ⟨⟨g,rfl⟩,.inr ⟨_,_,_,_,_,rfl,G2,by lia,by lia,hj,hj2,by lia⟩⟩) λ_=>Bm ⟨⟨g,rfl⟩,_,_,_,_,_,rfl,G2,by lia,by lia,hj,hj2,by lia⟩
   .have l:¬ r (b.getD (j'-1) nv)<r (a.getD (i'-1) nv):=by simpa using l
    have G2:=G.pb sa (by lia) hj2 hi2 λ_=>WP.mp l
    refine Bb (z9 (i:=j'-1) (by lia) ?_)
    refine qM (λe=>Bm ⟨⟨g,rfl⟩,.inl ⟨_,rfl,G2.first (by simpa using e) hb h0⟩⟩) λe=>?_
    have e:¬ j'-1=1:=by simpa using e
    exact qM (λ_=>Bm ⟨⟨g,rfl⟩,.inr ⟨_,_,_,_,_,rfl,G2,hi,hi2,by lia,by lia,by lia⟩⟩) λ_=>Bm ⟨⟨g,rfl⟩,_,_,_,_,_,rfl,G2,hi,hi2,by lia,by lia,by lia⟩
  .rintro c st' ⟨z,o,i',j',p,q,rfl,G,hi,hi2,hj,hj2,hq⟩
   exact⟨z,.inr ⟨_,_,_,_,_,rfl,G,hi,hi2,hj,hj2,by lia⟩⟩
  .rintro c st' ⟨⟨g,rfl⟩,⟨m,hc,hm⟩|⟨o,i',j',p,q,rfl,G,hi,hi2,hj,hj2,hq⟩⟩
   .obtain⟨c0,c1⟩:=c
    cases hc;exact Bm ⟨⟨g,rfl⟩,m,rfl,hm⟩
   dsimp only;refine Bb (OD (Gj ⟨rfl,?_⟩));refine Bb (Gm (Es (I:=λy c st'=>(∃ g,st'=v8 st g)/\∃ o i' j' p q t,c=(none,i',j',o,p,q,t)/\GH r a b o i' j'/\0<i'/\i'<=a.size/\1<j'/\j'<=b.size/\x+1+i'+j'<a.size+b.size)
    (Q:=λc st'=>(∃ g,st'=v8 st g)/\((∃ m,c.1=Ab m/\Mo r (a.toList++b.toList) m)\/∃ o i' j' p q t,c=(none,i',j',o,p,q,t)/\GH r a b o i' j'/\0<i'/\i'<=a.size/\1<j'/\j'<=b.size/\x+1+i'+j'<a.size+b.size)) ?_ ?_ ⟨⟨g,rfl⟩,o,i',j',_,_,_,rfl,G,hi,hi2,hj,hj2,hq⟩) ?_)
   .rintro y c st' _ hy ⟨⟨g,rfl⟩,o,i,j,p,q,t,rfl,G,hi,hi2,hj,hj2,hq⟩
    dsimp only;generalize p-1=p1;apply c8 (x:=p1) (y:=p);intro mg;refine Bb (Ie ?_);have j0:0<j:=OS hj;have jb:j-1<b.size:=Bd (Ks j0 Jp) hj2;refine Bb (z9 jb ?_);refine Bb (XM C hk (Ks hi Jp) (by rw[Ig];exact hi2) (λi' hi'=>ua _ (zK (by rw[Ig];exact Bd hi' hi2))) (ub _ (zK jb)) (λi' j' h1 h2=>wM sa (Ho h1 0) (by rw[Ig];exact Bd h2 hi2)) λk k1 k2 k3=>?_)
    simp only[Ig] at k2 k3;dsimp only;have G2:=G.ea sb k1 hj2 λ_ m q1 q2 _=>Gn (k3 m q1 q2);have kc:i-k=0->k=i:=λh=>Qu k1 (Ri h);generalize i-k=ac at kc ⊢;generalize o++(a.extract k i).reverse=o1 at G2 ⊢;apply QZ (x:=k) (w:=o1) (y:=i) (v:=o) (P:=λna out=>GH r a b out na j/\0<na/\na<=a.size/\x+1+na+j<a.size+b.size/\r (a.getD (na-1) nv)<=r (b.getD (j-1) nv))
    case h1=>exact λ_ e=>Bm ⟨⟨_,rfl⟩,.inl ⟨_,rfl,G2.fin (.inl (by simpa using e))⟩⟩
    case hK =>
     rintro na out ⟨G2,hl,hl2,hq,hc⟩;have na1:na-1<a.size:=Bd (Ks hl Jp) hl2;refine Bb (z9 jb ?_);have G3:=G2.pb sa j0 hj2 hl2 λ_=>hc;refine qM (λe=>Bm ⟨⟨_,rfl⟩,.inl ⟨_,rfl,G3.first (by simpa using e) hb h0⟩⟩) λe5=>?_
     have e5:¬ j-1=1:=by simpa using e5
     have j1:0<j-1:=OT hj;refine Bb (z9 na1 ?_);refine Bb (XN C hk (Ks j1 Jp) (by rw[Ig];exact Dz jb) (λi hi=>ub _ (zK (by rw[Ig];exact Jv hi jb))) (ua _ (zK na1)) (λi j h1 h2=>wM sb (Ho h1 0) (by rw[Ig];exact Jv h2 jb)) λm m1 m2 m3=>?_)
     simp only[Ig] at m2 m3;dsimp only;have G4:=G3.eb sa m1 hl2 λ_ m q1 q2 _=>m3 m q1 q2;have mc:j-1-m=0->m=j-1:=λh=>Qu m1 (Ri h);generalize j-1-m=bc at mc ⊢;generalize out.push (b.getD (j-1) nv)++(b.extract m (j-1)).reverse=o2 at G4 ⊢;apply Z0 (x:=m) (w:=o2) (y:=j-1) (v:=out.push (b.getD (j-1) nv)) (P:=λnb out=>GH r a b out na nb/\1<nb/\nb<=j-1/\r (b.getD (nb-1) nv)<=r (a.getD (na-1) nv))
     case h1=>exact λ_ e=>Bm ⟨⟨_,rfl⟩,.inl ⟨_,rfl,G4.first (by simpa using e) hb h0⟩⟩
     case h1'=>exact λ_ _ e=>Bm ⟨⟨_,rfl⟩,.inl ⟨_,rfl,G4.fin (.inr (by simpa using e))⟩⟩
     case hK =>
      rintro nb out ⟨G4,h4,h5,hc4⟩;have h6:nb<=b.size:=Dd h5 (Dz jb);have hq2:x+1+(na-1)+nb<a.size+b.size:=Li (Xe (Ho (Nat.sub_le _ _) _) (Dd h5 (Nat.sub_le _ _))) hq;refine Bb (z9 na1 ?_);have G5:=G4.pa sb hl hl2 h6 λ_=>hc4;refine qM (λe=>Bm ⟨⟨_,rfl⟩,.inl ⟨_,rfl,G5.fin (.inl (by simpa using e))⟩⟩) λe7=>?_
      have e7:0<na-1:=Ha (by simpa using e7)
      exact qM (λ_=>Bm ⟨⟨_,rfl⟩,.inr ⟨_,_,_,_,_,_,rfl,G5,e7,Dz na1,h4,h6,hq2⟩⟩) λ_=>Bm ⟨⟨_,rfl⟩,_,_,_,_,_,_,rfl,G5,e7,Dz na1,h4,h6,hq2⟩
     case h2 =>
      intro _ e6 e7;have e6:¬ m=1:=by simpa using e6
      have e7:¬ m=0:=by simpa using e7
      exact⟨G4,Gz (Ha e7) (Eu e6),m1,Gn (m2 (m-1) (Ks (Ha e7) Jp))⟩
     case h3 =>
      intro e;cases mc (IZ e);exact⟨G3,Gz j1 (Eu e5),Ax _,Gn (m2 (j-1-1) (Ks j1 Jp))⟩
    case h2 =>
     intro _ e;have e3:0<k:=Ha (by simpa using e)
     exact⟨G2,e3,Dd k1 hi2,Li (Sg (Ho k1 _) _) hq,k2 (k-1) (Ks e3 Jp)⟩
    case h3 =>
     intro e;have e:=kc (IZ e);exact⟨G,hi,hi2,hq,k2 (i-1) (by rw[e];exact Ks hi Jp)⟩
   .rintro c st' ⟨z,o,i',j',p,q,t,rfl,G,hi,hi2,hj,hj2,hq⟩
    exact⟨z,.inr ⟨_,_,_,_,_,_,rfl,G,hi,hi2,hj,hj2,by lia⟩⟩
   .rintro c st' ⟨⟨g,rfl⟩,⟨m,hc,hm⟩|⟨o,i',j',p,q,t,rfl,G,hi,hi2,hj,hj2,hq⟩⟩
    .obtain⟨c0,c1⟩:=c
     cases hc;exact Bm ⟨⟨g,rfl⟩,m,rfl,hm⟩
    dsimp only;refine Bb (Ie ?_);exact Bm ⟨⟨_,rfl⟩,_,_,_,_,rfl,G,hi,hi2,hj,hj2,by lia⟩
 .rintro c st' ⟨z,o,i',j',p,rfl,G,hi,hi2,hj,hj2,hq⟩
  exfalso
  lia
 .rintro c st' ⟨⟨g,rfl⟩,m,hc,hm⟩
  obtain⟨c0,c1⟩:=c;cases hc;exact Bm (h m g hm)
end
theorem i0:∀ (l:Aa Bq) (arr:Bj Bq) (o d:Af),o+d+l.length<=arr.size->∀ k,((l.zipIdx d).foldl (λa p=>a.setIfInBounds (o+p.2) p.1) arr)[k]? = if o+d<=k/\k<o+d+l.length then l[k-(o+d)]? else arr[k]?
 |[],arr,o,d,h,k=>by
  rw[Aw (by simp only[Ew];lia)];rfl
 |x::l,arr,o,d,h,k=>by
  rw[By] at h;rw[Pl,Nq,i0 l _ o (d+1) (by rw[Array.size_setIfInBounds];lia) k,By]
  by_cases h1:k=o+d
  .subst h1
   rw[Aw (by lia),Bc (by lia),Uk,Array.getElem?_setIfInBounds_self_of_lt (by lia)]
   rfl
  .by_cases h2:o+(d+1)<=k/\k<o+(d+1)+l.length
   .rw[Bc h2,Bc (by lia),show k-(o+d)=(k-(o+(d+1)))+1 by lia,Qe]
   .rw[Aw h2,Aw (by lia),Array.getElem?_setIfInBounds_ne (by lia)]
noncomputable def wb (arr:Bj Bq)(o:Af)(m:Bj Bq):Bj Bq:=m.toList.zipIdx.foldl (λa p=>a.setIfInBounds (o+p.2) p.1) arr
theorem P7 {o:Af}(h:o+m.size<=arr.size)(k:Af):(wb arr o m).getD k nv=if o<=k/\k<o+m.size then m.getD (k-o) nv else arr.getD k nv:=by
 have e:=i0 m.toList arr o 0 (by simpa using h) k
 simp only[Ul,Ce,Em] at e;rw[Ek,Ek,Ek];unfold wb;rw[e]
 split <;> rfl
theorem P8 {o:Af}(h:o+m.size<=arr.size):(wb arr o m).toList=arr.toList.take o++(m.toList++arr.toList.drop (o+m.size)):=by
 apply List.ext_getElem?;intro k;have e:=i0 m.toList arr o 0 (by simpa using h) k
 simp only[Ul,Ce,Em] at e;unfold wb;rw[Em,e];have lt:(arr.toList.take o).length=o:=by rw[Gq,Ce];lia
 by_cases h1:k<o
 .rw[Aw (by lia),Bo (by lia),OV h1,Em]
 .rw[Dw (by lia),lt]
  by_cases h2:k<o+m.size
  .rw[Bc (by lia),Bo (by rw[Ce];lia),Em]
  .rw[Aw (by lia),Dw (by rw[Ce];lia),List.getElem?_drop,Ce,Em]
   congr 1
   lia
theorem P9 {o:Af}(h:o+n<=arr.size)(p:m.toList.Perm (arr.extract o (o+n)).toList):(wb arr o m).toList.Perm arr.toList:=by
 have hm:m.size=n:=by
  have:=p.length_eq;rw[Ce,Ce,Hu] at this
  lia
 rw[P8 (by lia),hm]
 have e:arr.toList=arr.toList.take o++((arr.extract o (o+n)).toList++arr.toList.drop (o+n)):=by rw[bW,Mx]
 conv=>rhs;rw[e]
 exact Jm _ (IX _ p)
def Seg (r:Bq->Ag)(a:Bj Bq)(lo n:Af):Prop:=∀ i j,lo<=i->i<=j->j<lo+n->r (a.getD i nv)<=r (a.getD j nv)
theorem eZ {r:Bq->Ag}{a:Bj Bq}{lo:Af}(h:Seg r a lo n){i k:Af}(h1:lo<=i)(h2:i+k<=lo+n)(h3:i+k<=a.size):(a.extract i (i+k)).toList.Pairwise (Le r):=by
 rw[Ip];intro x y hx hy l;have hx':x<k:=by rw[Ce,Hu] at hx;lia
 have hy':y<k:=by rw[Ce,Hu] at hy;lia
 have e:=h (i+x) (i+y) (by lia) (by lia) (by lia)
 have q1:i+x<a.size:=by lia
 have q2:i+y<a.size:=by lia
 simpa [Ic,q1,q2,Le] using e
theorem lY {a:Bj Bq}{i k m:Af}(h:m<k)(h3:i+k<=a.size):(a.extract i (i+k)).getD m nv=a.getD (i+m) nv:=by
 have q1:i+m<a.size:=by lia
 have q2:m<(a.extract i (i+k)).size:=by rw[Hu];lia
 have q3:m<min (i+k) a.size-i:=by lia
 simp[Ic,q1,q3]
theorem XH {a:Bj Bq}{i j k:Af}(h1:i<=j)(h2:j<=k):(a.extract i j).toList++(a.extract j k).toList=(a.extract i k).toList:=by
 rw[<- Dh,Array.extract_append_extract]
 congr 2 <;> lia
section
variable {prog:Bi}{w:Ca}{A:Br}{E:Ac->Ah->Prop}{s:Ah}{κ : La}{U:Bq->Prop}{r:Bq->Ag}
theorem PB {M:Lz}{σ:Type}{Q:PUnit->σ->Prop}{st st':σ}(h:Q ⟨⟩ st'):wpS M A E s (set st':Mw σ Ke PUnit) Q st:=by
 unfold wpS;rw[StateT.run_set];exact AT ⟨rfl,h⟩
theorem rE (C:Cm (Ba prog w) A s κ U r){i sa na pw nb pz:Af}{Q:Ap->Fa->Prop}{arr:Bj Bq}{pd:Bj (Af × Af × Af)}{g:Af}(ua:∀ x∈arr.toList,U x)(e1:pd[i]? = Ab (sa,na,pw))(e2:pd[i+1]? = Ab (sa+na,nb,pz))(p1:0<na)(p2:0<nb)(hz:sa+na+nb<=arr.size)
  (s1:Seg r arr sa na) (s2:Seg r arr (sa+na) nb)
  (h:∀ arr' g,arr'.toList.Perm arr.toList->(∀ k,k<sa\/sa+na+nb<=k->arr'.getD k nv=arr.getD k nv)->Seg r arr' sa (na+nb)->Q true (Cy κ arr' ((pd.setIfInBounds i (sa,na+nb,pw)).eraseIdxIfInBounds (i+1)) g none)) :
  wpS (Ba prog w) A E s (mergeAt' i) Q (Cy κ arr pd g none):=by
 refine Bb (Lu ?_);dsimp only;rw[e1,e2];dsimp only;refine Bb (PB ?_);refine Bb (z9 (i:=sa+na) (by omega) ?_)
 refine Bb (XM C rfl (by omega) (by omega) (λi hi=>ua _ (zK (by omega))) (ua _ (zK (by omega))) (λi j a b=>s1 _ _ (by omega) (by omega) (by omega)) λk k1 k2 k3=>?_)
 dsimp only;refine qM (λe=>Bm (h arr g (Oo _) (λ_ _=>rfl) λi j a b c=>?_)) λe=>?_
 .have e:na-k=0:=by simpa using e
  by_cases q1:j<sa+na
  .exact s1 i j a b q1
  .by_cases q2:sa+na<=i
   .exact s2 i j q2 b (by omega)
   .have:=k2 (i-sa) (by omega)
    rw[show sa+(i-sa)=i by omega] at this
    exact Ex this (s2 _ _ (Ax _) (by omega) (by omega))
 have e:¬ na-k=0:=by simpa using e
 refine Bb (z9 (i:=sa+k+(na-k)-1) (by omega) ?_)
 refine Bb (XN C rfl (by omega) (by omega) (λi hi=>ua _ (zK (by omega))) (ua _ (zK (by omega))) (λi j a b=>s2 _ _ (by omega) (by omega) (by omega)) λm m1 m2 m3=>?_)
 dsimp only;rw[show sa+k+(na-k)-1=sa+na-1 by omega] at m2 m3
 have hk3:=k3 k (Ax _) (by omega)
 refine qM (λe=>?_) λe'=>?_
 .exfalso
  have e:m=0:=by simpa using e
  subst e;have q1:=m3 0 (Ax _) p2;have q2:=s1 (sa+k) (sa+na-1) (by omega) (by omega) (by omega)
  rw[Ul] at q1;omega
 have e':¬ m=0:=by simpa using e'
 have ex:arr.extract (sa+k) (sa+na)=arr.extract (sa+k) (sa+k+(na-k)):=by rw[show sa+k+(na-k)=sa+na by omega]
 have zx:(arr.extract (sa+k) (sa+na)).size=na-k:=by rw[Hu];omega
 have zy:(arr.extract (sa+na) (sa+na+m)).size=m:=by rw[Hu];omega
 have gx:∀ i,i<na-k->(arr.extract (sa+k) (sa+na)).getD i nv=arr.getD (sa+k+i) nv:=λi hi=>by rw[ex];exact lY hi (by omega)
 have gy:∀ i,i<m->(arr.extract (sa+na) (sa+na+m)).getD i nv=arr.getD (sa+na+i) nv:=λi hi=>lY hi (by omega)
 have px:(arr.extract (sa+k) (sa+na)).toList.Pairwise (Le r):=by rw[ex];exact eZ s1 (by omega) (by omega) (by omega)
 have py:(arr.extract (sa+na) (sa+na+m)).toList.Pairwise (Le r):=eZ s2 (by omega) (by omega) (by omega)
 have mx:∀ x∈(arr.extract (sa+k) (sa+na)).toList,∃ j,sa+k<=j/\j<sa+na/\x=arr.getD j nv:=λx hx=>by
  obtain⟨j,q1,q2,q3,q4⟩:=kW (by omega) hx
  exact⟨j,q1,q2,q4⟩
 have my:∀ x∈(arr.extract (sa+na) (sa+na+m)).toList,∃ j,sa+na<=j/\j<sa+na+m/\x=arr.getD j nv:=λx hx=>by
  obtain⟨j,q1,q2,q3,q4⟩:=kW (by omega) hx
  exact⟨j,q1,q2,q4⟩
 have lox:∀ x∈(arr.extract (sa+k) (sa+na)).toList,r (arr.getD (sa+na) nv)<=r x/\r x<=r (arr.getD (sa+na-1) nv):=λx hx=>by
  obtain⟨j,q1,q2,rfl⟩:=mx x hx;have:=s1 (sa+k) j (by omega) q1 q2
  exact⟨by omega,s1 j _ (by omega) (by omega) (by omega)⟩
 have loy:∀ x∈(arr.extract (sa+na) (sa+na+m)).toList,r (arr.getD (sa+na) nv)<=r x/\r x<=r (arr.getD (sa+na-1) nv):=λx hx=>by
  obtain⟨j,q1,q2,rfl⟩:=my x hx;have:=m2 (j-(sa+na)) (by omega)
  rw[show sa+na+(j-(sa+na))=j by omega] at this
  exact⟨s2 _ _ (Ax _) q1 (by omega),by omega⟩
 have fin:∀ mg g',Mo r ((arr.extract (sa+k) (sa+na)).toList++(arr.extract (sa+na) (sa+na+m)).toList) mg->Q true (Cy κ (wb arr (sa+k) mg) ((pd.setIfInBounds i (sa,na+nb,pw)).eraseIdxIfInBounds (i+1)) g' none):=by
  intro mg g' M;have ej:(arr.extract (sa+k) (sa+na)).toList++(arr.extract (sa+na) (sa+na+m)).toList=(arr.extract (sa+k) (sa+k+(na-k+m))).toList:=by
   rw[XH (by omega) (by omega),show sa+k+(na-k+m)=sa+na+m by omega]
  have hm:mg.size=na-k+m:=by
   have:=M.pm.length_eq;rw[Dj,Ce,Ce,Ce,zx,zy] at this;exact this
  have gd:=λj=>P7 (arr:=arr) (m:=mg) (o:=sa+k) (by omega) j
  refine h _ g' (P9 (n:=na-k+m) (by omega) (ej▸M.pm)) (λj hj=>?_) λi j a b c=>?_
  .rw[gd,Aw (by omega)]
  .have bd:∀ j,sa+k<=j->j<sa+na+m->r (arr.getD (sa+na) nv)<=r (mg.getD (j-(sa+k)) nv)/\r (mg.getD (j-(sa+k)) nv)<=r (arr.getD (sa+na-1) nv):=λj h1 h2=>by
    have:=M.pm.mem_iff.mp (zK (a:=mg) (i:=j-(sa+k)) (by omega))
    rcases Cs.mp this with q|q
    .exact lox _ q
    .exact loy _ q
   rw[gd,gd,hm];by_cases i1:i<sa+k
   .rw[Aw (by omega)]
    have u:=k2 (i-sa) (by omega)
    rw[show sa+(i-sa)=i by omega] at u
    by_cases j1:j<sa+k
    .rw[Aw (by omega)];exact s1 i j a b (by omega)
    .by_cases j2:j<sa+na+m
     .rw[Bc (by omega)];exact Ex u (bd j (by omega) j2).1
     .rw[Aw (by omega)];exact Ex u (s2 _ _ (Ax _) (by omega) (by omega))
   .by_cases i2:i<sa+na+m
    .rw[Bc (by omega)]
     by_cases j2:j<sa+na+m
     .rw[Bc (by omega)];exact wM M.up (by omega) (by omega)
     .rw[Aw (by omega)]
      have v:=m3 (j-(sa+na)) (by omega) (by omega)
      rw[show sa+na+(j-(sa+na))=j by omega] at v
      exact Ex (bd i (by omega) i2).2 v
    .rw[Aw (by omega),Aw (by omega)]
     exact s2 i j (by omega) b (by omega)
 have ux:∀ x∈(arr.extract (sa+k) (sa+na)).toList,U x:=λx hx=>by obtain⟨j,q1,q2,rfl⟩:=mx x hx;exact ua _ (zK (by omega))
 have uy:∀ x∈(arr.extract (sa+na) (sa+na+m)).toList,U x:=λx hx=>by obtain⟨j,q1,q2,rfl⟩:=my x hx;exact ua _ (zK (by omega))
 have y0:(arr.extract (sa+na) (sa+na+m)).getD 0 nv=arr.getD (sa+na) nv:=gy 0 (by omega)
 have xl:(arr.extract (sa+k) (sa+na)).getD ((arr.extract (sa+k) (sa+na)).size-1) nv=arr.getD (sa+na-1) nv:=by rw[zx,gx _ (by omega)];congr 1;omega
 refine qM (λ_=>?_) λ_=>?_
 .refine Bb (rG C rfl ux uy px py (λmg g' M=>?_) (by rw[zx];omega) (by rw[zy];omega) ?_ λx hx=>?_)
  .refine Bb (Ie (Bb (Lu (Bm ?_))))
   exact fin mg g' M
  .rw[y0];exact(lox _ (zK (by rw[zx];omega))).1
  .rw[xl];exact(loy x hx).2
 .refine Bb (rF C rfl ux uy px py (λmg g' M=>?_) (by rw[zx];omega) (by rw[zy];omega) (λx hx=>?_) ?_)
  .refine Bb (Ie (Bb (Lu (Bm ?_))))
   exact fin mg g' M
  .rw[y0];exact(lox x hx).1
  .rw[xl];exact(loy _ (zK (by rw[zy];omega))).2
end
noncomputable def mir (a:Bj Bq)(i j:Af):Bj Bq:=mirror a i j ((j-i)/2)
theorem wH {a:Bj Bq}{i j:Af}(hj:j<=a.size)(k:Af):(mir a i j).getD k nv=if i<=k/\k<j then a.getD (i+j-1-k) nv else a.getD k nv:=by
 rw[Ek,Ek,Ek];unfold mir;rw[getElem?_mirror_all hj]
 split <;> rfl
structure Cr (a b:Bj Bq)(lo n:Af):Prop where
 pm:b.toList.Perm a.toList
 out:∀ k,k<lo\/lo+n<=k->b.getD k nv=a.getD k nv
theorem Cr.z {a b:Bj Bq}{lo:Af}(h:Cr a b lo n):b.size=a.size:=by
 have:=h.pm.length_eq;simpa using this
theorem Cr.rfl' {a:Bj Bq}{lo:Af}:Cr a a lo n:=⟨Oo _,λ_ _=>rfl⟩
theorem Cr.mir {a b:Bj Bq}{lo i j:Af}(h:Cr a b lo n)(h1:lo<=i)(h2:j<=lo+n)(h3:j<=a.size):Cr a (mir b i j) lo n:=
 ⟨(OA.mp (mirror_perm _ _ _ _)).trans h.pm,λk hk=>by rw[wH (by rw[h.z];exact h3),Aw (by lia)];exact h.out k hk⟩
def Dsg (r:Bq->Ag)(a:Bj Bq)(lo n:Af):Prop:=∀ i j,lo<=i->i<=j->j<lo+n->r (a.getD j nv)<=r (a.getD i nv)
theorem YB {r:Bq->Ag}{a:Bj Bq}{lo:Af}(h:Seg r a lo n)(h1:1<=n)(l:r (a.getD (lo+n-1) nv)<=r (a.getD (lo+n) nv)):Seg r a lo (n+1):=λi j h2 h3 h4=>by
 by_cases q:j<lo+n
 .exact h i j h2 h3 q
 .have:j=lo+n:=by lia
  subst this;by_cases q2:i=lo+n
  .subst q2;exact Hx _
  .exact Ex (h i (lo+n-1) h2 (by lia) (by lia)) l
theorem uH {r:Bq->Ag}{a:Bj Bq}{lo:Af}(h:Dsg r a lo n)(h1:1<=n)(l:r (a.getD (lo+n) nv)<=r (a.getD (lo+n-1) nv)):Dsg r a lo (n+1):=λi j h2 h3 h4=>by
 by_cases q:j<lo+n
 .exact h i j h2 h3 q
 .have:j=lo+n:=by lia
  subst this;by_cases q2:i=lo+n
  .subst q2;exact Hx _
  .exact Ex l (h i (lo+n-1) h2 (by lia) (by lia))
theorem hJ {r:Bq->Ag}{a:Bj Bq}{lo:Af}:Seg r a lo 1:=λi j h2 h3 h4=>by
 have:i=j:=by lia
 subst this;exact Hx _
theorem UN {r:Bq->Ag}{a:Bj Bq}{lo:Af}:Dsg r a lo 1:=λi j h2 h3 h4=>by
 have:i=j:=by lia
 subst this;exact Hx _
def Z7 (r:Bq->Ag)(a:Bj Bq)(lo n q:Af):Prop:=q+1<=n/\∀ k,lo+n-(q+1)<=k->k<lo+n->r (a.getD k nv)=r (a.getD (lo+n-1) nv)
set_option tactic.hygienic true in
theorem kM {r:Bq->Ag}{a:Bj Bq}{lo q:Af}(hn:lo+n<=a.size)(h:Z7 r a lo n q)(k:Af):r ((mir a (lo+n-(q+1)) (lo+n)).getD k nv)=r (a.getD k nv):=by
 rw[wH hn];have:=h.1
 split
 .rename_i c
  rw[h.2 k (by lia) c.2,h.2 _ (by lia) (by lia)]
 .rfl
theorem UM {r:Bq->Ag}{a:Bj Bq}{lo:Af}(hn:lo+n<=a.size)(h:Dsg r a lo n):Seg r (mir a lo (lo+n)) lo n:=λi j h2 h3 h4=>by
 rw[wH hn,wH hn,Bc (by lia),Bc (by lia)]
 exact h _ _ (by lia) (by lia) (by lia)
section
variable {prog:Bi}{w:Ca}{A:Br}{E:Ac->Ah->Prop}{s:Ah}{κ : La}{U:Bq->Prop}{r:Bq->Ag}
theorem kB (C:Cm (Ba prog w) A s κ U r){i j:Af}{arr:Bj Bq}{pd:Bj (Af × Af × Af)}{g:Af}{Q:Al Ap->Fa->Prop}(ua:∀ x∈arr.toList,U x)(hi:i<arr.size)(hj:j<arr.size)
  (q:Q (Ab (decide (r (arr.getD i nv)<r (arr.getD j nv)))) (Cy κ arr pd g none)):wpS (Ba prog w) A E s (ltAt' i j) Q (Cy κ arr pd g none):=by
 refine Bb (Lu ?_);exact Bb (z9 hi (Bb (z9 hj (C.lt (ua _ (zK hi)) (ua _ (zK hj)) rfl q))))
theorem bI {i j:Af}{pd:Bj (Af × Af × Af)}{g:Af}{Q:PUnit->Fa->Prop}(q:Q ⟨⟩ (Cy κ (mir arr i j) pd g none)):wpS (Ba prog w) A E s (reverseSlice' i j) Q (Cy κ arr pd g none):=Ie q
theorem l6 (C:Cm (Ba prog w) A s κ U r){lo N:Af}{arr:Bj Bq}{pd:Bj (Af × Af × Af)}{g:Af}{Q:Al Af->Fa->Prop}(ua:∀ x∈arr.toList,U x)(h1:1<=N)(hz:lo+N<=arr.size)
  (h:∀ n b,1<=n->n<=N->Cr arr b lo N->Seg r b lo n->Q (Ab n) (Cy κ b pd g none)):wpS (Ba prog w) A E s (countRun' lo N) Q (Cy κ arr pd g none):=by
 have uc:∀ {b:Bj Bq},Cr arr b lo N->∀ x∈b.toList,U x:=λh x hx=>ua x (h.pm.mem_iff.mp hx);have asc:∀ {b:Bj Bq} {n:Af} {f:Af->Al (Al Af) × Af->Mw Fa Ke (ForInStep (Al (Al Af) × Af))},Cr arr b lo N->1<=n->n<=N->Seg r b lo n ->
   (∀ x m,f x (none,m)=(ltAt' (lo+m) (lo+m-1) >>= λo=>match o with
    |some z=>if z then pure (.done (none,m)) else pure (.yield (none,m+1))
    |_=>pure (.done (Ab none,m))))->wpS (Ba prog w) A E s (forIn [n:N] (none,n) f) (λc st'=>st'=Cy κ b pd g none/\∃ m,c=(none,m)/\n<=m/\m<=N/\Seg r b lo m/\(m=N\/r (b.getD (lo+m) nv)<r (b.getD (lo+m-1) nv))) (Cy κ b pd g none):=by
  intro b n f cr hn hN sg hf;have zb:=cr.z;refine Es (I:=λx c st'=>st'=Cy κ b pd g none/\c=(none,x)/\n<=x/\Seg r b lo x) ?_ ?_ ⟨rfl,rfl,Ax _,sg⟩
  .rintro x c st' hx1 hx ⟨rfl,rfl,hx3,sg⟩
   rw[hf];refine Bb (kB C (uc cr) (by lia) (by lia) ?_)
   by_cases l:r (b.getD (lo+x) nv)<r (b.getD (lo+x-1) nv)
   .simp only[l,IH,Dm]
    exact Bm ⟨rfl,x,rfl,hx1,by lia,sg,.inr l⟩
   .simp only[l,IK,Cz,Fv]
    exact Bm ⟨rfl,rfl,by lia,YB sg (by lia) (by lia)⟩
  .rintro c st' ⟨rfl,rfl,hx3,sg⟩
   rw[show max n N=N by lia] at sg ⊢
   exact⟨rfl,N,rfl,hN,Ax _,sg,.inl rfl⟩
 refine Bb (Gm (asc Cr.rfl' (Ax 1) h1 hJ λ_ _=>rfl) ?_);rintro c st' ⟨rfl,n,rfl,n1,n2,sg,nd⟩;dsimp only;refine qM (λe=>Bm (h n arr n1 n2 Cr.rfl' sg)) λe=>?_;have e:¬ n=N:=by simpa using e
 have nd:r (arr.getD (lo+n) nv)<r (arr.getD (lo+n-1) nv):=by lia
 apply qM
 case' h1 =>
  intro np;refine Bb (kB C ua (by lia) (by lia) ?_)
  dsimp only;refine qM (λe=>Bm (h n arr n1 n2 Cr.rfl' sg)) λl=>?_;have l:¬ r (arr.getD lo nv)<r (arr.getD (lo+n-1) nv):=by simpa using l
  refine Bb (bI ?_);have cr:Cr arr (mir arr lo (lo+n)) lo N:=Cr.rfl'.mir (Ax _) (by lia) (by lia)
  have ds:Dsg r (mir arr lo (lo+n)) lo (n+1):=by
   refine uH (λi j a b c=>?_) n1 ?_
   .rw[wH (by lia),wH (by lia),Bc (by lia),Bc (by lia)]
    exact sg _ _ (by lia) (by lia) (by lia)
   .rw[wH (by lia),wH (by lia),Aw (by lia),Bc (by lia),show lo+(lo+n)-1-(lo+n-1)=lo by lia]
    lia
 case' h2 =>
  intro np;have cr:Cr arr arr lo N:=Cr.rfl';have ds:Dsg r arr lo (n+1):=by
   have:n=1:=by lia
   subst this;exact uH UN (Ax _) (Gn nd)
 all_goals
  refine Bb (OD (Gj ⟨rfl,?_⟩));refine Bb (Gm (Es (I:=λx c st'=>∃ b q,st'=Cy κ b pd g none/\c=(none,x,q)/\Cr arr b lo N/\Dsg r b lo x/\Z7 r b lo x q)
   (Q:=λc st'=>∃ b m q,st'=Cy κ b pd g none/\c=(none,m,q)/\1<=m/\m<=N/\Cr arr b lo N/\Dsg r b lo m/\Z7 r b lo m q) ?_ ?_ ⟨_,0,rfl,rfl,cr,ds,by lia,λk a b=>by rw[show k=lo+(n+1)-1 by lia]⟩) ?_)
  .rintro x c st' hx1 hx ⟨b,q,rfl,rfl,cr,ds,eq⟩
   dsimp only;have zb:=cr.z;refine Bb (kB C (uc cr) (by lia) (by lia) ?_)
   dsimp only;refine qM (λl=>?_) λl=>?_
   .have l:r (b.getD (lo+x) nv)<r (b.getD (lo+x-1) nv):=by simpa using l
    refine qM (λqp=>Bb (bI (Bm ⟨_,0,rfl,rfl,cr.mir (by have:=eq.1;lia) (by lia) (by lia),λi j a c d=>?_,by lia,λk a b=>by rw[show k=lo+(x+1)-1 by lia]⟩))) λqp=>Bm ⟨_,0,rfl,rfl,cr,uH ds (by lia) (Gn l),by lia,λk a b=>by rw[show k=lo+(x+1)-1 by lia]⟩
    rw[kM (by lia) eq,kM (by lia) eq]
    exact uH ds (by lia) (Gn l) i j a c d
   .have l:¬ r (b.getD (lo+x) nv)<r (b.getD (lo+x-1) nv):=by simpa using l
    refine Bb (kB C (uc cr) (by lia) (by lia) ?_)
    dsimp only;refine qM (λl2=>Bm ⟨b,x,q,rfl,rfl,by lia,by lia,cr,ds,eq⟩) λl2=>?_
    have l2:¬ r (b.getD (lo+x-1) nv)<r (b.getD (lo+x) nv):=by simpa using l2
    have ee:r (b.getD (lo+x) nv)=r (b.getD (lo+x-1) nv):=by lia
    refine Bm ⟨b,q+1,rfl,rfl,cr,uH ds (by lia) (by lia),by have:=eq.1;lia,λk a c=>?_⟩
    rw[show lo+(x+1)-1=lo+x by lia]
    by_cases kx:k=lo+x
    .rw[kx]
    .rw[ee];exact eq.2 k (by lia) (by lia)
  .rintro c st' ⟨b,q,rfl,rfl,cr,ds,eq⟩
   rw[show max (n+1) N=N by lia] at ds eq ⊢
   exact⟨b,N,q,rfl,rfl,h1,Ax _,cr,ds,eq⟩
  .rintro c st' ⟨b,m,q,rfl,rfl,m1,m2,cr,ds,eq⟩
   dsimp only;have zb:=cr.z;apply qM
   case' h1 =>
    intro qp;refine Bb (bI ?_);have cr2:=cr.mir (i:=lo+m-(q+1)) (j:=lo+m) (by have:=eq.1;lia) (by lia) (by lia)
    have ds2:Dsg r (mir b (lo+m-(q+1)) (lo+m)) lo m:=λi j a c d=>by
     rw[kM (by lia) eq,kM (by lia) eq]
     exact ds i j a c d
   case' h2 =>
    intro qp;have cr2:=cr;have ds2:=ds
   all_goals
    have z2:=cr2.z;refine Bb (bI ?_);refine Bb (Gm (asc (cr2.mir (Ax _) (by lia) (by lia)) m1 m2 (UM (by lia) ds2) λ_ _=>rfl) ?_)
    rintro c st' ⟨rfl,n',rfl,q1,q2,q3,_⟩;exact Bm (h n' _ (by lia) q2 (cr2.mir (Ax _) (by lia) (by lia)) q3)
end
theorem lN {a:Bj Bq}{src d:Af}(hs:src<a.size)(hd:d<=src)(k:Af):(bubble a src d).getD k nv=if k=src-d then a.getD src nv else if src-d<k/\k<=src then a.getD (k-1) nv else a.getD k nv:=by
 simp only[Ek];rw[getElem?_bubble hs d hd]
 repeat' split
 all_goals rfl
section
variable {prog:Bi}{w:Ca}{A:Br}{E:Ac->Ah->Prop}{s:Ah}{κ : La}{U:Bq->Prop}{r:Bq->Ag}
theorem sX (C:Cm (Ba prog w) A s κ U r){lo n ok:Af}{arr:Bj Bq}{pd:Bj (Af × Af × Af)}{g:Af}{Q:Ap->Fa->Prop}(ua:∀ x∈arr.toList,U x)(h1:ok<=n)(hz:lo+n<=arr.size)(sg:Seg r arr lo ok)
  (h:∀ b,Cr arr b lo n->Seg r b lo n->Q true (Cy κ b pd g none)):wpS (Ba prog w) A E s (binarySort' lo n ok) Q (Cy κ arr pd g none):=by
 have uc:∀ {b:Bj Bq},Cr arr b lo n->∀ x∈b.toList,U x:=λh x hx=>ua x (h.pm.mem_iff.mp hx);have sg1:Seg r arr lo (max ok 1):=by
  by_cases q:ok=0
  .rw[q];exact hJ
  .rw[show max ok 1=ok by lia];exact sg
 refine Bb (Gm (Es (I:=λk c st'=>c=(none,())/\∃ b,st'=Cy κ b pd g none/\Cr arr b lo n/\Seg r b lo (min k (max ok (max n 1))))
  (Q:=λc st'=>c=(none,())/\∃ b,st'=Cy κ b pd g none/\Cr arr b lo n/\Seg r b lo n) ?_ ?_ ⟨rfl,arr,rfl,Cr.rfl',?_⟩) ?_)
 .rintro k c st' hk hkn ⟨rfl,b,rfl,cr,sg⟩
  have zb:=cr.z;rw[show min k (max ok (max n 1))=k by lia] at sg
  dsimp only;refine Bb (Gm (Es (I:=λx c st'=>st'=Cy κ b pd g none/\∃ l u,c=(none,l,u)/\l<=u/\u<=k/\u-l<=k-x/\(∀ i,i<l->r (b.getD (lo+i) nv)<=r (b.getD (lo+k) nv))/\∀ i,u<=i->i<k->r (b.getD (lo+k) nv)<r (b.getD (lo+i) nv))
   (Q:=λc st'=>st'=Cy κ b pd g none/\∃ l u,c=(none,l,u)/\l<=k/\(∀ i,i<l->r (b.getD (lo+i) nv)<=r (b.getD (lo+k) nv))/\∀ i,l<=i->i<k->r (b.getD (lo+k) nv)<r (b.getD (lo+i) nv)) ?_ ?_
   ⟨rfl,0,k,rfl,by lia,by lia,by lia,λi hi=>by lia,λi a b=>by lia⟩) ?_)
  .rintro x c st' _ hx ⟨rfl,l,u,rfl,q1,q2,q3,q4,q5⟩
   dsimp only;refine qM (λe=>Bm ⟨rfl,l,u,rfl,by lia,q4,λi a b=>q5 i (by lia) b⟩) λe=>?_
   refine Bb (kB C (uc cr) (by lia) (by lia) ?_)
   dsimp only;refine qM (λz=>?_) λz=>?_
   .have z:r (b.getD (lo+k) nv)<r (b.getD (lo+(l+u)/2) nv):=by simpa using z
    exact Bm ⟨rfl,_,_,rfl,by lia,by lia,by lia,q4,λi a c=>Int.lt_of_lt_of_le z (sg _ _ (by lia) (by lia) (by lia))⟩
   .have z:¬ r (b.getD (lo+k) nv)<r (b.getD (lo+(l+u)/2) nv):=by simpa using z
    exact Bm ⟨rfl,_,_,rfl,by lia,by lia,by lia,λi a=>Ex (sg _ _ (by lia) (by lia) (by lia)) (WP.mp z),q5⟩
  .rintro c st' ⟨rfl,l,u,rfl,q1,q2,q3,q4,q5⟩
   exact⟨rfl,l,u,rfl,by lia,q4,λi a b=>q5 i (by lia) b⟩
  .rintro c st' ⟨rfl,l,u,rfl,q1,q4,q5⟩
   dsimp only;refine Bb (Ie (Bm ⟨rfl,_,rfl,⟨(OA.mp (bubble_perm _ _ _)).trans cr.pm,λj hj=>?_⟩,?_⟩))
   .show (bubble b (lo+k) (lo+k-(lo+l))).getD j nv=_
    rw[lN (by lia) (by lia),Aw (by lia),Aw (by lia)]
    exact cr.out j hj
   .rw[show min (k+1) (max ok (max n 1))=k+1 by lia]
    have e:∀ j,(bubble b (lo+k) (lo+k-(lo+l))).getD j nv=if j=lo+l then b.getD (lo+k) nv else if lo+l<j/\j<=lo+k then b.getD (j-1) nv else b.getD j nv:=λj=>by
     rw[lN (by lia) (by lia),show lo+k-(lo+k-(lo+l))=lo+l by lia]
    intro i j a c d;show r ((bubble b (lo+k) (lo+k-(lo+l))).getD i nv)<=r ((bubble b (lo+k) (lo+k-(lo+l))).getD j nv);rw[e,e];by_cases i1:i<lo+l
    .rw[Aw (by lia),Aw (by lia)]
     have u1:=q4 (i-lo) (by lia)
     rw[show lo+(i-lo)=i by lia] at u1
     by_cases j1:j<lo+l
     .rw[Aw (by lia),Aw (by lia)];exact sg i j a c (by lia)
     .by_cases j2:j=lo+l
      .rw[Bc j2];exact u1
      .rw[Aw j2,Bc (by lia)];exact sg _ _ a (by lia) (by lia)
    .by_cases i2:i=lo+l
     .rw[Bc i2]
      by_cases j2:j=lo+l
      .rw[Bc j2];exact Hx _
      .rw[Aw j2,Bc (by lia)]
       have:=q5 (j-1-lo) (by lia) (by lia)
       rw[show lo+(j-1-lo)=j-1 by lia] at this
       exact Gn this
     .rw[Aw i2,Bc (by lia),Aw (by lia),Bc (by lia)]
      exact sg _ _ (by lia) (by lia) (by lia)
 .rintro c st' ⟨rfl,b,rfl,cr,sg⟩
  refine⟨rfl,b,rfl,cr,?_⟩;intro i j a c d;exact sg i j a c (by lia)
 .rw[show min (max ok 1) (max ok (max n 1))=max ok 1 by lia];exact sg1
 .rintro c st' ⟨rfl,b,rfl,cr,sg⟩
  exact Bm (h b cr sg)
end
def Rn (r:Bq->Ag)(a:Bj Bq):Aa (Af × Af × Af)->Af->Af->Prop
 |[],x,y=>x=y
 |(s,n,_)::t,x,y=>s=x/\0<n/\Seg r a s n/\Rn r a t (x+n) y
section
variable {r:Bq->Ag}{a b:Bj Bq}
theorem Rn.app:∀ {L1 L2:Aa (Af × Af × Af)} {x y:Af},Rn r a (L1++L2) x y↔∃ m,Rn r a L1 x m/\Rn r a L2 m y
 |[],L2,x,y=>⟨λh=>⟨x,rfl,h⟩,λ⟨m,h1,h2⟩=>by cases h1;exact h2⟩
 |(s,n,p)::t,L2,x,y=>by
  show s=x/\0<n/\Seg r a s n/\Rn r a (t++L2) (x+n) y↔∃ m,(s=x/\0<n/\Seg r a s n/\Rn r a t (x+n) m)/\Rn r a L2 m y;rw[Rn.app];exact⟨λ⟨h1,h2,h3,m,h4,h5⟩=>⟨m,⟨h1,h2,h3,h4⟩,h5⟩,λ⟨m,⟨h1,h2,h3,h4⟩,h5⟩=>⟨h1,h2,h3,m,h4,h5⟩⟩
theorem Rn.le:∀ {L:Aa (Af × Af × Af)} {x y:Af},Rn r a L x y->x+L.length<=y
 |[],x,y,h=>by cases h;simp
 |(s,n,p)::t,x,y,h=>by have:=Rn.le h.2.2.2;have:=h.2.1;simp only[By];lia
theorem Rn.congr:∀ {L:Aa (Af × Af × Af)} {x y:Af},Rn r a L x y->(∀ k,x<=k->k<y->b.getD k nv=a.getD k nv)->Rn r b L x y
 |[],x,y,h,_=>h
 |(s,n,p)::t,x,y,h,e=>by
  obtain⟨rfl,h2,h3,h4⟩:=h;have l:=Rn.le h4;refine⟨rfl,h2,λi j a c d=>?_,Rn.congr h4 λk h1 h2=>e k (by lia) h2⟩
  rw[e i (by lia) (by lia),e j (by lia) (by lia)]
  exact h3 i j a c d
theorem Rn.mod {f:Af × Af × Af->Af × Af × Af}(hf:∀ u v p,∃ p',f (u,v,p)=(u,v,p')):∀ {L:Aa (Af × Af × Af)} {i x y:Af},Rn r a L x y->Rn r a (L.modify i f) x y
 |[],i,x,y,h=>by simpa using h
 |(s,n,p)::t,0,x,y,h=>by
  obtain⟨p',e⟩:=hf s n p;rw[List.modify_zero_cons,e];exact h
 |(s,n,p)::t,i+1,x,y,h=>by
  rw[List.modify_succ_cons];exact⟨h.1,h.2.1,h.2.2.1,Rn.mod hf h.2.2.2⟩
end
theorem LI {α:Type}{l:Aa α}{i:Af}(h:i+1<l.length):∃ L1 x y L2,l=L1++x::y::L2/\L1.length=i:=by
 refine⟨l.take i,l[i],l[i+1],l.drop (i+2),?_,by rw[Gq];lia⟩
 rw[<- Fm h,<- Fm (by lia),Mx]
section
variable {prog:Bi}{w:Ca}{A:Br}{E:Ac->Ah->Prop}{s:Ah}{κ : La}{U:Bq->Prop}{r:Bq->Ag}
theorem fW (C:Cm (Ba prog w) A s κ U r){i e:Af}{Q:Ap->Fa->Prop}{arr:Bj Bq}{pd:Bj (Af × Af × Af)}{g:Af}(ua:∀ x∈arr.toList,U x)(hi:i+1<pd.size)(R:Rn r arr pd.toList 0 e)(he:e<=arr.size)
  (h:∀ b pd' g,b.toList.Perm arr.toList->(∀ k,e<=k->b.getD k nv=arr.getD k nv)->Rn r b pd'.toList 0 e->pd'.size+1=pd.size->Q true (Cy κ b pd' g none)):wpS (Ba prog w) A E s (mergeAt' i) Q (Cy κ arr pd g none):=by
 obtain⟨L1,⟨sa,na,pa⟩,⟨sb,nb,pb⟩,L2,el,hl⟩:=LI (l:=pd.toList) (i:=i) (by simpa using hi)
 rw[el] at R;obtain⟨m,R1,rfl,p1,s1,rfl,p2,s2,R2⟩:=Rn.app.mp R;have l2:=Rn.le R2;have e1:pd[i]? = Ab (sa,na,pa):=by
  rw[<- Em,el,<- hl,Dw (Ax _),Uk];rfl
 have e2:pd[i+1]? = Ab (sa+na,nb,pb):=by
  rw[<- Em,el,<- hl,Dw (by lia),IL];rfl
 refine rE C ua e1 e2 p1 p2 (by lia) s1 s2 λb g pm out sg=>?_
 have ep:((pd.setIfInBounds i (sa,na+nb,pa)).eraseIdxIfInBounds (i+1)).toList=L1++(sa,na+nb,pa)::L2:=by
  rw[Array.toList_eraseIdxIfInBounds,Array.toList_setIfInBounds,el,<- hl,List.set_append_right _ _ (Ax _),Uk,Ll,List.eraseIdx_append_of_length_le (by lia),IL]
  rfl
 refine h b _ g pm (λk hk=>out k (by lia)) ?_ ?_
 .rw[ep]
  refine Rn.app.mpr ⟨sa,R1.congr λk _ hk=>out k (by lia),rfl,by lia,sg,?_⟩
  rw[<- Nat.add_assoc];exact R2.congr λk hk _=>out k (by lia)
 .have:=congrArg Oy ep
  have q:=congrArg Oy el;simp only[Ce,Dj,By] at this q
  lia
theorem l7 (C:Cm (Ba prog w) A s κ U r){Q:Qm->Fa->Prop}{arr:Bj Bq}{g:Af}(ua:∀ x∈arr.toList,U x)(h2:0<arr.size)
  (h:∀ b pd g,b.toList.Perm arr.toList->b.toList.Pairwise (Le r)->Q () (Cy κ b pd g none)):wpS (Ba prog w) A E s sortRuns' Q (Cy κ arr #[] g none):=by
 have uc:∀ {b:Bj Bq},b.toList.Perm arr.toList->∀ x∈b.toList,U x:=λh x hx=>ua x (h.mem_iff.mp hx);have zc:∀ {b:Bj Bq},b.toList.Perm arr.toList->b.size=arr.size:=λh=>by simpa using h.length_eq
 refine Bb (Lu ?_);dsimp only;refine Bb (Gm (Es (I:=λx c st'=>∃ b pd g lo,st'=Cy κ b pd g none/\c=(none,lo)/\b.toList.Perm arr.toList/\lo<=arr.size/\min x arr.size<=lo/\Rn r b pd.toList 0 lo)
  (Q:=λc st'=>∃ b pd g,st'=Cy κ b pd g none/\c=(none,arr.size)/\b.toList.Perm arr.toList/\Rn r b pd.toList 0 arr.size) ?_ ?_ ⟨arr,#[],g,0,rfl,rfl,Oo _,by lia,by lia,rfl⟩) ?_)
 .rintro x c st' _ hx ⟨b,pd,g,lo,rfl,rfl,pm,lo1,lo2,R⟩
  have zb:=zc pm;dsimp only;refine qM (λe=>Bm ⟨b,pd,g,rfl,by rw[show lo=arr.size by lia],pm,by rw[show arr.size=lo by lia];exact R⟩) λe=>?_
  refine Bb (l6 C (uc pm) (by lia) (by lia) λn b2 n1 n2 cr sg=>?_)
  have R2:Rn r b2 pd.toList 0 lo:=R.congr λk _ hk=>cr.out k (.inl hk);have pm2:=cr.pm.trans pm;have z2:=zc pm2;dsimp only;apply qM
  case' h1 =>
   intro lt;refine Bb (OD (Gj ⟨rfl,?_⟩));refine Bb (sX C (uc pm2) (by lia) (by lia) sg λb3 cr3 sg3=>?_)
   have R3:Rn r b3 pd.toList 0 lo:=R2.congr λk _ hk=>cr3.out k (.inl hk);have pm3:=cr3.pm.trans pm2;refine qM (λe=>by simp at e) λ_=>?_
   have n3:lo+min (arr.size-lo) ((sortPriv% PySem.Builtin.minRun) arr.size arr.size 0)<=arr.size:=by lia
   have n4:0<min (arr.size-lo) ((sortPriv% PySem.Builtin.minRun) arr.size arr.size 0):=by lia
  case' h2 =>
   intro lt;have R3:=R2;have pm3:=pm2;have sg3:=sg;have n3:lo+n<=arr.size:=by lia
   have n4:0<n:=n1
  all_goals
   refine Bb (Lu ?_);dsimp only;rcases hb:pd.back? with _|⟨s1,l1,p1⟩
   .dsimp only
    refine Bb (Ie (Bm ⟨_,_,_,_,rfl,rfl,pm3,n3,by lia,?_⟩))
    show Rn r _ (pd.push _).toList 0 _;rw[Iq];exact Rn.app.mpr ⟨lo,R3,rfl,n4,sg3,rfl⟩
   .dsimp only
    refine Bb (Gm (Es (I:=λ_ c st'=>c=(none,())/\∃ b pd g,st'=Cy κ b pd g none/\b.toList.Perm arr.toList/\Rn r b pd.toList 0 lo/\Seg r b lo _)
     (Q:=λc st'=>c=(none,())/\∃ b pd g,st'=Cy κ b pd g none/\b.toList.Perm arr.toList/\Rn r b pd.toList 0 lo/\Seg r b lo _) ?_ (λ_ _ z=>z) ⟨rfl,_,pd,g,rfl,pm3,R3,sg3⟩) ?_)
    .rintro y c st' _ hy ⟨rfl,b,pd,g,rfl,pm,R,sg⟩
     have zb:=zc pm;refine Bb (Lu ?_);dsimp only;by_cases hp:pd.size>1
     .rw[Bc hp]
      rcases hq:pd[pd.size-2]? with _|⟨u,v,old⟩
      .exact Bm ⟨rfl,b,pd,g,rfl,pm,R,sg⟩
      .dsimp only
       refine qM (λ_=>Bm ⟨rfl,b,pd,g,rfl,pm,R,sg⟩) λ_=>?_;refine Bb (fW C (uc pm) (by lia) R (by lia) λb' pd' g' p' out R' _=>?_)
       refine qM (λe=>by simp at e) λ_=>Bm ⟨rfl,b',pd',g',rfl,p'.trans pm,R',λi j a c d=>?_⟩
       rw[out i a,out j (by lia)]
       exact sg i j a c d
     .rw[Aw hp]
      exact Bm ⟨rfl,b,pd,g,rfl,pm,R,sg⟩
    .rintro c st' ⟨rfl,b,pd,g,rfl,pm,R,sg⟩
     dsimp only;refine Bb (Ie (Bb (Ie (Bm ⟨_,_,_,_,rfl,rfl,pm,n3,by lia,?_⟩))))
     show Rn r b ((pd.modify (pd.size-1) _).push _).toList 0 _;rw[Iq,Array.toList_modify];exact Rn.app.mpr ⟨lo,Rn.mod (λ_ _ _=>⟨_,rfl⟩) R,rfl,n4,sg,rfl⟩
 .rintro c st' ⟨b,pd,g,lo,rfl,rfl,pm,lo1,lo2,R⟩
  have:lo=arr.size:=by lia
  subst this;exact⟨b,pd,g,rfl,rfl,pm,R⟩
 .rintro c st' ⟨b,pd,g,rfl,rfl,pm,R⟩
  dsimp only;have hl:=R.le;rw[Ce] at hl;refine Bb (Gm (Es (I:=λx c st'=>c=(none,())/\∃ b pd g,st'=Cy κ b pd g none/\b.toList.Perm arr.toList/\Rn r b pd.toList 0 arr.size/\(pd.size<=1\/pd.size+x<=arr.size))
   (Q:=λc st'=>c=(none,())/\∃ b pd g,st'=Cy κ b pd g none/\b.toList.Perm arr.toList/\Rn r b pd.toList 0 arr.size/\pd.size<=1) ?_ ?_ ⟨rfl,b,pd,g,rfl,pm,R,by lia⟩) ?_)
  .rintro x c st' _ hx ⟨rfl,b,pd,g,rfl,pm,R,hs⟩
   have zb:=zc pm;refine Bb (Lu ?_);dsimp only;refine qM (λe=>Bm ⟨rfl,b,pd,g,rfl,pm,R,e⟩) λe=>?_;refine Bb (fW C (uc pm) ?_ R (by lia) λb' pd' g' p' out R' z'=>?_)
   .have e:¬ pd.size<=1:=e
    have q:∀ (c:Prop) [Il c],(if c then pd.size-2-1 else pd.size-2)+1<pd.size:=λc _=>by split <;> lia
    exact q _
   exact qM (λe=>by simp at e) λ_=>Bm ⟨rfl,b',pd',g',rfl,p'.trans pm,R',by lia⟩
  .rintro c st' ⟨rfl,b,pd,g,rfl,pm,R,hs⟩
   exact⟨rfl,b,pd,g,rfl,pm,R,by lia⟩
  .rintro c st' ⟨rfl,b,pd,g,rfl,pm,R,hs⟩
   have zb:=zc pm;refine Bm (h b pd g pm ?_);have hs:pd.toList.length<=1:=by simpa using hs
   revert R hs
   cases pd.toList with
   |nil=>intro R;have:0=arr.size:=R;lia
   |cons q t =>
    obtain⟨s0,n0,p0⟩:=q;intro R hs;have:t=[]:=by cases t with|nil=>rfl|cons _ _=>simp at hs
    subst this;obtain⟨rfl,_,sg,e⟩:=R;have e:n0=arr.size:=by have:0+n0=arr.size:=e;lia
    subst e;rw[Ip];intro i j hi hj l;have hi':i<b.size:=by simpa using hi
    have hj':j<b.size:=by simpa using hj
    have:=sg i j (by lia) (by lia) (by lia)
    simpa [Ic,hi',hj',Le] using this
end
structure Cmps (prog:Bi)(w:Ca)(h0:Bs)(vs:Aa Ac)(f:Af->Af->Ap):Prop where
 ex:∃ κ,∀ (A:Br),A.units+8<Ev->∀ (s:Ah),Sup h0 s.heap->(∀ (Q:La->Ah->Prop) (E:Ac->Ah->Prop),Q κ s->Av (Ba prog w) A (keyKind' vs.toArray) Q E s)/\∀ i j (C:Ap->Ah->Prop),i<vs.length->j<vs.length->C (f i j) s->XV prog w A κ vs i j C s
open Classical in
def kV {K:Type}(is:K->Ac->Prop)(d:K)(v:Ac):K:=if h:∃ k,is k v then choose h else d
open Classical in
theorem b7 {K:Type}{is:K->Ac->Prop}{d:K}{v:Ac}(h:∃ k,is k v):is (kV is d v) v:=by
 unfold kV;rw[dif_pos h];exact choose_spec h
section
variable {prog:Bi}{w:Ca}{A:Br}{E:Ac->Ah->Prop}{s:Ah}
theorem V6 {K:Type}{is:K->Ac->Prop}{lt':K->K->Ap}{d:K}(O:Ord lt')(inj:∀ {k k':K} {v:Ac},is k v->is k' v->k=k'){a:Ad}{vs:Aa Ac}{ks:Aa K}{n:Af}{h0:Bs}{P:PySem.Fin->Ah->Prop}(hlen:vs.length=ks.length)(hks:∀ i v,vs[i]? = Ab v->is (ks.getD i d) v)(ho:s.heap.get? a=Ab (Dx "list" vs.toArray n))(hu:A.units+8<Ev)(hz:vs.length<=100000)(c:2<=vs.length->Cmps prog w h0 vs (bQ lt' ks d))(hS:Sup h0 s.heap)(ha:h0.get? a=none)
  (h:∀ ps:Aa (K × Ac),ps.Perm (ks.zip vs)->Nf lt' (ps.map (·.1))->P (.done (.ret .none)) { s with heap:=sortedHeap s.heap a vs (ps.map (·.2)).toArray }) : Av (Ba prog w) A (Mm.«list.sort» ⟨[.ref a],[]⟩) P E s:=by
 rw[list_sort_plain];have hb:a<s.heap.objs.size:=Ay ho;have hsz:vs.toArray.size=vs.length:=by simp
 refine Ai (listItems_at ho rfl (Ai (listUpdate_at ho rfl ?_ (by rw[hsz,Fu];lia) (Hg _))))
 obtain⟨e1,ho1⟩:∃ e1,(s.heap.update a (Ey λ_=>#[])).get? a=Ab (Dx "list" #[] e1):=⟨_,Lb ho (λ_=>#[])⟩;refine Ai (seqEpoch_at ho1 rfl (Ai (Rw (Ai (Tf (Fl ?_) (Hg _))) (by show vs.length<=_;rw[Fu];lia))))
 have ho6:(((s.heap.update a (Ey λ_=>#[])).push (Dx "tuple" vs.toArray 0)).push (Dx "list" #[] 0)).get? a=Ab (Dx "list" #[] e1):=
  Aj _ (Aj _ ho1)
 have S6:Sup h0 (((s.heap.update a (Ey λ_=>#[])).push (Dx "tuple" vs.toArray 0)).push (Dx "list" #[] 0)):=λb o e =>
  Aj _ (Aj _ ((Cu _ _ (λz:a=b=>by rw[<- z,ha] at e;cases e)).trans (hS b o e)))
 show Av (Ba prog w) A _ P E { s with heap:=((s.heap.update a (Ey λ_=>#[])).push (Dx "tuple" vs.toArray 0)).push (Dx "list" #[] 0) }
 dsimp only;have fin:∀ (st':Fa) (ps:Aa (K × Ac)),(arrOf st').map (·.2)=(ps.map (·.2)).toArray->failedOf st'=none->ps.Perm (ks.zip vs)->Nf lt' (ps.map (·.1))->Av (Ba prog w) A (do
   let touched:=(<- seqEpoch a) != e1
   Yk (.ref a) λ_=>(arrOf st').map (·.2)
   if let Ab e:=failedOf st' then rule "list.sort.comparison-raised";throw e
   if touched then rule "list.sort.modified";raiseError "ValueError" "list modified during sort"
   ret .none) P E { s with heap:=((s.heap.update a (Ey λ_=>#[])).push (Dx "tuple" vs.toArray 0)).push (Dx "list" #[] 0) }:=by
  intro st' ps h1 h2 h3 h4;have hl:(ps.map (·.2)).length=vs.length:=by rw[Ar,h3.length_eq,Nr,hlen,Py]
  refine Ai (seqEpoch_at ho6 rfl ?_);rw[h1];refine Ai (listUpdate_at ho6 rfl ?_ (Hg _) (by show (ps.map (·.2)).toArray.size<=_;rw[Bh,hl,Fu];lia))
  rw[h2];simp only[bne_self_eq_false,Cz,Fv];exact AT (h ps h3 h4)
 by_cases h2:vs.toArray.size<2
 .rw[Bc h2,Bc h2]
  refine Ai (AT ?_);rw[StateT.run_pure];refine Ai (AT ?_);refine fin (Cy general' (vs.toArray.zip vs.toArray) #[] 7 none) (ks.zip vs) ?_ rfl (Oo _) ?_
  .show (vs.toArray.zip vs.toArray).map (·.2)=_
   apply Vz.mp;simp[List.map_snd_zip,hlen]
  .rw[Pp (by lia)]
   match ks,hlen with
   |[],_=>exact ON
   |[_],_=>exact Qc _ _
   |_::_::_,e=>simp at e h2;lia
 .rw[Aw h2,Aw h2]
  have h2':2<=vs.length:=by lia
  obtain⟨κ,C⟩:=c h2';obtain⟨k1,k2⟩:=C A hu { s with heap:=((s.heap.update a (Ey λ_=>#[])).push (Dx "tuple" vs.toArray 0)).push (Dx "list" #[] 0) } S6
  have kv:∀ i,i<vs.length->kV is d (vs.getD i Df)=ks.getD i d:=λi hi=>by
   have q:=hks i (vs.getD i Df) (by rw[Hy,Am hi];rfl)
   exact inj (b7 ⟨_,q⟩) q
  have km:∀ i,i<vs.length->ks.getD i d∈ks:=λi hi=>by
   have:i<ks.length:=by lia
   simp[Gs,this]
  have cm:Cm (Ba prog w) A { s with heap:=((s.heap.update a (Ey λ_=>#[])).push (Dx "tuple" vs.toArray 0)).push (Dx "list" #[] 0) } κ (λx=>∃ i,i<vs.length/\x=(vs.getD i Df,vs.getD i Df)) (λx=>gC lt' ks (kV is d x.1)):=by
   refine⟨?_⟩;rintro x y ⟨i,hi,rfl⟩ ⟨j,hj,rfl⟩ E Q st hk q;rw[lt'_eq];refine Bb (Lu ?_);rw[hk];rw[kv i hi,kv j hj,<- sJ O (km i hi)] at q;refine Bb (OD (Mu (ID (k2 i j (λb s'=>s'=_/\b=bQ lt' ks d i j) hi hj ⟨rfl,rfl⟩) ?_ λ_ _ e=>e.elim)));rintro b s' ⟨rfl,rfl⟩;exact⟨rfl,Bm q⟩
  have pl:(vs.toArray.zip vs.toArray).toList=(Ds vs.length).map λi=>(vs.getD i Df,vs.getD i Df):=by
   apply Mv
   .simp
   .intro i h1 h2
    have:i<vs.length:=by simpa using h2
    simp[this]
  refine Ai (k1 _ _ ?_);refine Ai (ID (l7 (E:=E) (Q:=λ_ st'=>∃ b pd g,st'=Cy κ b pd g none/\b.toList.Perm (vs.toArray.zip vs.toArray).toList/\b.toList.Pairwise (Le λx=>gC lt' ks (kV is d x.1))) cm (arr:=vs.toArray.zip vs.toArray) (g:=7) ?_ ?_ λb pd g p q=>⟨b,pd,g,rfl,p,q⟩) ?_ λ_ _ e=>e)
  .intro x hx
   rw[pl] at hx;obtain⟨i,hi,rfl⟩:=Bk.mp hx;exact⟨i,DL.mp hi,rfl⟩
  .simp;lia
  .rintro⟨⟨⟩,st'⟩ s' ⟨rfl,b,pd,g,rfl,pm,up⟩
   refine fin _ (b.toList.map λx=>(kV is d x.1,x.2)) ?_ rfl ?_ ?_
   .show b.map (·.2)=_
    apply Vz.mp;simp
   .refine(pm.map _).trans ?_
    rw[pl,Ei];have:ks.zip vs=(Ds vs.length).map λi=>(ks.getD i d,vs.getD i Df):=by
     apply Mv
     .simp[hlen]
     .intro i h1 h2
      have h3:i<vs.length:=by simpa using h2
      have h4:i<ks.length:=by lia
      simp[h3,h4]
    rw[this];refine List.Perm.of_eq (II λi hi=>?_);show (kV is d (vs.getD i Df),_)=_;rw[kv i (DL.mp hi)]
   .unfold Nf
    rw[Ei,Gh];refine up.imp_of_mem λ{x y} hx hy h=>?_;have hx:=pm.mem_iff.mp hx;have hy:=pm.mem_iff.mp hy;rw[pl] at hx hy;obtain⟨i,hi,rfl⟩:=Bk.mp hx;obtain⟨j,hj,rfl⟩:=Bk.mp hy;have h:gC lt' ks (kV is d (vs.getD i Df))<=gC lt' ks (kV is d (vs.getD j Df)):=h;show lt' (kV is d (vs.getD j Df)) (kV is d (vs.getD i Df))=false;have hj:=DL.mp hj;rw[sJ O (ks:=ks) (by rw[kv j hj];exact km j hj)]
    exact Cc (by lia)
end
section
variable {prog:Bi}{w:Ca}{h0:Bs}
theorem JU {A:Br}{s:Ah}{b:Ap}{Q:Ap->Ah->Prop}:∀ {xs ys:Aa Ag} {us vs:Aa Ac} {i:Af} {N M:Af},ItemsAre (IC prog w) xs us->ItemsAre (IC prog w) ys vs->N+ys.length=M+xs.length->Q (_H.lexLt xs ys) s->KatLex prog w A b (decide (N<M)) Q (us.zip vs) i s:=by
 intro xs ys us vs i N M hx
 induction hx generalizing ys vs i with
 |nil =>
  intro hy hl h;cases hy with
  |nil =>
   have:decide (N<M)=false:=Cc (by simp at hl;lia)
   rw[this];exact h
  |@cons k v ys vs q r =>
   have:decide (N<M)=true:=Bw (by simp at hl;lia)
   rw[this];exact h
 |@cons x u xs us qx rx ih =>
  intro hy hl h;cases hy with
  |nil =>
   have:decide (N<M)=false:=Cc (by simp at hl;lia)
   rw[this];exact h
  |@cons y v ys vs qy ry =>
   obtain⟨t,rfl⟩:=uC (prog:=prog) (w:=w) qx;obtain⟨t',rfl⟩:=uC (prog:=prog) (w:=w) qy;rw[Hr];refine kat_cons (Vg ?_);rw[_H.lexLt_cons] at h;refine kat_go (λe=>kat_yes ?_) λe=>kat_no ?_
   .rw[Bc (by simpa using e)] at h
    exact ih ry (by simp at hl;lia) h
   .rw[Aw (by simpa using e)] at h
    cases b&&i == 0 with
    |true=>exact oneLt_int h
    |false=>exact kat_one _ _ (Ob h)
theorem c6 {h:Bs}:∀ {vs:Aa Ac} {ks:Aa (Aa Ag)},vs.length=ks.length->(∀ i v,vs[i]? = Ab v->isT prog w h (ks.getD i []) v)->(∀ k∈ks,k≠[])->∃ fs,KatTups h vs fs/\fs.length=vs.length/\∀ f∈fs,∃ n t,f=OE n t
 |[],[],_,_,_=>⟨[],trivial,rfl,λf hf=>by simp at hf⟩
 |v::vs,k::ks,hl,hv,hne=>by
  obtain⟨fs,a1,a2,a3⟩:=c6 (vs:=vs) (ks:=ks) (by simpa using hl) (λi u hu=>by simpa using hv (i+1) u (by simpa using hu)) λk hk=>hne k (by simp[hk])
  obtain⟨a,rfl,o,items,n,ho,hc,hd,hi⟩:=hv 0 v rfl;have hk:k≠[]:=hne k (by simp)
  have hi':ItemsAre (IC prog w) k items.toList:=hi;cases hz:items.toList with
  |nil=>rw[hz] at hi';cases hi';exact absurd rfl hk
  |cons f qE =>
   rw[hz] at hi';cases hi' with
   |cons q _ =>
    obtain⟨t,rfl⟩:=uC (prog:=prog) (w:=w) q;refine⟨_::fs,Yl ho hc hd (by rw[<- Em,hz];rfl) a1,by simp[a2],λf hf=>?_⟩
    rcases Bg.mp hf with rfl|hf
    .exact⟨_,_,rfl⟩
    .exact a3 f hf
theorem BE {ks:Aa (Aa Ag)}(hl:vs.length=ks.length)(hv:∀ i v,vs[i]? = Ab v->isT prog w h0 (ks.getD i []) v)(hne:∀ k∈ks,k≠[])(h2:2<=vs.length):Cmps prog w h0 vs (bQ _H.lexLt ks []):=by
 refine⟨tuples' (Jd "int" != Jd "tuple"),λA hu s hS=>⟨λQ E h=>?_,λi j C hi hj h=>?_⟩⟩
 .obtain⟨fs,a1,a2,a3⟩:=c6 (h:=s.heap) hl (λi v hv'=>by obtain⟨a,e,q⟩:=hv i v hv';exact⟨a,e,QN hS q⟩) hne
  refine kat_kind a1 (by lia) (λv hv'=>?_) (by decide) h
  obtain⟨n,t,rfl⟩:=a3 v hv';exact Ya rfl
 .have g:∀ k (hk:k<vs.length),∃ a,vs.getD k Df=.ref a/\Po (IC prog w) s.heap (ks.getD k []) a:=λk hk=>by
   obtain⟨a,e,q⟩:=hv k vs[k] (Am hk);exact⟨a,by rw[<- e];simp[Gs,hk],QN hS q⟩
  obtain⟨a,ea,oa,ia,na,ha,_,da,qa⟩:=g i hi;obtain⟨b,eb,ob,ib,nb,hb,_,db,qb⟩:=g j hj;unfold XV;rw[ea,eb];refine kat_lt ha da hb db (JU qa qb ?_ h);have la:=qa.length;have lb:=qb.length;simp only[Ce] at la lb
  lia
theorem BC {ks:Aa Ag}(hl:vs.length=ks.length)(hv:∀ i v,vs[i]? = Ab v->isI prog w (ks.getD i 0) v)(h2:2<=vs.length):Cmps prog w h0 vs (bQ ltI ks 0):=by
 have hi:∀ v∈vs,∃ n t,v=OE n t:=λv hm=>by
  obtain⟨i,hi,e⟩:=Cw.mp hm;obtain⟨t,q⟩:=uC (hv i v (by rw[Am hi,e]))
  exact⟨_,t,q⟩
 refine⟨oneType',λA hu s hS=>⟨λQ E h=>?_,λi j C hi hj h=>?_⟩⟩
 .obtain⟨v₁,v₂,qE,rfl⟩:∃ v₁ v₂ qE,vs=v₁::v₂::qE:=by
   match vs,h2 with
   |v₁::v₂::qE,_=>exact⟨v₁,v₂,qE,rfl⟩
  rw[keyKind_ints (intsAre_map _ hi)];exact AT h
 .have g:∀ k (hk:k<vs.length),∃ t,vs.getD k Df=.int (ks.getD k 0) t:=λk hk=>by
   obtain⟨t,q⟩:=uC (hv k vs[k] (Am hk));exact⟨t,by rw[<- q];simp[Gs,hk]⟩
  obtain⟨t,et⟩:=g i hi;obtain⟨u,eu⟩:=g j hj;unfold XV;rw[et,eu];exact kat_lt_int h
end
section
variable {K:Type}{lt':K->K->Ap}
theorem Z5 {α:Type}{ks:Aa K}{vs:Aa α}{d:K}(hl:vs.length=ks.length){p:K × α}(h:p∈ks.zip vs):∃ i,vs[i]? = Ab p.2/\ks.getD i d=p.1:=by
 obtain⟨i,hi,e⟩:=Cw.mp h;have h1:i<ks.length:=by rw[Nr] at hi;lia
 have h2:i<vs.length:=by lia
 rw[List.getElem_zip] at e;subst e;exact⟨i,Am h2,by simp[h1]⟩
end
structure Kind (prog:Bi)(w:Ca){K:Type}(is:K->Ac->Prop)(hash:K->Ag)(lt':K->K->Ap)(d:K)(Fit:K->Prop)(h0:Bs):Prop where
 ord:Ord lt'
 inj:∀ {k k':K} {v:Ac},is k v->is k' v->k=k'
 cmps:∀ {vs:Aa Ac} {ks:Aa K},vs.length=ks.length->(∀ i v,vs[i]? = Ab v->is (ks.getD i d) v)->(∀ k∈ks,Fit k)->2<=vs.length->Cmps prog w h0 vs (bQ lt' ks d)
theorem DZ (prog:Bi)(w:Ca)(h0:Bs):Kind prog w (isT prog w h0) (tupleKeyHash (IC prog w)) _H.lexLt [] (·≠[]) h0:=⟨uQ,isT.inj,λh1 h2 h3 h4=>BE h1 h2 h3 h4⟩
theorem DX (prog:Bi)(w:Ca)(h0:Bs):Kind prog w (isI prog w) (IC prog w).hash ltI 0 (λ_=>NE) h0:=⟨HI,λa b=>(IC prog w).inj _ _ _ a b,λh1 h2 _ h4=>BC h1 h2 h4⟩
end _S
namespace _D
open PySem PySem.Spec PyProof.Rows _L
variable {pins:Aa (Ad × Cg)}{α:Aa Ad}{σ:_L.St}
noncomputable def wR:Aa D->Al (Aa (Aa Ag))
 |[]=>Ab []
 |.tup ys::r=>(xA ys).bind λk=>(wR r).map (k::·)
 |_::_=>none
noncomputable def tpD (k:Aa Ag):D:=.tup (k.map D.int)
theorem sT:∀ {ds:Aa D} {ks:Aa (Aa Ag)},wR ds=Ab ks->ds=ks.map tpD
 |[],ks,h=>by cases h;rfl
 |d::r,ks,h=>by
  cases d with
  |tup ys =>
   obtain⟨k,h1,h2⟩:=Ep.mp (show (xA ys).bind (λk=>(wR r).map (k::·))=Ab ks from h)
   obtain⟨m,h3,rfl⟩:=Ee.mp h2;rw[sT h3,vE h1];rfl
  |_=>cases h
theorem pM (ks:Aa (Aa Ag)):wR (ks.map tpD)=Ab ks:=by
 induction ks with
 |nil=>rfl
 |cons k ks ih =>
  show (xA (k.map D.int)).bind (λk=>(wR (ks.map tpD)).map (k::·))=_
  rw[p7,ih];rfl
noncomputable def YC:D->Al (Aa D)
 |.lst xs=>Ab xs
 |.tup xs=>Ab xs
 |_=>none
section
variable {X:Cx}{e:Bn}{fa:DE}{p1 p2 pos1 pos2:Eg}
theorem iD:Fd "sorted" = Ab (.builtin "sorted"):=by decide +kernel
theorem rS {prog:Bi}{w:Ca}:∀ {k:Aa Ag} {us:Aa Ac},qH (k.map V.int) us->ItemsAre (IC prog w) k us
 |[],us,h=>by cases h;exact .nil
 |i::k,us,h=>by
  cases h with
  |cons q t =>
   obtain⟨tk,rfl⟩:=q;exact .cons (WF _ _ _ _) (rS t)
theorem L5 {H P:Hp}{S:Sto}{s:Ah}{d:D}{xs:Aa D}{v:V}{vv:Ac}(I:Inv X pins σ H s)(r:Rel X.K H P α S)(p:Rep X.K P α d v)(q:qF v vv)(h:YC d=Ab xs) :
  ∃ a vs its,vv=.ref a/\qB X.K P α xs vs/\qH vs its/\(s.heap.IsList a its.toArray\/s.heap.IsTuple a its.toArray)/\xs.length=its.length:=by
 cases d with
 |lst ys =>
  cases h;obtain⟨a,vs,its,n,rfl,_,t,rv,e,l,_⟩:=vR I r p;exact⟨a,vs,its,q,t,rv,.inl ⟨_,e,rfl,n,rfl⟩,l⟩
 |tup ys =>
  cases h;obtain⟨a,vs,its,rfl,_,t,rv,⟨o,e,hc,n,hd⟩,l,_⟩:=y9 I r p;exact⟨a,vs,its,q,t,rv,.inr ⟨o,e,hc,n,hd⟩,l⟩
 |_=>cases h
end
section
variable {X:Cx}
noncomputable def lstM (d:D)(S:Sto):Al (Aa D):=match d with
 |.lst xs=>Ab xs
 |.loc i=>match S[i]? with
  |some (.lst xs)=>Ab xs
  |_=>none
 |_=>none
noncomputable def pY:G2:=λa b S=>match lstM a S,lstM b S with
 |some xs,Ab ys=>if xs.length+ys.length<=lim then .ok (.lst (xs++ys)) S else .bad
 |_,_=>.bad
theorem eF {H P:Hp}{S:Sto}{s:Ah}{d:D}{xs:Aa D}{v:V}(I:Inv X pins σ H s)(r:Rel X.K H P α S)(h:lstM d S=Ab xs)(p:Rep X.K P α d v) :
  ∃ a vs its n,v=.ref a/\qB X.K P α xs vs/\qH vs its/\s.heap.get? a=Ab { cls:=.type "list",data:=.seq its.toArray n } /\ xs.length=its.length:=by
 cases d with
 |lst ys =>
  cases h;obtain⟨a,vs,its,n,e,_,t,rv,h1,l1,_⟩:=vR I r p;exact⟨a,vs,its,n,e,t,rv,h1,l1⟩
 |loc i =>
  simp only[lstM] at h;cases hS:S[i]? with
  |none=>rw[hS] at h;cases h
  |some m =>
   rw[hS] at h;cases m with
   |lst ys =>
    cases h;simp only[Rep] at p;obtain⟨a,rfl,q⟩:=p;obtain⟨vs,z,t⟩:=r.at' i a _ q hS;obtain⟨_,its,n,rv,e⟩:=I.hok a _ z;exact⟨a,vs,its,n,rfl,t,rv,e,by rw[t.length,rv.length]⟩
   |_=>cases h
 |_=>cases h
theorem K6:OpD X (Dp .Add) pY:=by
 intro pins σ H s P α S v u vv uu a b Q I r rv ru pa pb af;unfold pY at af;cases h1:lstM a S with
 |none=>rw[h1] at af;exact An af
 |some xs =>
  cases h2:lstM b S with
  |none=>rw[h1,h2] at af;exact An af
  |some ys =>
   rw[h1,h2] at af;obtain⟨hl,af⟩:=y7 (X:=X) af;obtain⟨a,vs,its,n,rfl,t1,rv1,e1,l1⟩:=eF I r h1 pa;obtain⟨b,ws,its2,n2,rfl,t2,rv2,e2,l2⟩:=eF I r h2 pb;cases rv;cases ru;refine Vs e1 e2 ?_ (by rw[Bh,Bh,<- l1,<- l2,<- zS];exact hl)
   rw[Sz];exact dM I r (t1.append t2) (rv1.append rv2) (by rw[Dj];exact hl) af
end
section
variable {X:Cx}{cm:Ap}{k:Af}{e:Bn}{fa:DE}{p1 p2 pos1 pos2:Eg}
theorem LN:ZOp X (Dp .Add) pY:=⟨K6⟩
end
end _D
section
namespace _D
open PySem PySem.Spec PyProof.Rows _L
mutual
noncomputable def pyD:D->Al PyData
 |.non=>Ab .none
 |.bl b=>Ab (.bool b)
 |.int i=>Ab (.int i)
 |.str x=>Ab (.str x)
 |.tup xs=>(fC xs).map .tuple
 |.lst xs=>(fC xs).map .list
 |.dct0=>Ab (.dict [])
 |_=>none
noncomputable def fC:Aa D->Al (Aa PyData)
 |[]=>Ab []
 |d::ds=>(pyD d).bind λx=>(fC ds).map (x::·)
end
end _D
end
namespace _S
open PySem PySem.W PyProof.Rows
section
variable {prog:Bi}{w:Ca}{A:Br}{E:Ac->Ah->Prop}{s:Ah}{K:Type}{is:K->Ac->Prop}{hash:K->Ag}{lt':K->K->Ap}{d:K}{Fit:K->Prop}{h0:Bs}
theorem aQ {Q:Ac->Ah->Prop}(kd:Kind prog w is hash lt' d Fit h0)(hu:A.units+16<Ev)(hS:Sup h0 s.heap){l:Ad}{vs:Aa Ac}(hl:s.heap.IsList l vs.toArray\/s.heap.IsTuple l vs.toArray)(ks:Aa K)(hlen:vs.length=ks.length)(hks:∀ i v,vs[i]? = Ab v->is (ks.getD i d) v)(hf:∀ k∈ks,Fit k)(hoel:vs.length<=100000)
  (h:∀ (h1 h':Bs) (tk:Af) (D:Ad) (c:Af) (ps:Aa (K × Ac)),(∀ b o,s.heap.get? b=Ab o->h1.get? b=Ab o)->(∀ b o,h1.get? b=Ab o->h'.get? b=Ab o)->h1.objs.size<=D->h'.get? D=Ab (Dx "list" (ps.map (·.2)).toArray c)->ps.map (·.1)=vI lt' ks->(∀ p∈ps,is p.1 p.2/\p.2∈vs)->ps.length=ks.length->Q (.ref D) { s with heap:=h',toks:=tk }) :
  Av (Ba prog w) A (call (.builtin "sorted") [.ref l]) Q E s:=by
 refine OU kind_sorted plain_sorted entry_sorted (args_sorted1 _) ?_;unfold Mm.«sorted»;refine Ai (m:=checkCount "sorted" 1 1 _) (AT ?_);have hcol:∀ {R:Aa Ac->Ah->Prop},(∀ h1:Bs,(∀ b o,s.heap.get? b=Ab o->h1.get? b=Ab o)->R vs { s with heap:=h1 }) -> Av (Ba prog w) A.in1 (collect (.ref l)) R E s:=λ{R} hR=>by
  have e:vs.toArray.toList=vs:=by simp
  rcases hl with⟨o,ho,hc,n,hd⟩|⟨o,ho,hc,n,hd⟩
  .exact Ve l (.inl rfl) ho hc hd (λh' hk=>by rw[e];exact hR h' hk) (by rw[Bh,Fu];lia)
  .exact Ve l (.inr rfl) ho hc hd (λh' hk=>by rw[e];exact hR h' hk) (by rw[Bh,Fu];lia)
 refine Ai (hcol λh1 kp1=>?_);refine Ai (Tf ?_ (by rw[Fu];lia))
 have hD:(h1.push (Dx "list" vs.toArray 0)).get? h1.objs.size=Ab (Dx "list" vs.toArray 0):=Be _ rfl;have n0:h0.get? h1.objs.size=none:=by
  cases q:h0.get? h1.objs.size with
  |none=>rfl
  |some o=>exact absurd (Ay (kp1 _ _ (hS _ _ q))) (Di _)
 show Av _ _ _ _ _ { s with heap:=h1.push (Dx "list" vs.toArray 0),toks:=s.toks }
 refine Ai (Fl (Fg slot_list_sort ⟨_,hD,rfl⟩ Wp (V6 (h0:=h0) (is:=is) kd.ord kd.inj (d:=d) (vs:=vs) hlen hks hD (by show A.units+2+8<Ev;lia) hoel (λh2=>kd.cmps hlen hks hf h2) (λb o e=>Aj _ (kp1 b o (hS b o e))) n0 λps pm nf=>⟨_,rfl,?_⟩) (args_list_sort _)))
 refine AT ⟨_,rfl,?_⟩;have hz:(h1.push (Dx "list" vs.toArray 0)).objs.size=h1.objs.size+1:=size_push' ..;have old:∀ b o,b≠h1.objs.size->(h1.push (Dx "list" vs.toArray 0)).get? b=Ab o->((((h1.push (Dx "list" vs.toArray 0)).update h1.objs.size (Ey λ_=>#[])).push (Dx "tuple" vs.toArray 0)).push (Dx "list" #[] 0)).get? b=Ab o:=λb o hb e =>
  Aj _ (Aj _ ((Cu _ _ (Eu hb)).trans e))
 obtain⟨e1,he1⟩:∃ e1,((h1.push (Dx "list" vs.toArray 0)).update h1.objs.size (Ey λ_=>#[])).get? h1.objs.size=Ab (Dx "list" #[] e1):=⟨_,Lb hD (λ_=>#[])⟩;have he6:=Lb (Aj (Dx "list" #[] 0) (Aj (Dx "tuple" vs.toArray 0) he1)) (λ_=>(ps.map (·.2)).toArray)
 have pk:(ps.map (·.1)).Perm ks:=by
  have:=pm.map (·.1)
  rwa [Pp (by lia)] at this
 refine h h1 _ s.toks h1.objs.size _ ps kp1 (λb o e=>?_) (Ax _) he6 (jX kd.ord nf (bG kd.ord ks) (pk.trans (yN ks).symm)) (λp hp=>?_) (by have:=pk.length_eq;rwa [Ar] at this)
 .have hb:b≠h1.objs.size:=λz=>by
   subst z;exact absurd (Ay e) (Di _)
  exact(Cu _ _ (Eu hb)).trans (old b o hb (Aj _ e))
 .obtain⟨i,e1,e2⟩:=Z5 (d:=d) hlen (pm.mem_iff.mp hp)
  exact⟨e2▸hks i _ e1,Ec e1⟩
end
end _S
namespace _D
open PySem PySem.Spec PyProof.Rows _L
noncomputable def gF (xs:Aa D):Al (Aa D):=match xA xs with
 |some ns=>if ns.length<=100000 then Ab ((_S.vI _S.ltI ns).map D.int) else none
 |none=>match wR xs with
  |some ks=>if (decide (ks.length<=100000)&&ks.all λk=>!k.isEmpty) then Ab ((_S.vI _H.lexLt ks).map tpD) else none
  |none=>none
noncomputable def YE (R:Aa D->Sto->Res D):DF:=λds S=>match ds with
 |[d]=>match (YC d).bind gF with
  |some ys=>R ys S
  |none=>.bad
 |_=>.bad
noncomputable def pV:DF:=YE λys S=>.ok (.lst ys) S
section
variable {X:Cx}{pins:Aa (Ad × Cg)}{σ : _L.St}{H P:Hp}{α : Aa Ad}{S:Sto}{s:Ah}
inductive NewR (X:Cx)(pins:Aa (Ad × Cg))(σ : _L.St)(H P:Hp)(α : Aa Ad)(ys:Aa D)(u:Ac)(s':Ah):Prop
 |mk (D:Ad) (vs:Aa V) (e:u=.ref D) (hn:H D=none) (I:Inv X pins σ (upd H D (.lst vs)) s') (rp:qB X.K P α ys vs):NewR X pins σ H P α ys u s'
theorem nY {K:Type}{is:K->Ac->Prop}{hash:K->Ag}{lt':K->K->Ap}{d:K}{Fit:K->Prop}(kd:_S.Kind X.prog X.w is hash lt' d Fit s.heap)(hu:X.A.units+64<Ev)(I:Inv X pins σ H s)(r:Rel X.K H P α S){a:Ad}{its:Aa Ac}
  (ha:s.heap.IsList a its.toArray\/s.heap.IsTuple a its.toArray) (ks:Aa K) (hl:ks.length=its.length) (hk:∀ i v,its[i]? = Ab v->is (ks.getD i d) v) (hn:ks.length<=100000) (hf:∀ k∈ks,Fit k) (enc:K->D)
  (back:∀ k v,is k v->v∈its->∃ vv,qF vv v/\Rep X.K P α (enc k) vv) {E:Ac->Ah->Prop} :
  Av (Ba X.prog X.w) X.A (call (.builtin "sorted") [.ref a]) (NewR X pins σ H P α ((_S.vI lt' ks).map enc)) E s:=by
 refine _S.aQ kd li (λ_ _ e=>e) ha ks hl.symm hk hf li λh1 h2 tk2 D c ps kp1 kp2 hD hob hps hp hpl=>?_;have I1:Inv X pins σ H { s with heap:=h1,toks:=s.toks }:=I.kept kp1
 have vv:∀ (ps:Aa (K × Ac)),(∀ p∈ps,is p.1 p.2/\p.2∈its)->∃ vs,qH vs (ps.map (·.2))/\qB X.K P α ((ps.map (·.1)).map enc) vs:=by
  intro ps
  induction ps with
  |nil=>exact λ_=>⟨[],.nil,.nil⟩
  |cons p ps ih =>
   intro h;obtain⟨vs,a1,a2⟩:=ih λq hq=>h q (by simp[hq])
   obtain⟨v,b1,b2⟩:=back p.1 p.2 (h p (by simp)).1 (h p (by simp)).2
   exact⟨v::vs,.cons b1 a1,.cons b2 a2⟩
 obtain⟨vs,a1,a2⟩:=vv ps hp;rw[hps] at a2;have nd:([(D,HO.lst vs)].map (·.1)).Nodup:=by simp
 have I2:Inv X pins σ (xH H [(D,HO.lst vs)]) { s with heap:=h2,toks:=tk2 }:=Inv.laidL (s:={ s with heap:=h1,toks:=s.toks }) (L:=[(D,HO.lst vs)]) (t':=tk2) I1 kp2 (λp hpm=>by
  have:p=(D,HO.lst vs):=by simpa using hpm
  subst this;exact hD) λp hpm=>by
  have:p=(D,HO.lst vs):=by simpa using hpm
  subst this;refine⟨?_,ps.map (·.2),c,a1,hob⟩
  have:=a1.length;rw[Ar] at this;rw[this,Fu]
  lia
 exact⟨D,vs,rfl,I1.hok.fresh hD,I2,a2⟩
set_option tactic.hygienic true in
theorem aP {E:Ac->Ah->Prop}(hu:X.A.units+64<Ev)(I:Inv X pins σ H s)(r:Rel X.K H P α S){a:Ad}{xs ys:Aa D}{vs:Aa V}{its:Aa Ac}(t1:qB X.K P α xs vs)(rv1:qH vs its)(e1:s.heap.IsList a its.toArray\/s.heap.IsTuple a its.toArray)(l1:xs.length=its.length)(hs:gF xs=Ab ys) :
  Av (Ba X.prog X.w) X.A (call (.builtin "sorted") [.ref a]) (NewR X pins σ H P α ys) E s:=by
 unfold gF at hs;cases hi:xA xs with
 |some ns =>
  rw[hi] at hs;dsimp only at hs
  split at hs
  .rename_i hlt
   cases hs;have:=vE hi;subst this;have:=yM t1;subst this;refine nY (d:=0) (_S.DX X.prog X.w s.heap) hu I r e1 ns (by simpa using l1) (λi u hu'=>?_) hlt (λ_ _=>trivial) D.int λk u hk _=>?_
   .have hi:IS its ns:=by simpa using fR rv1
    obtain⟨t,rfl⟩:=Xg hi i u hu';exact WF _ _ _ _
   .obtain⟨t,rfl⟩:=_S.uC hk
    exact⟨.int k,⟨t,rfl⟩,by simp only[Rep]⟩
  .cases hs
 |none =>
  rw[hi] at hs;dsimp only at hs;cases ht:wR xs with
  |none=>rw[ht] at hs;cases hs
  |some ks =>
   rw[ht] at hs;dsimp only at hs
   split at hs
   .rename_i hlt
    cases hs;rw[As,Aq] at hlt;have:=sT ht;subst this;have at':∀ (i:Af) (u:Ac),its[i]? = Ab u->∃ b,u=.ref b/\Po (IC X.prog X.w) s.heap (ks.getD i []) b/\∃ vv,qF vv u/\Rep X.K P α (tpD (ks.getD i [])) vv:=λi u hu'=>by
     have hii:i<its.length:=(Az.mp hu').1;have hik:i<ks.length:=by rw[Ar] at l1;lia
     obtain⟨v,p,q,_⟩:=xB t1 rv1 (j:=i) (by rw[Bh];exact hii)
     have hd:(ks.map tpD).getD i D.non=tpD (ks.getD i []):=by simp[Gs,hik]
     rw[hd] at p;have hu2:its.toArray[i]'(by rw[Bh];exact hii)=u:=by
      rw[Am hii] at hu';simpa using hu'
     rw[hu2] at q;obtain⟨b,ws,us,rfl,sq,t,rv,⟨o,ho,hcl,m,hd⟩,_,_⟩:=y9 I r (show Rep X.K P α (.tup ((ks.getD i []).map D.int)) v from p)
     cases (show u=Cf b from q)
     have:=yM t;subst this;exact⟨b,rfl,⟨o,us.toArray,m,ho,hcl,hd,by simpa using rS rv⟩,.ref b,rfl,p⟩
    refine nY (d:=[]) (_S.DZ X.prog X.w s.heap) hu I r e1 ks (by simpa using l1) (λi u hu'=>?_) hlt.1 (λk hk=>?_) tpD λk u hk hm'=>?_
    .obtain⟨b,rfl,q,_⟩:=at' i u hu'
     exact⟨b,rfl,q⟩
    .have:=Bt.mp hlt.2 k hk
     intro z;subst z;cases this
    .obtain⟨i,hi',rfl⟩:=Cw.mp hm'
     obtain⟨b,eb,q,w,rw',pw⟩:=at' i _ (Am hi');have:k=ks.getD i []:=_S.isT.inj hk ⟨b,eb,q⟩;rw[this];exact⟨w,rw',pw⟩
   .cases hs
theorem RL (hu:X.A.units+64<Ev){vs:Aa V}{us:Aa Ac}{ds:Aa D}{Q:VK}{R:Aa D->Sto->Res D}(I:Inv X pins σ H s)(r:Rel X.K H P α S)(rv:qH vs us)(rp:qB X.K P α ds vs)(af:qP X P α (YE R ds S) Q)
  (k:∀ ys D vs',H D=none->qB X.K P α ys vs'->qP X P α (R ys S) Q->Q (.ref D) (upd H D (.lst vs'))):Av (Ba X.prog X.w) X.A (call (.builtin "sorted") us) (EP X pins σ Q) X.xe s:=by
 match ds,af,rp with
 |[],af,_=>exact An af
 |_::_::_,af,_=>exact An af
 |[d],af,rp =>
  simp only[YE] at af;cases hq:(YC d).bind gF with
  |none=>rw[hq] at af;exact An af
  |some ys =>
   rw[hq] at af;obtain⟨xs,hd,hs⟩:=Ep.mp hq;obtain⟨v,u,rfl,rfl,p,q⟩:=v3 rp rv;obtain⟨a,vs,its,rfl,t1,rv1,e1,l1⟩:=L5 I r p q hd;refine thn (aP hu I r t1 rv1 e1 l1 hs) λu' s3 ⟨D,vs',e,hn,I',rp'⟩=>?_;subst e;exact⟨.ref D,_,I',rfl,k ys D vs' hn rp' af⟩
theorem iF (hu:X.A.units+64<Ev):wL X (.builtin "sorted") pV:=by
 intro pins σ H s P α S vs us ds Q I r rv rp af;exact RL hu I r rv rp af λys D vs' hn rp' af'=>vF r hn rp' af'
end
section
variable {X:Cx}{cm:Ap}{k:Af}
theorem YN (hr:RoomC cm k X.A):ZCall X (.builtin "sorted") pV:=⟨iF hr.units⟩
end
end _D
namespace _L
open PySem PySem.Spec PyProof.Rows
variable {loose:Aa Ao}{mg mb:Ao->Al Ac}
def EH (H:Hp):Prop:=∀ b,H b=none\/(∃ o xs,H b=Ab (.frz o (.lst xs)))\/H b=Ab (.tbl #[])
def Tb0 (K:Ak)(H:Hp):Prop:=∀ x∈w4,∀ c T,Dk K x=Ab (c,T)->H T=Ab (.tbl #[])
structure Tabs (K:Ak)(h:Bs):Prop where
 at':∀ x∈w4,∀ c T,Dk K x=Ab (c,T)->Ru h c T/\h.get? T=Ab (Jt #[]) /\ K.lookup T=none
 inj:∀ x∈w4,∀ y∈w4,∀ c d T,Dk K x=Ab (c,T)->Dk K y=Ab (d,T)->x=y
theorem W4 {P:Bi}{w:Ca}{K:Ak}{CX:CXT}{k:Af}{fa a:Ad}{fd:Et}{x:Ao}{sp:Sp}{s₁:Ah}{vs:Aa Ac}{ns:Aa Ag}
  (KX:K.In s₁.heap) (hns:s₁.heap.Ns Ct mg) (hb:s₁.heap.Ns Oa mb) (hbb:∀ x:Ao,x ≠ "__name__" -> mb x=Fd x) (hlim:s₁.heap.NoLimit) (hg:s₁.gens=#[]) (hbm:PP mg s₁.heap) (tbs:Tabs K s₁.heap)
  (ha:s₁.heap.get? a=Ab { cls:=.type "list",data:=.seq vs.toArray }) (hi:IS vs ns) (hl:ns.length<=sizeLine) (hr:Room k OM)
  (F:∀ base:Bs,K.In base->base.Ns Ct mg->FnOk P w K mg base CX k fa fd [x] sp) (hbind:∀ (s:Ah) (u:Ac),Ml s fd ⟨[u],[]⟩ [(x,u)])
  (hsp:∀ H:Hp,Tb0 K H->SqX K H a (ns.map V.int)->sp [.ref a] H (λv _=>v=.bl true) λ_ _ _=>Ez)
  (hCX:∀ H e s',CX [] H s₁ (λ_ _ _=>Ez) e s'->Ez) :
  IE (Ba P w) OM (.call (.ref fa) ⟨[.ref a],[]⟩) (λr s'=>r=.ok (.ret (.bool true))/\OldK s₁.heap s'.heap/\s'.os=s₁.os/\Mk s'.gens) s₁:=by
 have rv:=QX hi;have lenV:=hi.length
 let isT:Ad->Prop:=λb=>∃ x∈w4,∃ c,Dk K x=Ab (c,b)
 have tab:∀ b,isT b->s₁.heap.get? b=Ab (Jt #[]) /\ K.lookup b=none:=λb ⟨x,hx,c,h⟩=>(tbs.at' x hx c b h).2;have core:∀ H:Hp,EH H->Tb0 K H->SqX K H a (ns.map V.int)->HOk P w H s₁.heap->(∀ b,H b≠none->b=a\/isT b)->(H a≠none->K.lookup a=none) ->
   IE (Ba P w) OM (.call (.ref fa) ⟨[.ref a],[]⟩) (λr s'=>r=.ok (.ret (.bool true))/\OldK s₁.heap s'.heap/\s'.os=s₁.os/\Mk s'.gens) s₁:=by
  intro H hO hT hS hok hA hK;have base_of:∀ {b:Ad} {o:Cg},s₁.heap.get? b=Ab o->H b=none->(kQ s₁.heap H).get? b=Ab o:=λe n=>XQ e n;have noA:∀ {b:Ad} {o:Cg},s₁.heap.get? b=Ab o->o.cls≠.none->(o.cls≠.type "list" \/ ∃ es ep,o.data=.dict es ep)->H b=none:=λ{b o} e c1 c2=>by
   cases q:H b with
   |none=>rfl
   |some u =>
    rcases hA b (by rw[q];simp) with e'|e'
    .subst e'
     rw[ha] at e;cases e;rcases c2 with z|⟨es,ep,d⟩
     .exact absurd rfl z
     .cases d
    .rw[(tab b e').1] at e;cases e
     exact absurd rfl c1
  have noD:∀ {b:Ad} {o:Cg} {es:Bj DictEntry} {ep:Af},s₁.heap.get? b=Ab o->o.data=.dict es ep->H b=none:=λ{b o es ep} e d=>by
   cases q:H b with
   |none=>rfl
   |some u =>
    rcases hA b (by rw[q];simp) with e'|e'
    .subst e'
     rw[ha] at e;cases e;cases d
    .rw[(tab b e').1] at e;cases e;cases d
  have nsK:∀ {b:Ad} {m:Ao->Al Ac},s₁.heap.Ns b m->(kQ s₁.heap H).Ns b m:=λ{b m} ⟨o,es,ep,e,d,r⟩=>⟨o,es,ep,base_of e (noD e d),d,r⟩;have hKb:K.In (kQ s₁.heap H):=λb o e=>base_of (KX b o e) (by
   cases q:H b with
   |none=>rfl
   |some u =>
    rcases hA b (by rw[q];simp) with e'|e'
    .subst e'
     rw[hK (by rw[q];simp)] at e;cases e
    .rw[(tab b e').2] at e;cases e)
  have hM:Mod K mg (kQ s₁.heap H):=by
   refine⟨hKb,nsK hns,⟨mb,nsK hb,hbb⟩,let ⟨mc,h1,h2⟩:=hlim;⟨mc,nsK h1,h2⟩,?_,λx hx c T h=>?_,tbs.inj⟩
   .obtain⟨bm,o,b1,b2,b3,b4,b5⟩:=hbm
    exact⟨bm,o,b1,b2,base_of b3 (noA b3 (by rw[b4];nofun) (.inl (by rw[b4];decide))),b4,b5⟩
   .obtain⟨o,vs,file,tf,flags,tg,inF,text,tt,e1,e2,r⟩:=(tbs.at' x hx c T h).1
    exact⟨o,vs,file,tf,flags,tg,inF,text,tt,base_of e1 (noA e1 (by rw[e2];nofun) (.inl (by rw[e2];decide))),e2,r⟩
  have e0:Env0 P w K mg (kQ s₁.heap H) OM [] s₁ H:=⟨rfl,hM,λb o e=>K9 e,Uj (iY _ _),trivial,λb hb=>absurd (show b∈([]:Aa Ad) from hb) (by simp),hok,.of_eq hg⟩
  refine Px ((F _ hKb (nsK hns)).run OM [] s₁ H ⟨[.ref a],[]⟩ [.ref a] [.ref a] _ _ hr e0 (hbind s₁ (.ref a)) (.cons rfl .nil) (hsp H hT hS)) λr s' h=>?_;cases r with
  |error e=>exact(hCX H e s' h).elim
  |ok fl =>
   cases fl with
   |next=>exact An h
   |brk=>exact An h
   |cont=>exact An h
   |ret u =>
    obtain⟨v,H',os,bare,un,hok',r',q⟩:=h;have q':v=.bl true:=q;subst q';obtain rfl:u=HT true:=r';refine⟨rfl,⟨λb o e=>?_,λb o e=>un.there b o e (by simp)⟩,os,bare⟩
    cases q:H b with
    |none=>exact .inl (un.keep b o e q (by intro z;exact absurd (show b∈([]:Aa Ad) from z) (by simp)) (by simp))
    |some u =>
     rcases hO b with z|⟨ob,xs,z⟩|z
     .rw[q] at z;cases z
     .have z2:=un.frzs b ob _ z
      obtain⟨e1,_⟩:=hok b _ z;obtain⟨e2,_⟩:=hok' b _ z2;rw[e] at e1;cases e1;exact .inl e2
     .obtain⟨more,z2⟩:=un.tbls b _ z
      have e1:s₁.heap.get? b=Ab (Jt #[]):=hok b _ z;have e2:s'.heap.get? b=Ab (Jt (#[] ++ more)):=hok' b _ z2;rw[e] at e1;cases e1;rcases hA b (by rw[q];simp) with e'|⟨x,hx,c,h⟩
      .subst e';rw[ha] at e;cases e
      .exact .inr (.inl ⟨((tbs.at' x hx c b h).1.tab e).isCodeTable,rfl,#[],more,rfl,e2⟩)
 have nT:¬ isT a:=λh=>by
  have z:=(tab a h).1;rw[ha] at z;cases z
 have tT:∀ x∈w4,∀ c T,Dk K x=Ab (c,T)->isT T:=λx hx c T h=>⟨x,hx,c,h⟩;have dec:∀ b,Il (isT b):=λb=>Classical.propDecidable _;cases hk:K.lookup a with
 |some o =>
  have e:=KX a o hk;rw[ha] at e;cases e;refine core (λb=>if isT b then Ab (.tbl #[]) else none) (λb=>?_) (λx hx c T h=>Bc (tT x hx c T h)) (.inr ⟨vs,_,hk,by rw[Ar];exact hl,rv⟩) (λb u z=>?_) (λb z=>?_) λz=>absurd (Aw nT) z
  .by_cases h:isT b
   .exact .inr (.inr (Bc h))
   .exact .inl (Aw h)
  .by_cases h:isT b
   .have z':=(Bc h).symm.trans z
    cases z';exact(tab b h).1
   .have z':=(Aw h).symm.trans z
    cases z'
  .by_cases h:isT b
   .exact .inr h
   .exact absurd (Aw h) z
 |none =>
  refine core (λb=>if b=a then Ab (.frz { cls:=.type "list",data:=.seq vs.toArray } (.lst (ns.map V.int))) else if isT b then Ab (.tbl #[]) else none) (λb=>?_) (λx hx c T h=>?_) (.inl (.inr ⟨{ cls:=.type "list",data:=.seq vs.toArray },Bc rfl⟩)) (λb u z=>?_) (λb z=>?_) λ_=>hk
  .by_cases hb:b=a
   .exact .inr (.inl ⟨_,_,Bc hb⟩)
   .by_cases h:isT b
    .exact .inr (.inr ((Aw hb).trans (Bc h)))
    .exact .inl ((Aw hb).trans (Aw h))
  .have h':=tT x hx c T h
   exact(Aw (λ(z:T=a)=>nT (z▸h'))).trans (Bc h')
  .by_cases hb:b=a
   .have z':=(Bc hb).symm.trans z
    cases z';subst hb;exact⟨ha,by rw[Ar];exact hl,vs,_,rv,ha⟩
   .by_cases h:isT b
    .have z':=((Aw hb).trans (Bc h)).symm.trans z
     cases z';exact(tab b h).1
    .have z':=((Aw hb).trans (Aw h)).symm.trans z
     cases z'
  .by_cases hb:b=a
   .exact .inl hb
   .by_cases h:isT b
    .exact .inr h
    .exact absurd ((Aw hb).trans (Aw h)) z
noncomputable def lQ (q:Bi)(K:Ak):Ap:=w4.all λx=>match Dk K x with
 |none=>true
 |some (_,T)=>((recsOf q).find? λe=>e.name == x).isSome&&((K.lookup T).isNone&&w4.all λy=>match Dk K y with
  |none=>true
  |some (_,U)=>x == y||!decide (T=U))
theorem GV {q:Bi}{mean:ExcName->Al Ac}{h:Bs}{K:Ak}(T:Top q loose mean mg mb h)(X:K.In h)(c:lQ q K=true):Tabs K h:=by
 unfold lQ at c;have g:∀ x∈w4,∀ d U,Dk K x=Ab (d,U)->((recsOf q).find? λe=>e.name == x).isSome=true/\(K.lookup U).isNone=true/\(w4.all λy=>match Dk K y with
  |none=>true
  |some (_,V)=>x == y||!decide (U=V))=true:=λx hx d U e=>by
  have z:=Bt.mp c x hx;rw[e] at z;simpa only [As] using z
 refine⟨λx hx d U e=>?_,λx hx y hy d d' U e1 e2=>?_⟩
 .obtain⟨z1,z2,_⟩:=g x hx d U e
  obtain⟨r,hr⟩:=Ix.mp z1;obtain⟨k1,k2⟩:=PySem.W.tab_of T X hr e;exact⟨k1,k2,by simpa using z2⟩
 .have z:=Bt.mp (g x hx d U e1).2.2 y hy
  rw[e2] at z;simpa using z
theorem GZ {l:Wq}{n k:Af}{q:Bi}{loose:Aa Ao}{XP:(Ao->Al Ac)->Bs->Prop}{YP:Ca->Bs->Prop}{d:DefRec}{K:Params->Ak}{CX:Ca->CXT}{sp:Ca->Sp}{x:Ao}
  (hn:l.most=Ab n) (hn2:n<=sizeLine) (hdf:d.params.defaults=[]) (hr:Room k OM) (ht:∀ p,lQ q (K p)=true)
  (hY:∀ (w:Ca) (h:Bs),YP w h->(K w.params).In h)
  (F:∀ (w:Ca) (mg:Ao->Al Ac) (fa:Ad) (h:Bs),(K w.params).In h->h.Ns Ct mg->mg d.name=Ab (.ref fa) ->
   ∃ fd:Et,(∀ (s:Ah) (u:Ac),Ml s fd ⟨[u],[]⟩ [(x,u)]) /\
    ∀ base:Bs,(K w.params).In base->base.Ns Ct mg->FnOk l.prog w (K w.params) mg base (CX w) k fa fd [x] (sp w))
  (hsp:∀ (w:Ca) (H:Hp) (a:Ad) (ns:Aa Ag),ns.length<=n->Tb0 (K w.params) H->SqX (K w.params) H a (ns.map V.int)->sp w [.ref a] H (λv _=>v=.bl true) λ_ _ _=>Ez)
  (hCX:∀ (w:Ca) (H:Hp) (s:Ah) (e:Ac) (s':Ah),CX w [] H s (λ_ _ _=>Ez) e s'->Ez) :
  Yb q loose XP YP l.row.toRowW d [] (λf vs=>Wv f vs):=by
 refine _A.attach_call hn hdf λw s₀ s₁ mg mb fa o pm cd doc a vs ns G Y ho hd hcd hmg hobj hints hlen hg=>?_;have KX:=hY w _ Y;obtain⟨fd,hb,hF⟩:=F w mg fa _ KX G.T.g hmg;exact W4 KX G.T.g G.T.b G.T.builtins G.T.nolimit hg (let ⟨bm,ob,b1,b2,b3,b4,b5,b6⟩:=G.T.bmain;⟨bm,ob,b1,b2,b3,b4,b5,b6⟩) (GV G.T KX (ht _)) hobj hints (Dd hlen hn2) hr hF hb (λH hT hS=>hsp w H a ns hlen hT hS) λH e s'=>hCX w H s₁ e s'
end _L
namespace _D
open PySem PySem.Spec PyProof.Rows _L
variable {K:Ak}{mg:Ao->Al Ac}
theorem LB {h:Bs}(X:K.In h)(G:h.Ns Ct mg){x:Ao}{st:Fb}{ps:Aa Ao}{f:Ad}{oc:Ac}{od an:Al Ad}{osl:Bj (Al Ac)}{kV doc pm cdv ct:Ac}
  (a:Er K Ct x=Ab (Ab (.ref f)))
  (l:K.lookup f=Ab ⟨oc,od,.func (Fo x x (wN st) (zM st) (qJ st) .none kV doc pm an cdv ct),osl⟩) (c:Js K cdv x=true) (k:Fp K (.ref f)=true)
  (hb:∀ (kV doc pm:Ac) (an:Al Ad) (cdv ct:Ac) (us:Aa Ac),us.length=ps.length->OB (Fo x x (wN st) (zM st) (qJ st) .none kV doc pm an cdv ct) ⟨us,[]⟩=pure (ps.zip us)):Src K mg x st ps:=
 have F:=FI (st:=st) l c k
 ⟨f,_,Tg X G a,F,F.binds hb⟩
noncomputable def lP (K:Ak)(C:Ad):Ap:=
 decide (Lw K (.ref C) "__getattribute__" = Ab (Ab (.builtin "BaseException.__getattribute__")))&&decide (Lw K (.ref C) "__getattr__" = Ab none)
 && decide (Lw K (.ref C) "__class__" = Ab (Ab (.builtin "object.__class__")))&&decide (Sn K C (.type "object")=Ab true)&&decide (Sn K C (.type "BaseException")=Ab true)
 && (PySem.W.clsIn K C).isSome&&decide (Jr K (.ref C) (.type "ValueError")=Ab true)
noncomputable def ZP (K:Ak):Ap:=
 decide (Ur K (.builtin "object.__class__") "__get__" = Ab (Ab (.builtin "getset_descriptor.__get__")))&&decide (Wg K (.builtin "object.__class__")=Ab true)
noncomputable def BA (K:Ak)(cl:Aa Ad):Ap:=cl.all λC=>cl.all λB=>decide (Jr K (.ref C) (.ref B)=Ab (C == B))
theorem BB {cl:Aa Ad}(h1:cl.all (lP K)=true)(h2:ZP K=true)(h3:BA K cl=true):ClsK K cl:=by
 have g:=h2;unfold ZP at g;simp only[As,Aq] at g;have k1:∀ C∈cl,lP K C=true:=Bt.mp h1;refine⟨λC hC=>?_,λC hC B hB=>?_,λC hC=>?_⟩
 .have e:=k1 C hC
  unfold lP at e;simp only[As,Aq] at e;obtain⟨⟨⟨⟨⟨⟨e1,e2⟩,e3⟩,e4⟩,e5⟩,e6⟩,e7⟩:=e;exact⟨e1,e2,e3,g.1,g.2,e4,e5,e6⟩
 .have e:=Bt.mp (Bt.mp h3 C hC) B hB
  exact Bp e
 .have e:=k1 C hC
  unfold lP at e;simp only[As,Aq] at e;exact e.2
noncomputable def ET (K:Ak)(cs:Aa Ac)(A:Ad):Ap:=cs.all λv=>decide (Xh K v (.ref A)=Ab true)
noncomputable def ER (K:Ak)(cs:Aa Ad)(A:Ad):Ap:=cs.all λC=>bS K C A
noncomputable def ES (K:Ak)(cs:Aa Ad):Ap:=cs.all λC=>Fp K (.ref C)
def lH (K:Ak):Sp:=λvs H Q E=>Tb0 K H/\∃ a ns,vs=[.ref a]/\SqX K H a (List.map V.int ns)/\ns.length<=63/\∀ H',Q (.bl true) H'
theorem sL {P:Hp}{α:Aa Ad}:∀ ns:Aa Ag,qB K P α (ns.map D.int) (ns.map V.int)
 |[]=>.nil
 |n::ns=>.cons (by simp only[Rep]) (sL ns)
noncomputable def noT (H:Hp):Hp:=λb=>match H b with
 |some (.tbl _)=>none
 |u=>u
theorem JS {P:Bi}{w:Ca}{fa:Ad}{st:Fb}{k:Af}{x:Ao}(hs:Src K mg "law" st [x])(hfa:mg "law" = Ab (.ref fa))
  (hbd:∀ (kV doc pm:Ac) (an:Al Ad) (cdv ct:Ac) (s:Ah) (v:Ac),Ml s (Fo "law" "law" (wN st) (zM st) (qJ st) .none kV doc pm an cdv ct) ⟨[v],[]⟩ [(x,v)])
  (hall:∀ base:Bs,∃ F,lJ P w K mg base true k "law" [x] F/\∀ ns:Aa Ag,ns.length<=63->∃ S,F [.lst (ns.map D.int)] [] = .ok (.bl true) S) :
  ∃ fd:Et,(∀ (s:Ah) (v:Ac),Ml s fd ⟨[v],[]⟩ [(x,v)])/\∀ base:Bs,K.In base->base.Ns Ct mg->FnOk P w K mg base (CXd P w) k fa fd [x] (lH K):=by
 obtain⟨f,fd,hm,F,hb⟩:=hs;cases hfa.symm.trans hm;refine⟨fd,?_,λbase _ _=>?_⟩
 .obtain⟨oc,od,kV,doc,pm,an,cdv,ct,osl,rfl,_,_⟩:=F.ex
  exact hbd kV doc pm an cdv ct
 .obtain⟨G,⟨f',fd',hm',_,hb',hl,X⟩,hG⟩:=hall base
  cases hm.symm.trans hm';cases hl.one (fV F);refine(X.imp λvs H Q E h=>?_).ok;obtain⟨tb,a,ns,rfl,hS,hl,k⟩:=h;obtain⟨S,e⟩:=hG ns hl;have keep:∀ (b:Ad) (u:HO),H b=Ab u->(∀ ps,u≠.tbl ps)->noT H b=Ab u:=λb u q h=>by
   unfold noT;rw[q];cases u with
   |tbl ps=>exact absurd rfl (h ps)
   |_=>rfl
  have hS':SqX K (noT H) a (List.map V.int ns):=by
   rcases hS with (h|⟨o,h⟩)|h
   .exact .inl (.inl (keep _ _ h λ_ z=>by cases z))
   .exact .inl (.inr ⟨o,keep _ _ h λ_ z=>by cases z⟩)
   .exact .inr h
  have sub:qD (noT H) H:=λb u q=>by
   unfold noT at q;cases z:H b with
   |none=>rw[z] at q;cases q
   |some v =>
    rw[z] at q;cases v with
    |tbl ps=>cases q
    |_=>exact q
  refine⟨rfl,noT H,[],[.lst (ns.map D.int)],[],⟨λx hx c T h=>⟨#[],tb x hx c T h,by unfold noT;rw[tb x hx c T h],by simp,trivial,λpos cv z=>by cases z⟩,sub,rfl,.nil,by simp,by simp,by simp⟩,.cons (tQ hS' (sL ns)) .nil,?_⟩
  rw[e];intro v H' P' α' _ _ _ rv;simp only[Rep] at rv;subst rv;exact k H'
theorem RW {l:Wq}{q:Bi}{loose:Aa Ao}{XP:(Ao->Al Ac)->Bs->Prop}{YP:Ca->Bs->Prop}{d:DefRec}{K:Params->Ak}{k:Af}{x:Ao}(hn:l.most=Ab 63)(hdf:d.params.defaults=[])(hr:Room k OM)(ht:∀ p,lQ q (K p)=true)
  (hY:∀ (w:Ca) (h:Bs),YP w h->(K w.params).In h)
  (F:∀ (w:Ca) (mg:Ao->Al Ac) (fa:Ad) (h:Bs),(K w.params).In h->h.Ns Ct mg->mg d.name=Ab (.ref fa) ->
   ∃ fd:Et,(∀ (s:Ah) (u:Ac),Ml s fd ⟨[u],[]⟩ [(x,u)])/\∀ base:Bs,(K w.params).In base->base.Ns Ct mg->FnOk l.prog w (K w.params) mg base (CXd l.prog w) k fa fd [x] (lH (K w.params))) :
  Yb q loose XP YP l.row.toRowW d [] (λf vs=>Wv f vs):=
 _L.GZ (n:=63) (k:=k) (x:=x) (CX:=λw=>CXd l.prog w) (sp:=λw=>lH (K w.params)) hn (by decide) hdf hr ht hY F (λ_ _ a ns hl hT hS=>⟨hT,a,ns,rfl,hS,hl,λ_=>rfl⟩) λw H s e s' h=>by
  obtain⟨_,_,_,_,_,_,_,_,_,_,_,_,z⟩:=h;exact z
end _D
namespace _D
open PySem
variable {us:Aa Ac}
theorem us0 (h:us.length=0):us=[]:=List.eq_nil_of_length_eq_zero h
theorem usS {n:Af}(h:us.length=n+1):∃ a vs,us=a::vs/\vs.length=n:=by
 cases us with
 |nil=>exact absurd h (by simp)
 |cons a vs=>exact⟨a,vs,rfl,by simpa using h⟩
theorem us1 (h:us.length=1):∃ a,us=[a]:=by
 obtain⟨a,vs,rfl,h'⟩:=usS h;exact⟨a,by rw[us0 h']⟩
theorem us2 (h:us.length=2):∃ a b,us=[a,b]:=by
 obtain⟨a,vs,rfl,h'⟩:=usS h;obtain⟨b,rfl⟩:=us1 h';exact⟨a,b,rfl⟩
theorem us3 (h:us.length=3):∃ a b c,us=[a,b,c]:=by
 obtain⟨a,vs,rfl,h'⟩:=usS h;obtain⟨b,c,rfl⟩:=us2 h';exact⟨a,b,c,rfl⟩
theorem us4 (h:us.length=4):∃ a b c d,us=[a,b,c,d]:=by
 obtain⟨a,vs,rfl,h'⟩:=usS h;obtain⟨b,c,d,rfl⟩:=us3 h';exact⟨a,b,c,d,rfl⟩
end _D
namespace _D
open PySem PySem.Spec PyProof.Rows _L
variable {vs:Aa (Key × V)}{E:Ac->Ah->Prop}{j:Af}{sc:Do}
theorem VO (F:DF):∃ G:DF,G=F:=⟨F,rfl⟩
def sh (F:DF):DF:=Jz (VO F)
theorem zI (F:DF):sh F=F:=Ji (VO F)
noncomputable def isV:Al Gx->Ap
 |some .local => true
 |some .cell=>true
 |some .free=>true
 |_=>false
noncomputable def isL:Al Gx->Ap
 |some .local => true
 |some .cell=>true
 |_=>false
noncomputable def isG:Al Gx->Ap
 |some .globalImplicit=>true
 |_=>false
noncomputable def okN (x:Ao):Ap:=!(x == ("__debug__" : Ao))&&(!(x == ("__classdict__" : Ao))&&!decide (x = "__name__"))
noncomputable def okG (X:Cx)(x:Ao):Ap:=isG (X.env.kindOf x)&&okN x
noncomputable def okB (v:Ac)(x:Ao):Ap:=decide (Fd x=Ab v)
noncomputable def tH (sc:Do):Aa Ao:=sc.names.filterMap λy=>if isL (Ab y.2) then Ab y.1 else none
noncomputable def j8 (sc:Do):Aa Ao:=(sc.names.filterMap λy=>if isL (Ab y.2)&&!(y.1 == (".0" : Ao)) then Ab y.1 else none)++sc.names.filterMap λy=>if y.2 == .free then Ab y.1 else none
def Ck (b:Ap):Prop:=b=true
theorem ck {b:Ap}(h:b=true:=by kernel_rfl):Ck b:=h
structure DfS (F:DF)(P:Bi)(w:Ca)(K:Ak)(mg:Ao->Al Ac)(base:Bs)(cm:Ap)(k:Af)(x:Ao)(n:Af):Prop where
 get:Def P w K mg base cm k x n F
noncomputable def okT (X:Cx)(m:Af)(x:Ao):Ap:=decide (X.N[m]? = Ab x)&&(isL (X.env.scope.names.lookup x)&&(decide X.N.Nodup&&(X.fn x||decide (X.env.scope.names.lookup x=Ab .local))))
noncomputable def okP (X:Cx)(m:Af)(x:Ao):Ap:=decide (X.N[m]? = Ab x)&&decide (X.env.scope.names.lookup x=Ab .local)
noncomputable def cL (scX:Do)(NX:Aa Ao)(scope:Do)(cap:Aa (Al Af)):Ap:=
 decide (scope.kind=.function)&&(decide (∀ y∈scope.names,y.2=.local -> scope.names.lookup y.1=Ab .local)&&(decide (∀ y∈scope.names,y.2=.cell->scope.names.lookup y.1=Ab .cell)&&(decide (∀ y∈scope.names,y.2=.free->scX.names.lookup y.1=Ab .cell\/scX.names.lookup y.1=Ab .free)
 && (decide (∀ y∈scope.names,y.2=.free->scope.names.lookup y.1=Ab .free)&&(decide (cap.length=(j8 scope).length)&&(((cap.zip (j8 scope)).all λp=>match p.1 with|none=>true|some i=>NX[i]? == Ab p.2&&scope.names.lookup p.2 == Ab .free)&&decide (j8 scope).Nodup))))))
noncomputable def fnB (N P:Aa Ao)(sc:Do):Ap:=
 decide (sc.kind=.function)&&(decide (sc.isCoroutine=false)&&(decide (sc.isGenerator=false)&&(decide N.Nodup&&(decide (N.take P.length=P)&&(decide (∀ x∈P,sc.names.lookup x=Ab .local \/ sc.names.lookup x=Ab .cell)&&decide (∀ y∈sc.names,y.2≠.free))))))
theorem ZQ {scX:Do}{NX:Aa Ao}{scope:Do}{cap:Aa (Al Af)}(h:cL scX NX scope cap=true):CompSc scX NX scope (j8 scope) cap:=by
 simp only[cL,As,Aq] at h;obtain⟨a,b,c,d,e,f,g,k⟩:=h;exact⟨a,b,c,d,e,f,g,k⟩
theorem iW {N P:Aa Ao}(h:fnB N P sc=true):FnScope N P sc:=by
 simp only[fnB,As,Aq] at h;obtain⟨a,b,c,d,e,f,g⟩:=h;exact⟨a,b,c,d,e,f,g⟩
section
variable {X:Cx}{a b c e o elt tg iter:Bn}{ifs qE:Aa Bn}{f g:DS}{fa:DE}{f2:DI2}{dg:DG}{t:DT}{kk:DK}{gens grest:Aa Du}{scope:Do}{cap:Aa (Al Af)}{mm:Ap}{l q:Af}{y z:Ao}{G2':G2}{es:Aa Bn}{fA:DA}{x:Ao}{p pos:Eg}{cm:Ap}{k n m:Af}{F:DF}
theorem JG (h:isV (sc.names.lookup x)=true):Vis sc x:=by
 unfold Vis
 revert h
 cases sc.names.lookup x with
 |none=>intro h;cases h
 |some y=>cases y <;> intro h <;> first|cases h;done|exact .inl rfl|exact .inr (.inl rfl)|exact .inr (.inr rfl)
theorem JD (h:isL (sc.names.lookup x)=true):_L.Loc sc x:=by
 unfold _L.Loc
 revert h
 cases sc.names.lookup x with
 |none=>intro h;cases h
 |some y=>cases y <;> intro h <;> first|cases h;done|exact .inl rfl|exact .inr rfl
theorem pD (h:okN x=true):(x == ("__debug__" : Ao))=false/\(x == ("__classdict__" : Ao))=false/\x ≠ "__name__":=by
 unfold okN at h;rw[As,As] at h;exact⟨by simpa using h.1,by simpa using h.2.1,by simpa using h.2.2⟩
theorem yY (h:okG X x=true):Gl X x/\(x == ("__debug__" : Ao))=false/\x ≠ "__name__":=by
 have h:=(As _ _).mp h;refine⟨?_,(pD h.2).1,(pD h.2).2.2⟩;have z:=h.1;unfold Gl
 revert z
 cases X.env.kindOf x with
 |none=>intro z;cases z
 |some y=>cases y <;> intro z <;> first|cases z;done|rfl
theorem dZ (h:okT X m x=true):X.N[m]? = Ab x/\_L.Loc X.env.scope x/\X.N.Nodup/\(X.fn x=true\/X.env.scope.names.lookup x=Ab .local):=by
 simp only[okT,As,Aq,Nn] at h;exact⟨h.1,JD h.2.1,h.2.2⟩
theorem fZ (h:okP X m x=true):X.N[m]? = Ab x/\X.env.scope.names.lookup x=Ab .local:=by
 simp only[okP,As,Aq] at h;exact h
theorem DQ (h:Ck (okG X x)):Gl X x:=(yY h).1
theorem aV (h:Ck (decide (X.N[m]? = Ab x)&&(isV (X.env.scope.names.lookup x)&&okN x))):QE X (.Name x pos) (q9 m):=by
 unfold Ck at h;simp only[As,Aq] at h;exact NI m h.1 (JG h.2.1) (pD h.2.2).1 (pD h.2.2).2.1
theorem aBt {nm:Dt}(h:Ck (okG X x))(hm:X.mg x=none)(hb:Ck (okB (.type nm) x)):QE X (.Name x pos) (dC (.ty nm)):=
 have h:=yY h
 KQ h.1 hm (Bp hb) h.2.2 h.2.1
theorem aGi {v:Ag}(h:Ck (okG X x))(hm:∃ t,X.mg x=Ab (.int v t)):QE X (.Name x pos) (dC (.int v)):=
 have h:=yY h
 KR h.1 hm h.2.1
abbrev St1 (X:Cx)(e:Bn)(es:Aa Bn)(pos:Eg):Prop:=Bl (e::es) X.env=(false,eval e X.env)::Bl es X.env/\(Ft pos (Bl es X.env)).any (·.1)=false
theorem aN (G:DfS F X.prog X.w X.K X.mg X.base cm k x n)(hr:RoomC cm k X.A)(hF:Fn1 X)(h:Ck (okG X x))(ha:QA X (e::es) fA)(s:St1 X e es pos):QE X (.Call (.Name x p) (e::es) [] pos) (qK n F fA):=
 have h:=yY h
 qcN G.1 hr hF h.1 ha h.2.1 s.1 s.2
theorem aO (G:DfS F X.prog X.w X.K X.mg X.base cm k x n)(hr:RoomC cm k X.A)(h:Ck (okG X x))(ha:QA X (e::es) fA)(s:St1 X e es pos):QE X (.Call (.Name x p) (e::es) [] pos) (qK n (okO F) fA):=
 have h:=yY h
 qcO G.1 hr h.1 ha h.2.1 s.1 s.2
theorem aB {id:Dt}(hc:ZCall X (.builtin id) F)(h:Ck (okG X x))(hm:X.mg x=none)(hb:Ck (okB (.builtin id) x))(ha:QA X (e::es) fA)(s:St1 X e es pos):QE X (.Call (.Name x p) (e::es) [] pos) (qX F fA):=
 have h:=yY h
 WU hc h.1 hm (Bp hb) ha h.2.2 h.2.1 s.1 s.2
theorem aT {T:Dt}(hc:ZCall X (.type T) F)(h:Ck (okG X x))(hm:X.mg x=none)(hb:Ck (okB (.type T) x))(ha:QA X (e::es) fA)(s:St1 X e es pos):QE X (.Call (.Name x p) (e::es) [] pos) (qX F fA):=
 have h:=yY h
 Q4 hc h.1 hm (Bp hb) ha h.2.2 h.2.1 s.1 s.2
theorem aC (S:Ck (cL X.env.scope X.N scope cap))(hc:X.calm=true)(hi:QI2 X tg iter f2)(hg:∀ cl C ex s₀ H₀,QG (zG X (j8 scope) scope cl C ex s₀ H₀) tg dg)(ht:∀ cl C ex s₀ H₀,QTs (zG X (j8 scope) scope cl C ex s₀ H₀) ifs t)
  (has:∀ g',(⟨tg,iter,ifs,0⟩::grest:Aa Du)[0+1]? = Ab g'->g'.is_async=0)
  (he:∀ cl C ex s₀ H₀,QK accL (zG X (j8 scope) scope cl C ex s₀ H₀) (λacc=>xQ false elt (⟨tg,iter,ifs,0⟩::grest) scope pos 0 acc (zG X (j8 scope) scope cl C ex s₀ H₀).env) kk) (hs:∀ x,Fj iter X.env x=pure x) :
  QE X (.ListComp elt (⟨tg,iter,ifs,0⟩::grest) scope pos) (zY mm cap f2 dg t kk):=WW hc (ZQ S) hi hg ht has he hs
theorem aNm (h:Ck (okT X m x)):QG X (.Name x pos) (gNm m):=
 have h:=dZ h
 KW h.2.2.1 h.1 h.2.1 h.2.2.2
theorem aSt {pos':Eg}(hs:Rb e (Ab (.Name x pos')) pos.line X.env=pure false)(he:QE X e fa)(h:Ck (okT X m x)):QS X (.Assign [.Name x pos'] e pos) (qR fa (gNm m)):=
 have h:=dZ h
 NV h.2.2.1 he h.1 h.2.1 hs h.2.2.2
theorem aAu {op:Mb}{pos':Eg}(h:Ck (okT X m x))(he:QE X e fa)(ho:ZIp X op G2'):QS X (.AugAssign (.Name x pos') op e pos) (wX m G2' fa):=
 have h:=dZ h
 NR h.2.2.1 he ho h.1 h.2.1 h.2.2.2
theorem aP2 {px py pt:Eg} {kt k2 pt2} (h:Ck (decide X.N.Nodup&&(okP X m x&&(okP X l y&&!decide (m=l))))) (hc:X.calm=true) (ha:QA X [a,b] fA)
  (hw:Ki [.Tuple [.Name x px,.Name y py] kt pt] (.Tuple [a,b] k2 pt2) X.env=pure (Ab [x,y])) (hs:Kj [.Tuple [.Name x px,.Name y py] kt pt] (.Tuple [a,b] k2 pt2) pos.line X.env=pure false) :
  QS X (.Assign [.Tuple [.Name x px,.Name y py] kt pt] (.Tuple [a,b] k2 pt2) pos) (tU m l fA):=by
 unfold Ck at h;simp only[As,Aq,Jh,Hj] at h;exact NT hc h.1 ha (fZ h.2.1).1 (fZ h.2.2.1).1 h.2.2.2 (fZ h.2.1).2 (fZ h.2.2.1).2 hw hs
theorem aRs {C:Ad}{np cpos:Eg}(h:Ck (okG X x))(hc:X.calm=true)(hF:Fn1 X)(hm:∃ Ae,X.mg x=Ab (.ref C)/\bS X.K C Ae=true)(ha:QA X (e::qE) fA)(s:St1 X e qE cpos) :
  QS X (.Raise (Ab (.Call (.Name x np) (e::qE) [] cpos)) none pos) (pG (.ref C) fA):=
 have h:=yY h
 let ⟨_,hm,hx⟩:=hm
 Y1 hc hF h.1 hm hx ha h.2.1 s.1 s.2
end
structure TxS (K:Ak)(mg:Ao->Al Ac)(tp:Af->Fb)(tab:Aa (Ao × Af × Aa Ao))(bl:Aa Ao)(clt plt:Aa (Ao × Ad))(cs:Aa Ac)(exl:Aa Ad)(cst:Aa (Ao × Ag)):Prop where
 src:∀ (j:Af) {x:Ao} {i:Af} {ps:Aa Ao},tab[j]? = Ab (x,i,ps)->Src K mg x (tp i) ps
 nb:∀ {x:Ao},Ck (bl.contains x)->mg x=none
 cl:∀ {x:Ao} {C:Ad},clt.lookup x=Ab C->mg x=Ab (.ref C)/\Fp K (.ref C)=true
 rz:∀ {x:Ao} {C:Ad},plt.lookup x=Ab C->∃ Ae,mg x=Ab (.ref C)/\bS K C Ae=true
 ct:∃ C0,mg "FarError" = Ab (.ref C0)/\∀ c∈cs,Xh K c (.ref C0)=Ab true
 cls:ClsK K exl
 gi:∀ {x:Ao} {v:Ag},cst.lookup x=Ab v->∃ t,mg x=Ab (.int v t)
section
variable {K:Ak}{mg:Ao->Al Ac}{cm:Ap}{tp:Af->Fb}{tab:Aa (Ao × Af × Aa Ao)}{bl:Aa Ao}{clt plt:Aa (Ao × Ad)}{cs:Aa Ac}{exl:Aa Ad}{cst:Aa (Ao × Ag)}{x:Ao}{i m:Af}{ps:Aa Ao}{F:DF}{g:DS}
theorem dq (P:Bi)(w:Ca)(base:Bs)(k j:Af)(T:TxS K mg tp tab bl clt plt cs exl cst)(hj:tab[j]? = Ab (x,i,ps))(h:Ck (fnB (tH (qJ (tp i))) ps (qJ (tp i))&&decide ((tH (qJ (tp i))).length=m)))(hF:F=qO m g)
  (hb:∀ (f:Ad) (cdv:Ac) (A:Br) (outer:Aa Iw) (s:Ah) (H:Hp) (E:XK),kF K x cdv->RoomC cm k (A.deeper (Gb x (qJ (tp i)) s.heap.objs.size f cdv)) ->
   QB (cxC cm P w K mg base (tH (qJ (tp i))) x (qJ (tp i)) f cdv A outer s H E) (zM (tp i)) g):DfS F P w K mg base cm (k+1) x ps.length:=by
 unfold Ck at h;simp only[As,Aq] at h;obtain⟨h,rfl⟩:=h;exact⟨hF▸EU (T.src j hj) (iW h) rfl hb⟩
theorem dqP {P:Bi}{w:Ca}{base:Bs}(k j:Af)(T:TxS K mg tp tab bl clt plt cs exl cst)(hj:tab[j]? = Ab (x,i,ps))(h:Ck (fnB (tH (qJ (tp i))) ps (qJ (tp i))&&decide ((tH (qJ (tp i))).length=m)))
  (hb:∀ (f:Ad) (cdv:Ac) (A:Br) (outer:Aa Iw) (s:Ah) (H:Hp) (E:XK),kF K x cdv->RoomC cm k (A.deeper (Gb x (qJ (tp i)) s.heap.objs.size f cdv)) ->
   QB (cxC cm P w K mg base (tH (qJ (tp i))) x (qJ (tp i)) f cdv A outer s H E) (zM (tp i)) g):lJ P w K mg base cm (k+1) x ps (qO m g):=by
 unfold Ck at h;simp only[As,Aq] at h;obtain⟨h,rfl⟩:=h;exact D9 (T.src j hj) (iW h) rfl hb
end
theorem hv {a b:Prop}(f:a->b)(h:a):b:=f h
inductive SrcF (K:Ak)(x:Ao)(st:Fb)(ps:Aa Ao):Prop
 |mk {f:Ad} {oc:Ac} {od an:Al Ad} {osl:Bj (Al Ac)} {kV doc pm cdv ct:Ac} (a:Er K Ct x=Ab (Ab (.ref f)))
  (l:K.lookup f=Ab ⟨oc,od,.func (Fo x x (wN st) (zM st) (qJ st) .none kV doc pm an cdv ct),osl⟩) (c:Js K cdv x=true) (k:Fp K (.ref f)=true):SrcF K x st ps
def cE (K:Ak)(tp:Af->Fb):Aa (Ao × Af × Aa Ao)->Prop
 |[]=>NE
 |(x,i,ps)::t=>SrcF K x (tp i) ps/\cE K tp t
def BdF (tp:Af->Fb):Aa (Ao × Af × Aa Ao)->Prop
 |[]=>NE
 |(x,i,ps)::t=>(∀ (kV doc pm:Ac) (an:Al Ad) (cdv ct:Ac) (us:Aa Ac),us.length=ps.length->OB (Fo x x (wN (tp i)) (zM (tp i)) (qJ (tp i)) .none kV doc pm an cdv ct) ⟨us,[]⟩=pure (ps.zip us))/\BdF tp t
def cA (K:Ak):Aa (Ao × Ad)->Prop
 |[]=>NE
 |(x,C)::t=>Er K Ct x=Ab (Ab (.ref C))/\cA K t
def cB (K:Ak):Aa (Ao × Ag)->Prop
 |[]=>NE
 |(x,v)::t=>(∃ k,Er K Ct x=Ab (Ab (.int v k)))/\cB K t
noncomputable def HB:Al (Al Ac)->Ap
 |some none=>true
 |_=>false
section
variable {K:Ak}{h:Bs}{mg:Ao->Al Ac}{tp:Af->Fb}
theorem hZ (X:K.In h)(G:h.Ns Ct mg):∀ (tab:Aa (Ao × Af × Aa Ao)),cE K tp tab->BdF tp tab->∀ (j:Af) {x:Ao} {i:Af} {ps:Aa Ao},tab[j]? = Ab (x,i,ps)->Src K mg x (tp i) ps
 |[],_,_,_,_,_,_,e=>by cases e
 |(x,i,ps)::t,H,B,0,_,_,_,e=>by
  cases e;obtain⟨a,l,c,k⟩:=H.1;exact LB X G a l c k B.1
 |(x,i,ps)::t,H,B,j+1,_,_,_,e=>hZ X G t H.2 B.2 j e
theorem wG {β:Type}{p:Ao->β->Prop}{x:Ao}{C:β}:∀ {l:Aa (Ao × β)},(∀ y∈l,p y.1 y.2)->l.lookup x=Ab C->p x C
 |[],_,e=>by cases e
 |(y,b)::t,H,e=>by
  rw[IF] at e;cases q:x == y with
  |true =>
   rw[q] at e;cases e;rw[eq_of_beq q];exact H (y,_) (.head _)
  |false =>
   rw[q] at e;exact wG (λz hz=>H z (.tail _ hz)) e
theorem pR (X:K.In h)(G:h.Ns Ct mg):∀ {l:Aa (Ao × Ad)},cA K l->∀ y∈l,mg y.1=Ab (.ref y.2)
 |(x,C)::t,H,y,hy=>by
  rcases Bg.mp hy with rfl|hy
  .exact Tg X G H.1
  .exact pR X G H.2 y hy
theorem rK (X:K.In h)(G:h.Ns Ct mg):∀ {l:Aa (Ao × Ag)},cB K l->∀ y∈l,∃ k,mg y.1=Ab (.int y.2 k)
 |(x,C)::t,H,y,hy=>by
  rcases Bg.mp hy with rfl|hy
  .obtain⟨k,e⟩:=H.1
   exact⟨k,Tg X G e⟩
  .exact rK X G H.2 y hy
theorem RQ {tab:Aa (Ao × Af × Aa Ao)}{bl:Aa Ao}{clt plt:Aa (Ao × Ad)}{cs:Aa Ac}{exl:Aa Ad}{cst:Aa (Ao × Ag)}{far:Ad}(B:BdF tp tab)(hp:∀ y∈plt,y∈clt)(hf:clt.lookup ("FarError" : Ao)=Ab far)(X:K.In h)(G:h.Ns Ct mg)
  (s:cE K tp tab) (z:(bl.all λx=>HB (Er K Ct x))=true) (q:cA K clt) (g:cB K cst) (e1:exl.all (lP K)=true) (e2:ZP K=true) (e3:BA K exl=true) (e4:ET K cs far=true) (e5:ER K (plt.map (·.2)) far=true) (e6:ES K (clt.map (·.2))=true):TxS K mg tp tab bl clt plt cs exl cst where
 src:=hZ X G tab s B
 nb:=λ{x} hx=>by
  have e:=Bt.mp z x (by simpa using Rj.mp hx)
  refine PySem.W.mg_none_of X G ?_
  revert e
  cases Er K Ct x with
  |none=>intro e;cases e
  |some y=>cases y with
   |none=>intro _;rfl
   |some y=>intro e;cases e
 cl:=λh=>⟨wG (p:=λx C=>mg x=Ab (.ref C)) (pR X G q) h,wG (p:=λ_ C=>Fp K (.ref C)=true) (λy hy=>Bt.mp e6 y.2 (Oe hy)) h⟩
 rz:=λh=>⟨far,wG (p:=λx C=>mg x=Ab (.ref C)) (λy hy=>pR X G q y (hp y hy)) h,wG (p:=λ_ C=>bS K C far=true) (λy hy=>Bt.mp e5 y.2 (Oe hy)) h⟩
 ct:=⟨far,wG (p:=λx C=>mg x=Ab (.ref C)) (pR X G q) hf,λv hv=>Bp (Bt.mp e4 v hv)⟩
 cls:=BB e1 e2 e3
 gi:=λh=>wG (p:=λx v=>∃ k,mg x=Ab (.int v k)) (rK X G g) h
end
structure LamT where
 qual:Ao
 params:Kl
 body:Bn
 scope:Do
noncomputable def u6 (sc:Do):Aa Ao:=sc.names.filterMap λy=>if y.2 == .free then Ab y.1 else none
inductive CloAt (h:Bs)(H:Hp)(fs:Aa Ad)(L:LamT)(a:Ad)(cv:Aa V):Prop
 |mk (cl:Aa (Ao × Ad)) (pm ctv:Ac) (c:Ad) (oc:Cg) (ws:Bj Ac) (t:Qk) (o:h.get? a=Ab (Lc "<lambda>" L.qual L.params L.body L.scope cl pm c ctv)) (hc:H c=Ab (.frz oc (.frz oc (.own 0)))) (hd:oc.data=.fields ws) (ht:ws[1]? = Ab (.str L.qual t))
  (inj:∀ x y d,cl.lookup x=Ab d->cl.lookup y=Ab d->x=y) (cel:∀ x d,cl.lookup x=Ab d->H d=none/\∃ v,h.IsCell d v) (has:∀ x,L.scope.names.lookup x=Ab .free->∃ d,cl.lookup x=Ab d)
  (len:cv.length=(u6 L.scope).length) (val:∀ (j:Af) x v,(u6 L.scope)[j]? = Ab x->cv[j]? = Ab v->∃ d u,cl.lookup x=Ab d/\qF v u/\h.IsCell d (Ab u)) (hn:H a=none) (hf:a ∉ fs):CloAt h H fs L a cv
theorem CloAt.at {X:Cx}{pins:Aa (Ad × Cg)}{σ:_L.St}{H:Hp}{s:Ah}{L:LamT}{a:Ad}{cv:Aa V}(C:CloAt X.s₀.heap X.H₀ X.fs L a cv)(F:Fn1 X)(I:Inv X pins σ H s):CloAt s.heap H (frs X.stack) L a cv:=by
 obtain⟨cl,pm,ctv,c,oc,ws,t,o,hc,hd,ht,inj,cel,has,len,val,hn,hf⟩:=C;have nx:∀ b,b ∉ X.ex:=λb=>by rw[F.1];simp
 have nf:∀ b o,X.s₀.heap.get? b=Ab o->b ∉ X.fs->b ∉ frs X.stack:=λb o e n z=>(F.mem.mp z).elim (Cn (Bd (Ay e) I.ok.above)) n;have kc:∀ d v,X.H₀ d=none->X.s₀.heap.IsCell d v->s.heap.IsCell d v:=λd v h1 ⟨o,e,q⟩=>let ⟨_,z⟩:=I.base.any e h1 (nx d);⟨_,z,q⟩
 refine⟨cl,pm,ctv,c,oc,ws,t,I.base.keep a _ o hn hf (nx a),I.base.frzs _ _ _ hc,hd,ht,inj,λx d e=>?_,has,len,λj x v e1 e2=>?_,I.base.free a _ o hn (nx a),nf a _ o hf⟩
 .obtain⟨h1,v,h3⟩:=cel x d e
  obtain⟨ob,e3,q⟩:=id h3;exact⟨I.base.free d ob e3 h1 (nx d),v,kc d v h1 h3⟩
 .obtain⟨d,u,q1,q2,q3⟩:=val j x v e1 e2
  exact⟨d,u,q1,q2,kc d _ (cel x d q1).1 q3⟩
structure LamSc (L:LamT)(ps:Aa Ao):Prop where
 kind:L.scope.kind=.function
 co:L.scope.isCoroutine=false
 gen:L.scope.isGenerator=false
 nocell:∀ y∈L.scope.names,y.2≠.cell
 par:∀ x∈ps,L.scope.names.lookup x=Ab .local
 one:ps.length<=1
 fr:∀ x∈u6 L.scope,L.scope.names.lookup x=Ab .free
theorem rD {i:Af}{c:Ac}(l:Aa Ac)(h:Kn l):Kn (l++[Ga i,Ga j,c]):=by
 fun_induction Kn l with
 |case1=>simp[Kn,Ga]
 |case2 _ _ _ _ _ qE ih=>simp only[Wa,Kn];exact ih h
 |case3=>exact An h
set_option tactic.hygienic true in
theorem i7 {pos:Eg}{i:Af}{c v:Ac}(l:Aa Ac)(h:Kn l)(e:Nm pos (l++[Ga i,Ga j,c])=Ab v):Nm pos l=Ab v\/v=c:=by
 fun_induction Kn l with
 |case1 =>
  simp only[Ja,Nm,Ga] at e
  split at e
  .exact .inr (Cj e).symm
  .cases e
 |case2 _ _ _ _ _ qE ih =>
  simp only[Wa,Nm] at e ⊢
  split at e
  .rename_i hc;rw[Bc hc];exact .inl e
  .rename_i hc;rw[Aw hc];exact ih h e
 |case3=>exact An h
theorem MOk.at {K:Ak}{H H' P:Hp}{α:Aa Ad}{a:Ad}(e:H' a=H a):∀ {o:MO},MOk K H P α a o->MOk K H' P α a o
 |.dead,_=>trivial
 |.lst _,⟨vs,q,r⟩=>⟨vs,e.trans q,r⟩
 |.dct _,⟨vs,q,r⟩=>⟨vs,e.trans q,r⟩
 |.dcT _,⟨vs,q,r⟩=>⟨vs,e.trans q,r⟩
 |.ins _ _,⟨dx,vs,q,r⟩=>⟨dx,vs,e.trans q,r⟩
section
variable {X:Cx}{pins:Aa (Ad × Cg)}{σ : _L.St}{H P:Hp}{α : Aa Ad}{s:Ah}{S:Sto}{y:Ao}{c T:Ad}
theorem Rel.grown {ps:Bj Ac}{c':Ad}{oc:Cg}{ws:Bj Ac}{t:Qk}{i:Af}(r:Rel X.K H P α S)(m:Mod X.K X.mg X.base)(hy:y∈w4)(ht:Dk X.K y=Ab (c,T))(e:H T=Ab (.tbl ps))(pn:P T=none)(an:T ∉ α)(ok:Kn ps.toList)
  (cd:∀ pos cv,Nm pos ps.toList=Ab cv->∃ c oc vs t,cv=.ref c/\H c=Ab (.frz oc (.frz oc (.own 0)))/\oc.data=.fields vs/\vs[1]? = Ab (.str (y ++ ".<locals>." ++ "<lambda>") t)) (hn:H c'=none) (hd:oc.data=.fields ws) (hs:ws[1]? = Ab (.str (y ++ ".<locals>." ++ "<lambda>") t)) :
  Rel X.K (upd (upd H T (.tbl (ps++#[Ga i,Ga j,.ref c']))) c' (.frz oc (.frz oc (.own 0)))) P α S:=by
 have ne:T≠c':=qT e hn;have go:∀ b u,b≠T->H b=Ab u->upd (upd H T (.tbl (ps++#[Ga i,Ga j,.ref c']))) c' (.frz oc (.frz oc (.own 0))) b=Ab u:=λb u h q=>by rw[qG (qT q hn),qG h];exact q
 have nT:∀ b∈α,b≠T:=λb h z=>an (z▸h);have nc:∀ (k:Af) b,α[k]? = Ab b->b≠c':=λk b h z=>r.own k b h (z▸hn);have at':∀ (k:Af) b,α[k]? = Ab b->upd (upd H T (.tbl (ps++#[Ga i,Ga j,.ref c']))) c' (.frz oc (.frz oc (.own 0))) b=H b:=λk b h=>by rw[qG (nc k b h),qG (nT b (Ec h))]
 refine⟨λx hx d U hU=>?_,λb u q=>go b u (λz=>by rw[z,pn] at q;cases q) (r.sub b u q),r.len,r.nd,r.sep,λk b o h1 h2=>MOk.at (at' k b h1) (r.at' k b o h1 h2),λk b h=>by rw[at' k b h];exact r.own k b h⟩
 by_cases hT:U=T
 .subst hT
  cases m.inj x hx y hy d c U hU ht;refine⟨_,by rw[qG ne];exact qV,pn,an,?_,λpos cv q=>?_⟩
  .rw[Dh];exact rD _ ok
  .rw[Dh] at q
   rcases i7 _ ok q with q|q
   .obtain⟨d,od,vs,t,a1,a2,a3⟩:=cd pos cv q
    exact⟨d,od,vs,t,a1,go d _ (λz=>by rw[z,e] at a2;cases a2) a2,a3⟩
   .exact⟨c',oc,ws,t,q,qV,hd,hs⟩
 .obtain⟨qs,e1,p1,a1,ok1,cd1⟩:=r.tb x hx d U hU
  exact⟨qs,go U _ hT e1,p1,a1,ok1,λpos cv q=>let ⟨d,od,vs,t,b1,b2,b3⟩:=cd1 pos cv q;⟨d,od,vs,t,b1,go d _ (λz=>by rw[z,e] at b2;cases b2) b2,b3⟩⟩
theorem Inv.pinned {a:Ad}{o:Cg}{h':Bs}{tk:Af}{H':Hp}(I:Inv X pins σ H' { s with heap:=h'.push o,toks:=tk })(ha:a=h'.objs.size)(hs:s.heap.objs.size<=h'.objs.size)(I0:Inv X pins σ H s)(hn:H' a=none)(hd:∀ v,o.data≠.cell v)(hfr:o.isFreed=false:=by rfl):Inv X ((a,o)::pins) σ H' { s with heap:=h'.push o,toks:=tk }:=by
 refine I.pins_of λp hp=>?_;rcases Bg.mp hp with rfl|hp
 .subst ha
  exact⟨Be _ hfr,hn,Ia (Bd I0.lt hs),I0.nofs hs,hd⟩
 .exact I.pin p (Bx _ hp)
theorem W3 {M:Lz}{params:Kl}{body:Bn}{scope:Do}{lpos:Eg}{cl:Aa (Ao × Ad)}{Q:Ac->Ah->Prop}(I:Inv X pins σ H s)(r:Rel X.K H P α S)(hy:y∈w4)(ht:Dk X.K y=Ab (c,T))(hc:X.env.code=.ref c)(hq:X.env.qual=y ++ ".<locals>.")
  (hdef:Xa params X.env=([],[])) (hcl:Pi scope X.env=pure cl)
  (h:∀ (a:Ad) (H':Hp) (s':Ah) (pm ctv:Ac) (c':Ad) (oc:Cg) (ws:Bj Ac) (t:Qk),Inv X ((a,Lc "<lambda>" (y ++ ".<locals>." ++ "<lambda>") params body scope cl pm c' ctv)::pins) σ H' s'->Rel X.K H' P α S ->
   H' c'=Ab (.frz oc (.frz oc (.own 0)))->oc.data=.fields ws->ws[1]? = Ab (.str (y ++ ".<locals>." ++ "<lambda>") t)->Q (.ref a) s'):Av M X.A (eval (.Lambda params body scope lpos) X.env) Q E s:=by
 obtain⟨ps,e,pn,an,ok,cd⟩:=r.tb y hy c T ht;have hP:s.heap.get? T=Ab (Jt ps):=I.hok T _ e;have hC:Ru s.heap c T:=(I.mod.code y hy c T ht).keeps I.bk;have hg:s.heap.Ns Ct X.mg:=I.mod.glob.keeps I.bk;have hgP:Ct≠T:=λz=>by
  obtain⟨o,es,ep,e1,d1,_⟩:=hg;rw[z,hP] at e1;cases e1;cases d1
 have hb:s.heap.BuiltinsAt X.mg T:=by
  obtain⟨bm,o,b1,b2,b3,b4,b5,b6⟩:=I.mod.bm;have b3':=I.bk _ _ b3;refine⟨bm,o,b1,b2,λz=>?_,λz=>?_,b3',b4,b5,b6⟩
  .obtain⟨o',es,ep,e1,d1,_⟩:=hg
   rw[<- z,b3'] at e1;cases e1;rw[b6] at d1;cases d1
  .rw[z,hP] at b3';cases b3';cases b4
 refine PySem.W.kla_eval hdef ?_;rw[hq];cases hf:Nm lpos ps.toList with
 |none =>
  refine PySem.W.kla_makeFunction (mg:=X.mg) hcl I.ok.glob hg hc hC hP ok hf hgP hb λc' ctv h' tk hx hge hlt hrec htb=>?_;obtain⟨c2,oc,ws,t,z,hoc,hd,hs⟩:=hrec;cases z;have hn:H c'=none:=I.hok.fresh hge;have ne:T≠c':=qT e hn;have hsz:s.heap.objs.size<=h'.objs.size:=Dd hge (Dz hlt)
  let o:=Lc "<lambda>" (y ++ ".<locals>." ++ "<lambda>") params body scope cl ((X.mg "__name__").getD .none) c' ctv
  have kp:∀ b u,b≠T->s.heap.get? b=Ab u->(h'.push o).get? b=Ab u:=λb u hb q=>Aj _ (hx b u hb q);have eT:(h'.push o).get? T=Ab (Jt (ps++#[Ga lpos.line,Ga lpos.col,.ref c'])):=Aj _ htb
  let H2:=upd (upd H T (.tbl (ps++#[Ga lpos.line,Ga lpos.col,.ref c']))) c' (.frz oc (.frz oc (.own 0)))
  have go:∀ b u,b≠T->H b=Ab u->H2 b=Ab u:=λb u h q=>by show upd _ _ _ b=_;rw[qG (qT q hn),qG h];exact q
  have go0:∀ b,b≠T->b≠c'->H b=none->H2 b=none:=λb h h' q=>by show upd _ _ _ b=_;rw[qG h',qG h];exact q
  have nT:∀ b,H b=none->b≠T:=λb q z=>by rw[z,e] at q;cases q
  have eH:H2 T=Ab (.tbl (ps++#[Ga lpos.line,Ga lpos.col,.ref c'])):=by show upd _ _ _ T=_;rw[qG ne];exact qV
  have un:Un X.fs [] H H2 s.heap (h'.push o):=by
   refine⟨λb u q n _ _=>kp b u (nT b n) q,λb u q n _ _=>⟨u.slots,kp b u (nT b n) q⟩,λb u q n _=>go0 b (nT b n) (Cn (Bd (Ay q) hge)) n,λb u q _=>?_,λb xs q=>go b _ (λz=>by rw[z,e] at q;cases q) q,λb u xs q=>go b _ (λz=>by rw[z,e] at q;cases q) q,λb qs q=>?_⟩
   .by_cases hb:b=T
    .rw[hb];exact⟨_,eT⟩
    .exact⟨u,kp b u hb q⟩
   .by_cases hb:b=T
    .rw[hb,e] at q;cases q
     exact⟨_,by rw[hb];exact eH⟩
    .exact⟨#[],by rw[go b _ hb q];simp⟩
  have hok:HOk X.prog X.w H2 (h'.push o):=λb u q=>by
   by_cases hb:b=c'
   .have q':Ab (HO.frz oc (.frz oc (.own 0)))=Ab u:=by rw[<- q,hb];exact qV.symm
    cases q';have z:(h'.push o).get? b=Ab oc:=by rw[hb];exact Aj _ hoc
    exact⟨z,z,_,z⟩
   .by_cases hb2:b=T
    .rw[hb2,eH] at q;cases q
     rw[hb2];exact eT
    .have q':H b=Ab u:=by have q2:upd _ _ _ b=Ab u:=q;rw[qG hb,qG hb2] at q2;exact q2
     refine(I.hok b u q').stay (λd v hd q=>kp d v ?_ q) (λd q=>go d _ (λz=>by rw[z,e] at q;cases q) q) λd xs q=>go d _ (λz=>by rw[z,e] at q;cases q) q
     rcases hd with z|z
     .rw[z];exact hb2
     .intro w;rw[w,e] at z;cases z
  have I2:=I.un (t':=tk) un hok;refine h h'.objs.size H2 _ _ ctv c' oc ws t (Inv.pinned I2 rfl hsz I (go0 _ (λz=>?_) (Ia hlt) (I.hok.fresh hsz)) λv z=>by cases z) (r.grown I.mod hy ht e pn an ok cd hn hd hs) qV hd hs
  rw[<- z] at e;exact absurd (Bd (I.hok.lt e) hsz) (Di _)
 |some cv =>
  obtain⟨c',oc,ws,t,rfl,a2,a3,a4⟩:=cd lpos cv hf;refine PySem.W.kla_makeFunctionHit (mg:=X.mg) hcl I.ok.glob hg hc hC hP ok hf hb λctv h' tk hk hsz=>?_;have I2:=I.kept (t':=tk) (h':=h'.push (Lc "<lambda>" (y ++ ".<locals>." ++ "<lambda>") params body scope cl ((X.mg "__name__").getD .none) c' ctv)) λb u q=>Aj _ (hk b u q);exact h h'.objs.size H _ _ ctv c' oc ws t (Inv.pinned I2 rfl hsz I (I.hok.fresh hsz) λv z=>by cases z) r a2 a3 a4
end
noncomputable def dN (scX:Do)(NX:Aa Ao)(sc:Do)(cap:Aa Af):Ap:=decide ((u6 sc).length=cap.length)&&(cap.zip (u6 sc)).all λp=>NX[p.1]? == Ab p.2&&(scX.names.lookup p.2 == Ab .cell||scX.names.lookup p.2 == Ab .free)
section
variable {X:Cx}{pins:Aa (Ad × Cg)}{σ : _L.St}{H P:Hp}{α : Aa Ad}{s:Ah}{S:Sto}{y x:Ao}{c T:Ad}{params:Kl}{body:Bn}{scope:Do}{lpos p pos:Eg}{es:Aa Bn}{fa:DA}{nx cm:Ap}{k kl m n N:Af}{cap:Aa Af}{G:Aa D->DF}{g:(Aa D->DF)->Ad->Aa V->DS}
theorem oG {z:Ao × Gx}(h:z∈sc.names)(hk:z.2=.free):z.1∈u6 sc:=Lh.mpr ⟨z,h,by rw[hk];rfl⟩
theorem JQ (hB:dN X.env.scope X.N scope cap=true){j:Af}{z:Ao}(h:(u6 scope)[j]? = Ab z):∃ i,cap[j]? = Ab i/\X.N[i]? = Ab z/\(X.env.scope.names.lookup z=Ab .cell\/X.env.scope.names.lookup z=Ab .free):=by
 simp only[dN,As,Aq] at hB;obtain⟨hl,ha⟩:=hB;have hj:j<cap.length:=by rw[<- hl];exact(Az.mp h).1
 have e:=Am hj;have hz:(cap[j],z)∈cap.zip (u6 scope):=Ms.mpr ⟨j,by rw[OP];exact⟨e,h⟩⟩
 have q:=Bt.mp ha _ hz;simp only[As,Nn,Sy] at q;exact⟨_,e,q.1,q.2⟩
theorem W0 (hB:dN X.env.scope X.N scope cap=true)(ok:X.Ok):Pi scope X.env=pure (yA X.env.cells scope.names []):=gO λz hz hk=>by
 obtain⟨j,hj⟩:=Ms.mp (oG hz hk);obtain⟨i,_,_,q⟩:=JQ hB hj;exact ok.has z.1 q
end
noncomputable def dO (sc:Do)(ps:Aa Ao):Ap:=decide (sc.kind=.function)&&(decide (sc.isCoroutine=false)&&(decide (sc.isGenerator=false)&&(decide (∀ y∈sc.names,y.2≠.cell)&&(decide (∀ x∈ps,sc.names.lookup x=Ab .local)&&decide (∀ x∈u6 sc,sc.names.lookup x=Ab .free)))))
structure ClA (X:Cx)(L:LamT)(a:Ad)(cv:Aa V):Prop where
 get:CloAt X.s₀.heap X.H₀ X.fs L a cv
structure LmK (X:Cx)(y:Ao):Prop where
 get:y∈w4/\kF X.K y X.env.code/\X.env.qual=y ++ ".<locals>." /\ ∃ c T,Dk X.K y=Ab (c,T)
section
variable {X:Cx}{cm nx:Ap}{k kl m n N i:Af}{x y:Ao}{p pos lpos:Eg}{e:Bn}{es:Aa Bn}{fA:DA}{fe:DE}{L:LamT}{G:Aa D->DF}{a:Ad}{cv:Aa V}{g:(Aa D->DF)->Ad->Aa V->DS}{Fs:FnL}{cap:Aa Af}{params:Kl}{body:Bn}{scope:Do}
theorem HF {ps:Aa Ao}{q:Ao}(h:Ck (dO scope ps))(one:ps.length<=1):LamSc ⟨q,params,body,scope⟩ ps:=by
 unfold Ck at h;simp only[dO,As,Aq] at h;obtain⟨a,b,c,d,e,f⟩:=h;exact⟨a,b,c,d,e,one,f⟩
theorem ClA.tr {pn:Aa (Ad × Cg)}(h:ClA X L a cv):ClA (Cx.tryIn X E pn) L a cv:=⟨h.1⟩
theorem lmK {ls:Aa Ao}(h:(ls.all λy=>(Dk X.K y).isSome)=true)(hc:kF X.K y X.env.code)(hy:Ck (ls.contains y&&w4.contains y))(hq:X.env.qual=y ++ ".<locals>."):LmK X y:=by
 unfold Ck at hy;rw[As] at hy;obtain⟨⟨c,T⟩,e⟩:=Ix.mp (Bt.mp h y (by simpa using hy.1))
 exact⟨by simpa using hy.2,hc,hq,c,T,e⟩
end
noncomputable def Iti (a:Ad)(o:Cg)(vs:Aa (Key × V)):It:=
 ⟨λi H=>(∃ u,H a=Ab (.frz o u))/\i<vs.length,λi H v H'=>∃ T q,v=.ref T/\H T=none/\H'=upd H T (.tup [kV q.1,q.2])/\vs[i]? = Ab q,λi H=>(∃ u,H a=Ab (.frz o u))/\vs.length<=i⟩
theorem aU {P:Bi}{w:Ca}{K:Ak}{elts:Aa Bn}{x1:Af}{tpos:Eg}{a it:Ad}{o:Cg}{us:Aa (Key × Ac)}{ep:Af}(kv:KV vs us)(at':∀ h:Bs,h.get? a=Ab o->h.DictAt (qZ P w) a us ep) :
  Turn P w K (.Tuple elts x1 tpos) (Iti a o vs) [it] it (λi h=>∃ ok ov,IsItemIter h it a i us.length ep ok ov) where
 mem:=by simp
 obj:=λi h st b hb=>by
  have e:b=it:=by simpa using hb
  subst e;obtain⟨ok,ov,e⟩:=st;exact⟨_,e,λv z=>by cases z⟩
 keep:=λi h h' st k=>by
  obtain⟨ok,ov,e⟩:=st;exact⟨ok,ov,k it (by simp) _ e⟩
 item:=by
  intro X hP hw hK hc i pins s σ H E I hf st hg;subst hP hw hK;obtain⟨⟨u0,hu⟩,hlt⟩:=hg;obtain⟨ok,ov,st⟩:=st;have ho:s.heap.get? a=Ab o:=(I.hok a _ hu).1;obtain⟨u,e1,e2⟩:=fU kv (Am hlt);refine wpAny_pyNext_items_item st (at' _ ho) e1 λkey h' hk a1 a2 a3 a4=>?_;refine⟨_,rfl,wpAny_letOwnedTupleGo_items (s:={ s with heap:=h' }) a1 λh2 b1 b2=>?_⟩
  have up:∀ c o,c≠it->h'.get? c=Ab o->h2.get? c=Ab o:=λc o n q=>(b2.2 c n).trans q;have el:it<s.heap.objs.size:=Ay st;have T2:=up _ _ (Ia el) a2;refine⟨.ref s.heap.objs.size,upd H s.heap.objs.size (.tup [kV (vs[i]).1,(vs[i]).2]),?_,rfl,⟨_,vs[i],rfl,I.hok.fresh (Ax _),rfl,Am hlt⟩,⟨_,_,b1⟩,λc hc=>?_⟩
  .have:=Inv.turnLay (s:=s) (fp:=[it]) (its:=[key,u]) (h':=h2) (xs:=[kV (vs[i]).1,(vs[i]).2]) I hf (λc o hc q=>by
    have hc:c≠it:=by simpa using hc
    exact up c o hc (a4 c o hc q)) (λc hc=>by
    have:c=it:=by simpa using hc
    subst this;exact⟨_,b1⟩) (Ax _) (.cons (cU hk) (.cons e2 .nil)) ⟨_,T2,rfl,_,rfl⟩ (by show 2<=sizeLine;decide)
   exact this
  .have hn:=(hf c hc).1
   rw[qG ?_]
   .exact hn
   .rintro rfl
    have:s.heap.objs.size=it:=by simpa using hc
    rw[this] at el;exact absurd el (Di _)
 done:=by
  intro X hP hw hK hc i pins s σ H E I hf st hg;subst hP hw hK;obtain⟨⟨u0,hu⟩,hle⟩:=hg;obtain⟨ok,ov,st⟩:=st;have ho:s.heap.get? a=Ab o:=(I.hok a _ hu).1;obtain⟨f0,f1,f2,f3,f4,f5⟩:=hf it (by simp)
  have hl:=kv.length;exact wpAny_pyNext_items_end (I.ok.hd hc) st (at' _ ho) (by simp;lia) λh' eb=>⟨rfl,I.turned (t':=s.toks) (λb o hb e=>eb b o hb e) f0 f1 f3 f4 f5⟩
 self:=λ_ _ _ _ _ st h=>by
  obtain⟨ok,ov,st⟩:=st;exact PySem.W.kcp_self st h
noncomputable def t9 (kvs:Aa (Key × D)):Aa D:=kvs.map λp=>D.tup [kD p.1,p.2]
noncomputable def fM (f:DE):DI:=λenv S=>(f env S).bind λd S1=>match d with
 |.loc n=>match S1[n]? with
  |some (.dct kvs)=>.ok (t9 kvs) (S1.set n .dead)
  |_=>.bad
 |_=>.bad
theorem rW {K:Ak}{P:Hp}{α:Aa Ad}:∀ {kvs:Aa (Key × D)} {vs:Aa (Key × V)},KVs K P α kvs vs->∀ {i:Af} {q:Key × D},kvs[i]? = Ab q->∃ v,vs[i]? = Ab (q.1,v)/\Rep K P α q.2 v
 |_,_,.nil,i,q,h=>by simp at h
 |_,_,.cons (a:=x) (b:=y) z t,i,q,h=>by
  cases i with
  |zero =>
   simp at h;subst h;exact⟨y.2,by simp;exact Gd z.1.symm rfl,z.2⟩
  |succ i =>
   obtain⟨v,e1,e2⟩:=rW t (i:=i) (q:=q) (by simpa using h)
   exact⟨v,by simpa using e1,e2⟩
theorem o4 {K:Ak}{P:Hp}{α:Aa Ad}{a:Ad}{o:Cg}{u:HO}{kvs:Aa (Key × D)}(q:P a=Ab (.frz o u))(t:KVs K P α kvs vs)(hl:kvs.length=vs.length):ItD K (Iti a o vs) P α (t9 kvs) where
 go:=λi H P1 α1 S hi r e _=>⟨⟨u,r.sub _ _ (e _ _ q)⟩,by unfold t9 at hi;rw[Ar] at hi;lia⟩
 yld:=λi H x H' P1 α1 S hi r e e2 y=>by
  obtain⟨T,p,rfl,hT,rfl,hp⟩:=y;unfold t9 at hi;rw[Ar] at hi;obtain⟨v,h1,h2⟩:=rW t (Am hi);rw[hp] at h1;cases h1;obtain⟨r1,s1⟩:=r.pure (o:=.tup [kV (kvs[i]).1,v]) hT;refine⟨_,.tup [kD (kvs[i]).1,(kvs[i]).2],?_,r1,s1,?_⟩
  .unfold t9;rw[Eb,Am hi];rfl
  .exact bF (.of qV) (.cons (o6 _) (.cons (Rep.mono (e.trans s1) e2 _ _ h2) .nil))
 stop:=λi H P1 α1 S hi r e _=>⟨⟨u,r.sub _ _ (e _ _ q)⟩,by unfold t9 at hi;rw[Ar] at hi;lia⟩
section
variable {X:Cx}{o:Bn}{fo:DE}{apos cpos:Eg}{elts:Aa Bn}{x1:Af}{tpos:Eg}
set_option tactic.hygienic true in
theorem X4 (ho:PE X o (tD X fo))(hbase:Gu o "items" X.env (eval o X.env)=eval o X.env:=by rfl)(hline:(apos.endLine == cpos.line)=true:=by rfl):PI X (.Tuple elts x1 tpos) (.Call (.Attribute o "items" apos) [] [] cpos) (tDI X (fM fo)):=by
 intro pins s σ H R I h;obtain⟨P,α,env,S,r,re,af⟩:=h;refine IJ hbase hline (thn (zL ho I r re af) λvv s1 ⟨v,H1,P1,α1,d,S1,G1,af1⟩=>?_);cases d with
 |loc n =>
  simp only at af1
  split at af1
  .rename_i kvs hS
   have rp:=G1.rep;have I1:=G1.inv;have r1:=G1.rel;have ht:tyD (.loc n) S1=Ab "dict":=mC hS;obtain⟨h1,h2⟩:=pN I1 G1.val (pO r1 rp ht (by simp))
   simp only[Rep] at rp;obtain⟨a,rfl,ha⟩:=rp;cases (show vv=Cf a from G1.val)
   obtain⟨vs,z,t⟩:=r1.at' n a _ ha hS;obtain⟨hz,hd,us,rel,dd⟩:=pT I1.hok z;refine⟨"dict","dict.items",Hi,Gf,Lq,h1,h2,Hq rfl (Ko ?_)⟩;refine Lp Gf dd.typeIs Lg (Kq _) (Pm (qZ X.prog X.w) a hd) ⟨⟨us,dd⟩,?_⟩;obtain⟨ep,oa,es,hoa,qE⟩:=dd.dictAt;have at':∀ h:Bs,h.get? a=Ab oa->h.DictAt (qZ X.prog X.w) a us ep:=λh e=>⟨oa,es,e,qE⟩;obtain⟨r2,e2⟩:=r1.still (o:=.frz oa (.dK vs)) ha hS (by intro q;cases q)
   have I2:Inv X pins σ (upd H1 a (.frz oa (.dK vs))) { s1 with heap:=s1.heap,toks:=s1.toks }:=I1.write (x:=a) (e:=a) (by rw[z];exact Ib) (.inl rfl) (λb q hb e=>e) ⟨oa,hoa⟩ ⟨hoa,hz,hd,us,rel,dd⟩
   have I3:=I2.kept (t':=s1.toks) (h':=s1.heap.push { cls:=.type "dict_items",data:=.fields #[.ref a] }) λb u e=>Aj _ e;refine wpAny_pyIter_items (s:={ s1 with heap:=s1.heap.push { cls:=.type "dict_items",data:=.fields #[.ref a] } }) (knd:=qZ X.prog X.w) (d:=a) (kvs:=us) (ep:=ep) ⟨_,Be _ rfl,rfl,rfl⟩ (at' _ (Aj _ hoa)) ?_
   have I4:=I3.kept (t':=s1.toks) (h':=(s1.heap.push { cls:=.type "dict_items",data:=.fields #[.ref a] }).push { cls:=.type "dict_itemiterator",data:=.fields #[.none,.bool false,.ref a,.int 0 0,.int us.length 0,.int ep 0,.none,.none] }) λb u e=>Aj _ e;refine⟨_,[_],_,_,_,rfl,I4,aU rel at',⟨_,_,Be _ rfl⟩,λb hb=>?_,af1 _ _ _ α1 r2 (G1.same.trans e2) G1.pre (o4 (u:=.dK vs) qV (KVs.mono e2 (Bf _) t) (by have:=rY t;have:=this.length;simpa using this))⟩
   have e:b=(s1.heap.push { cls:=.type "dict_items",data:=.fields #[.ref a] }).objs.size:=by simpa using hb
   subst e;exact I3.fpOk (Ax _) (I3.hok.fresh (Ax _))
  .exact An af1
 |_=>exact An af1
theorem WZ (ho:QE X o fo)(hbase:Gu o "items" X.env (eval o X.env)=eval o X.env:=by rfl)(hline:(apos.endLine == cpos.line)=true:=by rfl):QI X (.Tuple elts x1 tpos) (.Call (.Attribute o "items" apos) [] [] cpos) (fM fo):=⟨X4 ho.1 hbase hline⟩
noncomputable def pZ:G2:=λa b S=>match a,b with
 |.bl x,.bl y=>.ok (.bl (x != y)) S
 |_,_=>.bad
theorem oT:OpD X (Ch .IsNot) pZ:=by
 intro pins σ H s P α S v u vv uu a b Q I r rv ru pa pb af;cases a with
 |bl x =>
  cases b with
  |bl y =>
   simp only[Rep] at pa pb;subst pa pb;cases (show vv=HT x from rv)
   cases (show uu=HT y from ru)
   have h:EP X pins σ Q (.bool (x != y)) s:=⟨.bl _,H,I,rfl,xr af r (by simp only[Rep])⟩
   cases x <;> cases y <;> exact AT h
  |_=>exact An af
 |_=>exact An af
theorem YM:ZOp X (Ch .IsNot) pZ:=⟨oT⟩
end
end _D
section
namespace _D
open PySem PySem.Spec PyProof.Rows _L
mutual
noncomputable def zF:D->Aa Ag
 |.int n=>[1,n]
 |.tup xs=>2::qW xs
 |_=>[]
noncomputable def qW:Aa D->Aa Ag
 |[]=>[0]
 |x::xs=>zF x++qW xs
end
mutual
noncomputable def yE:D->D->Ap
 |.int _,.int _=>true
 |.tup xs,.tup ys=>yO xs ys
 |_,_=>false
noncomputable def yO:Aa D->Aa D->Ap
 |x::xs,y::ys=>yE x y&&yO xs ys
 |_,_=>true
end
noncomputable def ltN (a b:D):Ap:=_H.lexLt (zF a) (zF b)
noncomputable def trb:Af->D->Ap
 |_,.int _=>true
 |n+1,.tup xs=>xs.all (trb n)
 |_,_=>false
inductive Tr:Af->D->Prop
 |int (n:Af) (i:Ag):Tr n (.int i)
 |tup (n:Af) (xs:Aa D) (h:∀ x∈xs,Tr n x):Tr (n+1) (.tup xs)
theorem VP:∀ {n:Af} {d:D},trb n d=true->Tr n d:=by
 intro n
 induction n with
 |zero=>intro d h;cases d <;> first|exact .int _ _|exact Cq h
 |succ n ih =>
  intro d h;cases d with
  |int i=>exact .int _ i
  |tup xs=>exact .tup n xs λx hx=>ih (Bt.mp (show xs.all (trb n)=true from h) x hx)
  |_=>exact Cq h
theorem yK {n:Af}{d:D}(h:Tr n d):∃ k r,zF d=k::r/\0<k:=by
 cases h with
 |int _ i=>exact⟨1,[i],rfl,by decide⟩
 |tup n xs=>exact⟨2,qW xs,rfl,by decide⟩
theorem zR (x:D)(xs:Aa D):qW (x::xs)=zF x++qW xs:=rfl
theorem nR:∀ {xs ys:Aa D} {n m:Af},(∀ x∈xs,Tr n x)->(∀ y∈ys,Tr m y)->(∀ x∈xs,∀ y∈ys,yE x y=true->∀ r r':Aa Ag,_H.lexLt (zF x++r) (zF y++r')=if eqD x y=true then _H.lexLt r r' else ltN x y)->yO xs ys=true ->
  ∀ r r':Aa Ag,_H.lexLt (qW xs++r) (qW ys++r')=if zU xs ys=true then _H.lexLt r r' else _H.lexLt (qW xs) (qW ys)
 |[],[],_,_,_,_,_,_,r,r'=>rfl
 |[],y::ys,_,_,_,h2,_,_,r,r'=>by
  obtain⟨k,t,e,p⟩:=yK (h2 y (by simp))
  rw[Aw (by intro z;cases z),zR,e]
  show _H.lexLt (0::r) (k::_)=_H.lexLt [0] (k::_);rw[_H.lexLt_cons,_H.lexLt_cons,Aw om,Aw om]
 |x::xs,[],_,_,h1,_,_,_,r,r'=>by
  obtain⟨k,t,e,p⟩:=yK (h1 x (by simp))
  rw[Aw (by intro z;cases z),zR,e]
  show _H.lexLt (k::_) (0::r')=_H.lexLt (k::_) [0];rw[_H.lexLt_cons,_H.lexLt_cons,Aw om,Aw om]
 |x::xs,y::ys,_,_,h1,h2,h3,hc,r,r'=>by
  have hc':(yE x y&&yO xs ys)=true:=hc;rw[As] at hc';have ih:=nR (λz hz=>h1 z (by simp[hz])) (λz hz=>h2 z (by simp[hz])) (λz hz y' hy=>h3 z (by simp[hz]) y' (by simp[hy])) hc'.2
  rw[zR,zR,Ci,Ci,h3 x (by simp) y (by simp) hc'.1,h3 x (by simp) y (by simp) hc'.1,ih,nJ]
  cases eqD x y <;> cases zU xs ys <;> simp
theorem W6 {n:Af}{a:D}(ha:Tr n a):∀ {m:Af} {b:D},Tr m b->yE a b=true->∀ r r':Aa Ag,_H.lexLt (zF a++r) (zF b++r')=if eqD a b=true then _H.lexLt r r' else ltN a b:=by
 induction ha with
 |int n i =>
  intro m b hb hc r r';cases hb with
  |int _ j =>
   show _H.lexLt (1::i::r) (1::j::r')=if (i == j)=true then _ else _H.lexLt [1,i] [1,j]
   simp only[_H.lexLt_cons,Dm,Sy]
   split <;> rfl
  |tup _ ys=>exact Cq hc
 |tup n xs hx ih =>
  intro m b hb hc r r';cases hb with
  |int _ j=>exact Cq hc
  |tup m ys hy =>
   have h:=nR hx hy (λx hx' y hy' hc'=>ih x hx' (hy y hy') hc') hc r r';show _H.lexLt (2::(qW xs++r)) (2::(qW ys++r'))=if zU xs ys=true then _ else _H.lexLt (2::qW xs) (2::qW ys)
   rw[_H.lexLt_cons,_H.lexLt_cons,Bc rfl,Bc rfl,h]
theorem eI {xs ys:Aa D}:ltN (.tup xs) (.tup ys)=_H.lexLt (qW xs) (qW ys):=by
 show _H.lexLt (2::_) (2::_)=_;rw[_H.lexLt_cons,Bc rfl]
theorem nS {n m:Af}{x y:D}{xs ys:Aa D}(hx:Tr n x)(hy:Tr m y)(hc:yE x y=true):_H.lexLt (qW (x::xs)) (qW (y::ys))=if eqD x y=true then _H.lexLt (qW xs) (qW ys) else ltN x y:=W6 hx hy hc _ _
set_option tactic.hygienic true in
theorem eG (i j:Ag):ltN (.int i) (.int j)=decide (i<j):=by
 show _H.lexLt [1,i] [1,j]=_;rw[_H.lexLt_cons,Bc rfl,_H.lexLt_cons]
 split
 .rename_i h;subst h;simp[_H.lexLt_nil_nil]
 .rfl
theorem nF:∀ {xs ys:Aa D} {n m:Af},(∀ x∈xs,Tr n x)->(∀ y∈ys,Tr m y)->(∀ x∈xs,∀ y∈ys,∀ r r':Aa Ag,zF x++r=zF y++r'->x=y/\r=r')->∀ r r':Aa Ag,qW xs++r=qW ys++r'->xs=ys/\r=r'
 |[],[],_,_,_,_,_,r,r',e=>⟨rfl,by injection e⟩
 |[],y::ys,_,_,_,h2,_,r,r',e=>by
  obtain⟨k,t,e',p⟩:=yK (h2 y (by simp))
  rw[zR,e'] at e;injection e with e1 e2
  omega
 |x::xs,[],_,_,h1,_,_,r,r',e=>by
  obtain⟨k,t,e',p⟩:=yK (h1 x (by simp))
  rw[zR,e'] at e;injection e with e1 e2
  omega
 |x::xs,y::ys,_,_,h1,h2,h3,r,r',e=>by
  rw[zR,zR,Ci,Ci] at e;obtain⟨e1,e2⟩:=h3 x (by simp) y (by simp) _ _ e
  obtain⟨e3,e4⟩:=nF (λz hz=>h1 z (by simp[hz])) (λz hz=>h2 z (by simp[hz])) (λz hz y' hy=>h3 z (by simp[hz]) y' (by simp[hy])) _ _ e2
  exact⟨by rw[e1,e3],e4⟩
theorem iG {n:Af}{a:D}(ha:Tr n a):∀ {m:Af} {b:D},Tr m b->∀ r r':Aa Ag,zF a++r=zF b++r'->a=b/\r=r':=by
 induction ha with
 |int n i =>
  intro m b hb r r' e;cases hb with
  |int _ j=>injection e with _ e;injection e with e1 e2;exact⟨by rw[e1],e2⟩
  |tup _ ys=>injection e with e _;cases e
 |tup n xs hx ih =>
  intro m b hb r r' e;cases hb with
  |int _ j=>injection e with e _;cases e
  |tup m ys hy =>
   injection e with _ e
   obtain⟨e1,e2⟩:=nF hx hy (λx hx' y hy'=>ih x hx' (hy y hy')) r r' e;exact⟨by rw[e1],e2⟩
theorem bT {n m:Af}{a b:D}(ha:Tr n a)(hb:Tr m b)(e:zF a=zF b):a=b:=(iG ha hb [] [] (by rw[e])).1
theorem FE {n:Af}{a:D}(ha:Tr n a):eqD a a=true:=by
 induction ha with
 |int n i=>show (i == i)=true;simp
 |tup n xs _ ih =>
  show zU xs xs=true;rw[wF];simp only[Py,Zd,Xw,Bt,DL];intro j hj;exact ih _ (by simp[Gs,hj])
theorem kK:∀ {xs ys:Aa D},yO xs ys=true->∀ {j:Af} {x y:D},xs[j]? = Ab x->ys[j]? = Ab y->yE x y=true
 |[],_,_,j,x,y,e,_=>by simp at e
 |_::_,[],_,j,x,y,_,e=>by simp at e
 |a::xs,b::ys,h,j,x,y,e1,e2=>by
  have h':(yE a b&&yO xs ys)=true:=h;rw[As] at h';cases j with
  |zero=>cases e1;cases e2;exact h'.1
  |succ j=>exact kK h'.2 (j:=j) (by simpa using e1) (by simpa using e2)
theorem M6 {a b c:D}(h1:ltN a b=false)(h2:ltN b c=false):ltN a c=false:=by
 cases h:ltN a c with
 |false=>rfl
 |true =>
  rcases _S.uQ.tri h2 with e|e
  .exact absurd (show ltN a b=true by unfold ltN at *;rw[e];exact h) (by rw[h1];simp)
  .exact absurd (show ltN a b=true from _S.uQ.tr h e) (by rw[h1];simp)
noncomputable def fD (xs:Aa D):Aa D:=_S.vI ltN xs
theorem j9 (xs:Aa D):(fD xs).Perm xs:=_S.yN xs
theorem nZ (xs:Aa D):(fD xs).map zF=_S.vI _H.lexLt (xs.map zF):=by
 refine _S.jX _S.uQ ?_ (_S.bG _S.uQ _) (((j9 xs).map zF).trans (_S.yN _).symm);unfold _S.Nf;rw[Gh];have:=Lr (le:=λa b=>!ltN b a) (λa b c h1 h2=>?_) (λa b=>?_) xs
 .exact this.imp λ{a b} h=>show ltN b a=false by simpa using h
 .simp only[Jh] at *
  exact M6 h2 h1
 .cases h:ltN b a with
  |false=>simp
  |true =>
   cases h':ltN a b with
   |false=>simp[h']
   |true=>exact absurd (_S.uQ.tr h h') (by rw[_S.uQ.irr];simp)
theorem JW {xs ys:Aa D}(h:∀ x∈xs,∀ y∈ys,zF x=zF y->x=y)(e:xs.map zF=ys.map zF):xs=ys:=by
 induction xs generalizing ys with
 |nil=>cases ys with
  |nil=>rfl
  |cons y ys=>cases e
 |cons x xs ih =>
  cases ys with
  |nil=>cases e
  |cons y ys =>
   injection e with e1 e2
   rw[h x (by simp) y (by simp) e1,ih (λa ha b hb=>h a (by simp[ha]) b (by simp[hb])) e2]
theorem GQ {n:Af}{xs ys:Aa D}(h:∀ x∈xs,Tr n x)(p:ys.Perm xs)(s:ys.Pairwise λa b=>ltN b a=false):fD xs=ys:=by
 refine JW (λa ha b hb=>bT (h a ((j9 xs).mem_iff.mp ha)) (h b (p.mem_iff.mp hb))) ?_;rw[nZ];refine _S.jX _S.uQ (_S.bG _S.uQ _) ?_ ((_S.yN _).trans (p.map zF).symm);unfold _S.Nf;rw[Gh];exact s
end _D
end
namespace _D
open PySem PySem.Spec PyProof.Rows _L PySem.SeqAt
variable {xs:Aa D}{n:Af}{A:Br}{h:Bs}
def cC (A:Br)(s:Ah)(u v:Ac)(c:Ap):Prop:=∀ (prog:Bi) (w:Ca) (E:Ac->Ah->Prop) (Q:Ac->Ah->Prop),Q (.bool c) s->Av (Ba prog w) A (richCompare .Lt u v) Q E s
inductive LexV (A:Br)(s:Ah):Aa Ac->Aa Ac->Ap->Prop
 |nn:LexV A s [] [] false
 |nc (v:Ac) (vs:Aa Ac):LexV A s [] (v::vs) true
 |cn (u:Ac) (us:Aa Ac):LexV A s (u::us) [] false
 |eq (u v:Ac) (us vs:Aa Ac) (b:Ap) (he:Wx A s u v true) (h:LexV A s us vs b):LexV A s (u::us) (v::vs) b
 |ne (u v:Ac) (us vs:Aa Ac) (b:Ap) (he:Wx A s u v false) (h:cC A s u v b):LexV A s (u::us) (v::vs) b
section
open PySem.SeqAt
open PySem.AutoSeq1 (wpAny_loadPart')
open PySem.MeetsSeq PySem.MeetsSeq2 PySem.MeetsSeq3
theorem aS (l b:Ad)(items items2:Bj Ac)(n n2:Af)(dd dd2:Al Ad)(sl sl2:Bj (Al Ac))(r:Ap) :
  Meets (Mm.«tuple.__lt__» ⟨[.ref l,.ref b],[]⟩)
   (λA R s=>s.heap.get? l=Ab { cls:=.type "tuple",dict:=dd,data:=.seq items n,slots:=sl } /\ s.heap.get? b=Ab { cls:=.type "tuple",dict:=dd2,data:=.seq items2 n2,slots:=sl2 } /\
    LexV A.in1 s items.toList items2.toList r/\R (.ok (.ret (.bool r))) s):=
 .of_wp λprog w A R s h=>by
  obtain⟨hp,g,d,tk,os⟩:=s;obtain⟨hl,hb,hx,h⟩:=h;have f2:=OW
  wp_walk using wpAny_loadPart' hl,wpAny_loadPart' hb,Vk _ (λqE b s'=>b.1=none/\s'=⟨hp,g,d,tk,os⟩/\∃ (us vs:Aa Ac),qE=us.zip vs/\LexV A.in1 ⟨hp,g,d,tk,os⟩ us vs r/\us.length+items2.size=vs.length+items.size) _
  case turn =>
   rintro⟨y,x⟩ qE b s' ⟨hb',rfl,us,vs,hz,hx',hlen⟩;cases hx' with
   |nn=>cases hz
   |nc v vs=>cases hz
   |cn u us=>cases hz
   |eq u v us vs _ he h' =>
    rw[Hr] at hz;injection hz with hyx hrest
    injection hyx with hy hx
    subst hy hx;refine Ai (he prog w _ _ ?_)
    wp_walk
    exact⟨rfl,rfl,_,_,hrest,h',by simp only[By] at hlen;omega⟩
   |ne u v us vs _ he h' =>
    rw[Hr] at hz;injection hz with hyx hrest
    injection hyx with hy hx
    subst hy hx;refine Ai (he prog w _ _ ?_);have hri:=h' prog w
    wp_walk using hri
    exact⟨_,rfl,by simpa using h⟩
  case fin =>
   rintro⟨b1,b2⟩ s' ⟨hb',rfl,us,vs,hz,hx',hlen⟩;simp only at hb';subst hb';have hv:r=decide (items.size<items2.size):=by
    cases hx' with
    |nn=>simp only[Ew] at hlen;exact(Cc om).symm
    |nc v vs=>simp only[Ew,By] at hlen;exact(Bw om).symm
    |cn u us=>simp only[Ew,By] at hlen;exact(Cc om).symm
    |eq u v us vs _ he h'=>cases hz
    |ne u v us vs _ he h'=>cases hz
   rw[hv] at h
   wp_walk
   exact⟨_,rfl,by simpa [Mn] using h⟩
  case h =>
   exact⟨rfl,rfl,items.toList,items2.toList,rfl,hx,by simp;omega⟩
end
theorem W9 {s:Ah}{l b:Ad}{items items2:Bj Ac}{r:Ap}(hl:s.heap.IsTuple l items)(hb:s.heap.IsTuple b items2)(hu:A.units<Ev)(h:LexV A.in1 s items.toList items2.toList r):cC A s (.ref l) (.ref b) r:=by
 intro prog w E Q hQ;obtain⟨⟨cls,dd,data,sl⟩,ho,hc,n,hd⟩:=id hl;obtain⟨⟨cls2,dd2,data2,sl2⟩,ho2,hc2,n2,hd2⟩:=id hb;simp only at hc hd hc2 hd2;subst hc hd hc2 hd2;exact Qo (op:=.Lt) ⟨_,ho,rfl⟩ ⟨_,ho2,rfl⟩ Ra Qp (Pu _ _) (aS l b items items2 n n2 dd dd2 sl sl2 r)
  ⟨ho,ho2,h,show HT r≠Sa/\Q (.bool r) s from⟨(λx=>nomatch x),hQ⟩⟩ hu
inductive TrV (h:Bs):Af->D->Ac->Prop
 |int (n:Af) (i:Ag) (t:Qk):TrV h n (.int i) (.int i t)
 |tup (n:Af) (a:Ad) (xs:Aa D) (its:Aa Ac) (ht:h.IsTuple a its.toArray) (hl:xs.length=its.length) (hs:∀ (j:Af) (x:D) (v:Ac),xs[j]? = Ab x->its[j]? = Ab v->TrV h n x v):TrV h (n+1) (.tup xs) (.ref a)
theorem TrV.tr {d:D}{v:Ac}(t:TrV h n d v):Tr n d:=by
 induction t with
 |int n i t=>exact .int n i
 |tup n a xs its ht hl hs ih =>
  refine .tup n xs λx hx=>?_;obtain⟨j,hj,e⟩:=Cw.mp hx;exact ih j x (its[j]' om) (by rw[Am hj,e]) (Am om)
theorem TrV.sup {h':Bs}(S:_S.Sup h h'){n:Af}{d:D}{v:Ac}(t:TrV h n d v):TrV h' n d v:=by
 induction t with
 |int n i t=>exact .int n i t
 |tup n a xs its ht hl hs ih =>
  obtain⟨o,ho,r⟩:=ht;exact .tup n a xs its ⟨o,S _ _ ho,r⟩ hl ih
theorem TrV.det {d:D}{v:Ac}(t:TrV h n d v):∀ {m:Af} {d':D},TrV h m d' v->d=d':=by
 induction t with
 |int n i t=>intro m d' t';cases t' with|int _ _ _=>rfl
 |tup n a xs its ht hl hs ih =>
  intro m d' t';cases t' with
  |tup m _ ys its2 ht2 hl2 hs2 =>
   have e:=t8 ht ht2;have e':its=its2:=by simpa using congrArg Ud e
   subst e';have:xs=ys:=Mv om λj h1 h2=>ih j _ (its[j]' om) (Am h1) (Am om) (hs2 j _ _ (Am h2) (Am om));rw[this]
theorem TrV.eq {s:Ah}{a:D}{u:Ac}(t:TrV s.heap n a u):∀ {m:Af} {b:D} {v:Ac} {A:Br},TrV s.heap m b v->yE a b=true->A.units+n<Ev->Wx A s u v (eqD a b):=by
 induction t with
 |int n i t =>
  intro m b v A t' hc hu;cases t' with
  |int _ j t'=>exact Yh i t j t'
  |tup _ _ _ _ _ _ _=>exact Cq hc
 |tup n a xs its ht hl hs ih =>
  intro m b v A t' hc hu;cases t' with
  |int _ j t'=>exact Cq hc
  |tup m b ys its2 ht2 hl2 hs2 =>
   refine(V1 om ht ht2 hl hl2 (λj h1 h2=>?_) λe=>?_).eq
   .have h1':j<its.length:=by simpa using h1
    have h2':j<its2.length:=by simpa using h2
    have e1:xs[j]? = Ab (xs.getD j .non):=by simp[Gs,show j<xs.length by omega]
    have e2:ys[j]? = Ab (ys.getD j .non):=by simp[Gs,show j<ys.length by omega]
    have f1:its[j]? = Ab its.toArray[j]:=by simp[h1']
    have f2:its2[j]? = Ab its2.toArray[j]:=by simp[h2']
    exact ih j _ _ e1 f1 (hs2 j _ _ e2 f2) (kK hc e1 e2) (by show A.units+1+n<Ev;omega)
   .subst e
    have:=TrV.det (.tup n a xs its ht hl hs) (.tup m a ys its2 ht2 hl2 hs2);injection this with this
    subst this;exact FE (TrV.tr (.tup n a xs its ht hl hs))
theorem eB {s:Ah}:∀ {xs ys:Aa D} {us vs:Aa Ac} {n m:Af},xs.length=us.length->ys.length=vs.length->(∀ x∈xs,Tr n x)->(∀ y∈ys,Tr m y)->yO xs ys=true ->
  (∀ (j:Af) (x y:D) (u v:Ac),xs[j]? = Ab x->ys[j]? = Ab y->us[j]? = Ab u->vs[j]? = Ab v->Wx A s u v (eqD x y)/\cC A s u v (ltN x y))->LexV A s us vs (_H.lexLt (qW xs) (qW ys))
 |[],[],[],[],_,_,_,_,_,_,_,_=>.nn
 |[],y::ys,[],v::vs,_,_,_,_,_,h2,_,_=>by
  obtain⟨k,t,e,p⟩:=yK (h2 y (by simp))
  have:_H.lexLt (qW []) (qW (y::ys))=true:=by
   rw[zR,e];show _H.lexLt [0] (k::_)=_;rw[_H.lexLt_cons,Aw om];exact Bw p
  rw[this];exact .nc v vs
 |x::xs,[],u::us,[],_,_,_,_,h1,_,_,_=>by
  obtain⟨k,t,e,p⟩:=yK (h1 x (by simp))
  have:_H.lexLt (qW (x::xs)) (qW []) = false:=by
   rw[zR,e];show _H.lexLt (k::_) [0]=_;rw[_H.lexLt_cons,Aw om];exact Cc om
  rw[this];exact .cn u us
 |x::xs,y::ys,u::us,v::vs,_,_,l1,l2,h1,h2,hc,h=>by
  have hc':(yE x y&&yO xs ys)=true:=hc;rw[As] at hc';obtain⟨e1,e2⟩:=h 0 x y u v rfl rfl rfl rfl;rw[nS (h1 x (by simp)) (h2 y (by simp)) hc'.1]
  cases hq:eqD x y with
  |true =>
   rw[hq] at e1;exact .eq u v us vs _ e1 (eB (by simpa using l1) (by simpa using l2) (λz hz=>h1 z (by simp[hz])) (λz hz=>h2 z (by simp[hz])) hc'.2 λj a b c d q1 q2 q3 q4=>h (j+1) a b c d (by simpa using q1) (by simpa using q2) (by simpa using q3) (by simpa using q4))
  |false =>
   rw[hq] at e1;exact .ne u v us vs _ e1 e2
 |[],_,_::_,_,_,_,l1,_,_,_,_,_=>by simp at l1
 |_::_,_,[],_,_,_,l1,_,_,_,_,_=>by simp at l1
 |_,[],_,_::_,_,_,_,l2,_,_,_,_=>by simp at l2
 |_,_::_,_,[],_,_,_,l2,_,_,_,_=>by simp at l2
theorem TrV.lt {s:Ah}{a:D}{u:Ac}(t:TrV s.heap n a u):∀ {m:Af} {b:D} {v:Ac} {A:Br},TrV s.heap m b v->yE a b=true->A.units+n<Ev->cC A s u v (ltN a b):=by
 induction t with
 |int n i t =>
  intro m b v A t' hc hu;cases t' with
  |int _ j t' =>
   intro prog w E Q hQ;rw[eG] at hQ;exact(Ob hQ:Av (Ba prog w) A (Ch .Lt (.int i t) (.int j t')) Q E s)
  |tup _ _ _ _ _ _ _=>exact Cq hc
 |tup n a xs its ht hl hs ih =>
  intro m b v A t' hc hu;cases t' with
  |int _ j t'=>exact Cq hc
  |tup m b ys its2 ht2 hl2 hs2 =>
   have t1:=TrV.tr (.tup n a xs its ht hl hs);have t2:=TrV.tr (.tup m b ys its2 ht2 hl2 hs2);cases t1 with
   |tup _ _ t1 =>
    cases t2 with
    |tup _ _ t2 =>
     refine W9 ht ht2 om ?_;rw[eI];refine eB (by simpa using hl) (by simpa using hl2) t1 t2 hc λj x y u v e1 e2 e3 e4=>?_
     have hu':A.in1.units+n<Ev:=by show A.units+1+n<Ev;omega
     have e3':its[j]? = Ab u:=by simpa using e3
     have e4':its2[j]? = Ab v:=by simpa using e4
     exact⟨(hs j x u e1 e3').eq (hs2 j y v e2 e4') (kK hc e1 e2) hu',ih j x u e1 e3' (hs2 j y v e2 e4') (kK hc e1 e2) hu'⟩
section
variable {X:Cx}{pins:Aa (Ad × Cg)}{σ : _L.St}{H P:Hp}{α : Aa Ad}{S:Sto}{s:Ah}
theorem LG (I:Inv X pins σ H s)(r:Rel X.K H P α S):∀ (n:Af) {d:D} {v:V} {u:Ac},trb n d=true->Rep X.K P α d v->qF v u->TrV s.heap n d u:=by
 intro n
 induction n with
 |zero =>
  intro d v u h p q;cases d with
  |int i=>simp only[Rep] at p;subst p;obtain⟨t,rfl⟩:=q;exact .int _ i t
  |_=>exact Cq h
 |succ n ih =>
  intro d v u h p q;cases d with
  |int i=>simp only[Rep] at p;subst p;obtain⟨t,rfl⟩:=q;exact .int _ i t
  |tup xs =>
   obtain⟨a,vs,its,rfl,q1,t1,rv1,h1,l1,_⟩:=y9 I r p;cases (show u=Cf a from q)
   have la:=t1.length;have lb:=rv1.length;refine .tup n a xs its h1 om λj x w e1 e2=>?_;obtain⟨y,f1,f2⟩:=t1.get e1;obtain⟨z,g1,g2⟩:=rv1.get f1;cases g1.symm.trans e2;exact ih (Bt.mp (show xs.all (trb n)=true from h) x (Ec e1)) f2 g2
  |_=>exact Cq h
end
noncomputable def neT:D->Ap
 |.tup (_::_)=>true
 |_=>false
noncomputable def sOk (xs:Aa D):Ap:=xs.all λa=>neT a&&trb 6 a&&xs.all λb=>yE a b
theorem uS (h:sOk xs=true){x:D}(hx:x∈xs):neT x=true/\Tr 6 x/\∀ y∈xs,yE x y=true:=by
 have:=Bt.mp h x hx;simp only[As] at this;exact⟨this.1.1,VP this.1.2,λy hy=>Bt.mp this.2 y hy⟩
noncomputable def tyF:D->Ac
 |.tup (.int _::_)=>.type "int"
 |_=>.type "tuple"
def isN (h:Bs)(k:Aa Ag)(v:Ac):Prop:=∃ d,TrV h 6 d v/\zF d=k
section
open PySem.W
variable {prog:Bi}{w:Ca}{h0:Bs}
theorem dR {s:Ah}{b:Ap}{Q:Ap->Ah->Prop}:∀ {xs ys:Aa D} {us vs:Aa Ac} {n m i N M:Af},xs.length=us.length->ys.length=vs.length ->
  (∀ (j:Af) (x:D) (u:Ac),xs[j]? = Ab x->us[j]? = Ab u->TrV s.heap n x u)->(∀ (j:Af) (x:D) (u:Ac),ys[j]? = Ab x->vs[j]? = Ab u->TrV s.heap m x u)->yO xs ys=true->A.units+n<Ev->((b&&i == 0)=true->∀ x,xs[0]? = Ab x->∃ j,x=.int j) ->
  N+vs.length=M+us.length->Q (_H.lexLt (qW xs) (qW ys)) s->KatLex prog w A b (decide (N<M)) Q (us.zip vs) i s
 |[],[],[],[],_,_,_,N,M,_,_,_,_,_,_,_,hl,h=>by
  have:decide (N<M)=false:=Cc (by simp at hl;omega)
  rw[this];exact h
 |[],y::ys,[],v::vs,_,_,_,N,M,_,_,_,h2,_,_,_,hl,h=>by
  have:decide (N<M)=true:=Bw (by simp at hl;omega)
  rw[this];obtain⟨k,t,e,p⟩:=yK (h2 0 y v rfl rfl).tr;rw[zR,e] at h;have q:_H.lexLt (qW []) (k::t++qW ys)=true:=by
   show _H.lexLt [0] (k::_)=_;rw[_H.lexLt_cons,Aw om];exact Bw p
  rw[q] at h;exact h
 |x::xs,[],u::us,[],_,_,_,N,M,_,_,h1,_,_,_,_,hl,h=>by
  have:decide (N<M)=false:=Cc (by simp at hl;omega)
  rw[this];obtain⟨k,t,e,p⟩:=yK (h1 0 x u rfl rfl).tr;rw[zR,e] at h;have q:_H.lexLt (k::t++qW xs) (qW []) = false:=by
   show _H.lexLt (k::_) [0]=_;rw[_H.lexLt_cons,Aw om];exact Cc om
  rw[q] at h;exact h
 |x::xs,y::ys,u::us,v::vs,n,m,i,N,M,l1,l2,h1,h2,hc,hu,hb,hl,h=>by
  have hc':(yE x y&&yO xs ys)=true:=hc;rw[As] at hc';have t1:=h1 0 x u rfl rfl;have t2:=h2 0 y v rfl rfl;rw[nS t1.tr t2.tr hc'.1] at h;rw[Hr];refine kat_cons (t1.eq t2 hc'.1 hu prog w _ _ ?_);refine kat_go (λe=>kat_yes ?_) λe=>kat_no ?_
  .rw[Bc e] at h
   refine dR (n:=n) (m:=m) (by simpa using l1) (by simpa using l2) (λj a b e1 e2=>h1 (j+1) a b (by simpa using e1) (by simpa using e2)) (λj a b e1 e2=>h2 (j+1) a b (by simpa using e1) (by simpa using e2)) hc'.2 hu (λz=>?_) (by simp at hl;omega) h
   simp at z
  .rw[Aw (by rw[e];simp)] at h
   cases hq:b&&i == 0 with
   |true =>
    obtain⟨j,rfl⟩:=hb hq x rfl;cases t1 with
    |int _ _ t =>
     cases t2 with
     |int _ k t' =>
      rw[eG] at h;exact oneLt_int h
     |tup _ _ _ _ _ _ _=>exact Cq hc'.1
   |false=>exact kat_one _ _ (t1.lt t2 hc'.1 hu prog w _ _ h)
 |[],_,_::_,_,_,_,_,_,_,l1,_,_,_,_,_,_,_,_=>by simp at l1
 |_::_,_,[],_,_,_,_,_,_,l1,_,_,_,_,_,_,_,_=>by simp at l1
 |_,[],_,_::_,_,_,_,_,_,_,l2,_,_,_,_,_,_,_=>by simp at l2
 |_,_::_,_,[],_,_,_,_,_,_,l2,_,_,_,_,_,_,_=>by simp at l2
theorem GX {ys:Aa D}(hc:yE (.tup xs) (.tup ys)=true)(h1:xs≠[])(h2:ys≠[]){n m:Af}(t1:Tr n (.tup xs))(t2:Tr m (.tup ys)):tyF (.tup xs)=tyF (.tup ys):=by
 cases xs with
 |nil=>exact absurd rfl h1
 |cons x xs =>
  cases ys with
  |nil=>exact absurd rfl h2
  |cons y ys =>
   have hc':(yE x y&&yO xs ys)=true:=hc;rw[As] at hc';cases t1 with
   |tup _ _ t1 =>
    cases t2 with
    |tup _ _ t2 =>
     have a1:=t1 x (by simp)
     have a2:=t2 y (by simp)
     cases a1 with
     |int _ i=>cases a2 with
      |int _ j=>rfl
      |tup _ _ _=>exact Cq hc'.1
     |tup _ _ _=>cases a2 with
      |int _ j=>exact Cq hc'.1
      |tup _ _ _=>rfl
theorem VR {M:Lz}{T:Ac}:∀ {vs:Aa Ac},(∀ v∈vs,∃ d,TrV h 6 d v/\neT d=true/\tyF d=T)->∃ fs,KatTups h vs fs/\fs.length=vs.length/\∀ f∈fs,Looks M h (Vq f) T
 |[],_=>⟨[],trivial,rfl,λf hf=>by simp at hf⟩
 |v::vs,hv=>by
  obtain⟨fs,a1,a2,a3⟩:=VR (M:=M) (vs:=vs) λu hu=>hv u (by simp[hu])
  obtain⟨d,t,hn,ht⟩:=hv v (by simp)
  cases t with
  |int _ _ _=>cases hn
  |tup n a xs its hi hl hs =>
   cases xs with
   |nil=>cases hn
   |cons x xs =>
    cases its with
    |nil=>simp at hl
    |cons f its =>
     obtain⟨o,ho,hc,k,hd⟩:=hi;refine⟨f::fs,Yl ho hc hd rfl a1,by simp[a2],λg hg=>?_⟩
     rcases Bg.mp hg with rfl|hg
     .have q:=hs 0 x g rfl rfl
      cases q with
      |int _ i tk =>
       rw[<- ht];exact Ya rfl
      |tup _ b ys jts hi2 _ _ =>
       obtain⟨o2,ho2,hc2,_⟩:=hi2;rw[<- ht,show tyF (.tup (.tup ys::xs))=o2.cls from hc2.symm]
       exact(Looks.ld ho2).andThen .now
     .exact a3 g hg
theorem BD (ok:sOk xs=true){vs:Aa Ac}{ks:Aa (Aa Ag)}(hl:vs.length=ks.length)(hv:∀ i v,vs[i]? = Ab v->isN h0 (ks.getD i []) v)(hf:∀ k∈ks,∃ x∈xs,zF x=k)(h2:2<=vs.length):_S.Cmps prog w h0 vs (_S.bQ _H.lexLt ks []):=by
 have at':∀ i (hi:i<vs.length),∃ d,d∈xs/\TrV h0 6 d (vs.getD i Df)/\zF d=ks.getD i []:=λi hi=>by
  obtain⟨d,t,e⟩:=hv i vs[i] (Am hi);obtain⟨x,hx,e2⟩:=hf (ks.getD i []) (by simp[Gs,show i<ks.length by omega])
  have:=bT t.tr (uS ok hx).2.1 (e.trans e2.symm);subst this;exact⟨d,hx,by simpa [Gs,hi] using t,e⟩
 obtain⟨d0,hd0,_,_⟩:=at' 0 om;have ty:∀ d∈xs,tyF d=tyF d0:=λd hd=>by
  obtain⟨n1,t1,c1⟩:=uS ok hd;obtain⟨n2,t2,_⟩:=uS ok hd0;have c:=c1 d0 hd0;cases d with
  |tup as =>
   cases d0 with
   |tup bs=>exact GX c (λz=>by subst z;cases n1) (λz=>by subst z;cases n2) t1 t2
   |_=>cases n2
  |_=>cases n1
 refine⟨tuples' (tyF d0 != Jd "tuple"),λA hu s hS=>⟨λQ E h=>?_,λi j C hi hj h=>?_⟩⟩
 .obtain⟨fs,a1,a2,a3⟩:=VR (M:=Ba prog w) (h:=s.heap) (T:=tyF d0) (vs:=vs) λv hm=>by
   obtain⟨i,hi,e⟩:=Cw.mp hm;obtain⟨d,q1,q2,_⟩:=at' i hi;have:vs.getD i Df=v:=by simp[Gs,hi,e]
   rw[this] at q2;exact⟨d,q2.sup hS,(uS ok q1).1,ty d q1⟩
  refine kat_kind a1 om a3 ?_ h;unfold tyF
  split <;> decide
 .obtain⟨a,a1,a2,a3⟩:=at' i hi
  obtain⟨b,b1,b2,b3⟩:=at' j hj;unfold _S.bQ at h;unfold XV;rw[<- a3,<- b3] at h;have t1:=a2.sup hS;have t2:=b2.sup hS;obtain⟨n1,_,c1⟩:=uS ok a1;obtain⟨n2,_,_⟩:=uS ok b1;have tya:=ty a a1;have c:=c1 b b1;generalize vs.getD i Df=u at *;generalize vs.getD j Df=v at *;cases t1 with
  |int _ _ _=>cases n1
  |tup n p ps its hi1 l1 s1 =>
   cases t2 with
   |int _ _ _=>cases n2
   |tup m q qs jts hi2 l2 s2 =>
    obtain⟨o1,ho1,_,k1,d1⟩:=hi1;obtain⟨o2,ho2,_,k2,d2⟩:=hi2;have h':C (_H.lexLt (qW ps) (qW qs)) s:=by
     have:=@eI ps qs;unfold ltN at this;rw[this] at h;exact h
    refine kat_lt ho1 d1 ho2 d2 (dR (n:=5) (m:=5) l1 l2 s1 s2 c om (λz x hx=>?_) (by simp;omega) h')
    rw[<- tya] at z;cases ps with
    |nil=>cases hx
    |cons x' ps =>
     cases hx;cases x with
     |int i=>exact⟨i,rfl⟩
     |_=>exact absurd z (by simp[tyF])
theorem DY (ok:sOk xs=true):_S.Kind prog w (isN h0) (λ_=>0) _H.lexLt [] (λk=>∃ x∈xs,zF x=k) h0:=
 ⟨_S.uQ,λ{k k' v} ⟨d,t,e⟩ ⟨d',t',e'⟩=>by rw[<- e,<- e',t.det t'],λh1 h2 h3 h4=>BD ok h1 h2 h3 h4⟩
end
end _D
namespace _D
open PySem PySem.Spec PyProof.Rows _L
variable {Q:Ac->Ah->Prop}
noncomputable def fO (d:D)(S:Sto):Al (Aa (Key × D)):=match d with
 |.loc n=>match S[n]? with
  |some (.dct kvs)=>Ab kvs
  |_=>none
 |_=>none
noncomputable def lsD (d:D)(S:Sto):Al (Aa D):=match d with
 |.lst xs=>Ab xs
 |.loc n=>match S[n]? with
  |some (.lst xs)=>Ab xs
  |_=>none
 |_=>none
section
variable {X:Cx}{pins:Aa (Ad × Cg)}{σ : _L.St}{H P:Hp}{α : Aa Ad}{S:Sto}{s:Ah}
set_option tactic.hygienic true in
theorem SC (I:Inv X pins σ H s)(r:Rel X.K H P α S){d:D}{xs:Aa D}{v:V}(h:lsD d S=Ab xs)(p:Rep X.K P α d v):∃ a vs its,v=.ref a/\qB X.K P α xs vs/\qH vs its/\s.heap.IsList a its.toArray/\xs.length=its.length:=by
 unfold lsD at h
 split at h
 .cases h
  obtain⟨a,ws,its,n,rfl,_,t,rvi,e,l,_⟩:=vR I r p;exact⟨a,ws,its,rfl,t,rvi,⟨_,e,rfl,n,rfl⟩,l⟩
 .split at h
  .rename_i hS
   cases h;simp only[Rep] at p;obtain⟨b,rfl,q⟩:=p;obtain⟨ws,z,t⟩:=r.at' _ b _ q hS;obtain⟨its,rvi,pl,_⟩:=I.list (.inl (.inl z));exact⟨b,ws,its,rfl,t,rvi,pl.isList,by rw[t.length,rvi.length]⟩
  .cases h
 .cases h
end
section
open _S PySem.W
variable {prog:Bi}{w:Ca}{A:Br}{E:Ac->Ah->Prop}{s:Ah}
theorem aM {arg:Ac}{Rc:Aa Ac->Ah->Prop}(hu:A.units+16<Ev)(hcol:∀ {R:Aa Ac->Ah->Prop},(∀ vs s1,Rc vs s1->R vs s1)->Av (Ba prog w) A.in1 (collect arg) R E s)
  (h:∀ (vs:Aa Ac) (s1:Ah),Rc vs s1->∃ xs:Aa D,sOk xs=true/\xs.length=vs.length/\xs.length<=100000/\(∀ (i:Af) (x:D) (v:Ac),xs[i]? = Ab x->vs[i]? = Ab v->TrV s1.heap 6 x v) /\
   ∀ (h':Bs) (a:Ad) (c:Af) (ps:Aa (Aa Ag × Ac)),(∀ b o,s1.heap.get? b=Ab o->h'.get? b=Ab o)->s1.heap.objs.size<=a->h'.get? a=Ab (Dx "list" (ps.map (·.2)).toArray c)->ps.map (·.1)=(fD xs).map zF->(∀ p∈ps,isN s1.heap p.1 p.2/\p.2∈vs)->Q (.ref a) { s1 with heap:=h',toks:=s1.toks }) :
  Av (Ba prog w) A (call (.builtin "sorted") [arg]) Q E s:=by
 refine OU kind_sorted plain_sorted entry_sorted (args_sorted1 _) ?_;unfold Mm.«sorted»;refine Ai (m:=checkCount "sorted" 1 1 _) (AT ?_);refine Ai (hcol λvs s1 hR=>?_);obtain⟨xs,ok,hl,hz,ht,h⟩:=h vs s1 hR;refine Ai (Tf ?_ (by rw[Fu];omega))
 have hD:(s1.heap.push (Dx "list" vs.toArray 0)).get? s1.heap.objs.size=Ab (Dx "list" vs.toArray 0):=Be _ rfl;have n0:s1.heap.get? s1.heap.objs.size=none:=by
  cases q:s1.heap.get? s1.heap.objs.size with
  |none=>rfl
  |some o=>exact absurd (Ay q) (Di _)
 have kd:=DY (prog:=prog) (w:=w) (h0:=s1.heap) ok;have hlen:vs.length=(xs.map zF).length:=by rw[Ar];omega
 have hks:∀ i v,vs[i]? = Ab v->isN s1.heap ((xs.map zF).getD i []) v:=λi v hi=>by
  have hii:i<xs.length:=by have:=(Az.mp hi).1;omega
  refine⟨xs[i],ht i _ v (Am hii) hi,?_⟩;simp[Gs,hii]
 show Av _ _ _ _ _ { s1 with heap:=s1.heap.push (Dx "list" vs.toArray 0),toks:=s1.toks }
 refine Ai (Fl (Fg slot_list_sort ⟨_,hD,rfl⟩ Wp (V6 (h0:=s1.heap) (is:=isN s1.heap) kd.ord kd.inj (d:=[]) (vs:=vs) hlen hks hD (by show A.units+2+8<Ev;omega) om (λh2=>kd.cmps hlen hks (λk hk=>by
  obtain⟨x,hx,e⟩:=Bk.mp hk;exact⟨x,hx,e⟩) h2) (λb o e=>Aj _ e) n0 λps pm nf=>⟨_,rfl,?_⟩) (args_list_sort _)))
 refine AT ⟨_,rfl,?_⟩;have old:∀ b o,b≠s1.heap.objs.size->(s1.heap.push (Dx "list" vs.toArray 0)).get? b=Ab o->((((s1.heap.push (Dx "list" vs.toArray 0)).update s1.heap.objs.size (Ey λ_=>#[])).push (Dx "tuple" vs.toArray 0)).push (Dx "list" #[] 0)).get? b=Ab o:=λb o hb e =>
  Aj _ (Aj _ ((Cu _ _ (Eu hb)).trans e))
 obtain⟨e1,he1⟩:∃ e1,((s1.heap.push (Dx "list" vs.toArray 0)).update s1.heap.objs.size (Ey λ_=>#[])).get? s1.heap.objs.size=Ab (Dx "list" #[] e1):=⟨_,Lb hD (λ_=>#[])⟩;have he6:=Lb (Aj (Dx "list" #[] 0) (Aj (Dx "tuple" vs.toArray 0) he1)) (λ_=>(ps.map (·.2)).toArray)
 have pk:(ps.map (·.1)).Perm (xs.map zF):=by
  have:=pm.map (·.1)
  rwa [Pp om] at this
 refine h _ s1.heap.objs.size _ ps (λb o e=>?_) (Ax _) he6 ?_ (λp hp=>?_)
 .have hb:b≠s1.heap.objs.size:=λz=>by
   subst z;exact absurd (Ay e) (Di _)
  exact(Cu _ _ (Eu hb)).trans (old b o hb (Aj _ e))
 .rw[nZ]
  exact jX kd.ord nf (bG kd.ord _) (pk.trans (yN _).symm)
 .obtain⟨i,e1,e2⟩:=Z5 (d:=[]) hlen (pm.mem_iff.mp hp)
  exact⟨e2▸hks i _ e1,Ec e1⟩
end
noncomputable def wW (kvs:Aa (Key × D)):Aa D:=kvs.map λp=>.tup [kD p.1,p.2]
noncomputable def mP (f:DE):DE:=λenv S=>(f env S).bind λd S1=>match fO d S1 with
 |some kvs=>if (decide ((wW kvs).length<=100000)&&sOk (wW kvs))=true then .ok (.loc S1.length) (S1++[.lst (fD (wW kvs))]) else .bad
 |none=>.bad
section
variable {X:Cx}{o:Bn}{fo:DE}{apos cpos pos p2:Eg}
set_option tactic.hygienic true in
theorem iK {d:D}{S:Sto}{kvs:Aa (Key × D)}(h:fO d S=Ab kvs):∃ n,d=.loc n/\S[n]? = Ab (.dct kvs):=by
 unfold fO at h
 split at h
 .split at h
  .rename_i hS
   cases h;exact⟨_,rfl,hS⟩
  .cases h
 .cases h
theorem iN (hc:X.calm=true)(hu:X.A.units+64<Ev)(hg:Gl X "sorted")(hm:X.mg "sorted" = none)(ho:PE X o (tD X fo))(hbase:Gu o "items" X.env (eval o X.env)=eval o X.env:=by rfl)(hline:(apos.endLine == cpos.line)=true:=by rfl) :
  PE X (.Call (.Name "sorted" p2) [.Call (.Attribute o "items" apos) [] [] cpos] [] pos) (tD X (mP fo)):=by
 intro pins s σ H Q I h;obtain⟨P,α,env,S,r,re,af⟩:=h;refine Hs (yU I hg hm iD ?_);refine Na ?_ rfl rfl;refine Ot (IJ hbase hline (thn (zL ho I r re af) λvv s1 ⟨v,H1,P1,α1,d,S1,G1,af1⟩=>?_));cases hd:fO d S1 with
 |none=>rw[hd] at af1;exact An af1
 |some kvs =>
  rw[hd] at af1;dsimp only at af1;obtain⟨hok,af1⟩:=y7 (X:=X) af1;rw[As,Aq] at hok;obtain⟨hz5,ok⟩:=hok;obtain⟨n,rfl,hS⟩:=iK hd;have rp:=G1.rep;have I1:=G1.inv;have r1:=G1.rel;have ht:tyD (.loc n) S1=Ab "dict":=mC hS;obtain⟨h1,h2⟩:=pN I1 G1.val (pO r1 rp ht (by simp))
  simp only[Rep] at rp;obtain⟨a,rfl,ha⟩:=rp;cases (show vv=Cf a from G1.val)
  obtain⟨vs,z,t⟩:=r1.at' n a _ ha hS;obtain⟨hz,hds,us,rel,dd⟩:=pT I1.hok z;refine⟨"dict","dict.items",Hi,Gf,Lq,h1,h2,Hq rfl (Ko ?_)⟩;refine Lp Gf dd.typeIs Lg (Kq _) (Pm (qZ X.prog X.w) a hds) ⟨⟨us,dd⟩,?_⟩;obtain⟨ep,oa,es,hoa,qE⟩:=dd.dictAt;refine OK ?_;have hlu:us.length<=sizeLine:=by rw[<- rel.length];exact hz
  have I2:=I1.kept (t':=s1.toks) (h':=s1.heap.push { cls:=.type "dict_items",data:=.fields #[.ref a] }) λb u e=>Aj _ e;refine aM (Rc:=λus' s'=>∃ (h':Bs) (tk:Af) (as:Aa Ad),us'=as.map Cf/\s'={ s1 with heap:=h',toks:=tk } /\ (∀ b o,(s1.heap.push { cls:=.type "dict_items",data:=.fields #[.ref a] }).get? b=Ab o->h'.get? b=Ab o)/\as.length=us.length/\PySem.W.KdxG (qZ X.prog X.w) us (s1.heap.push { cls:=.type "dict_items",data:=.fields #[.ref a] }).objs.size h' as)
   om (λ{R} hR=>PySem.W.kdx_collect (s:={ s1 with heap:=s1.heap.push { cls:=.type "dict_items",data:=.fields #[.ref a] } }) (knd:=qZ X.prog X.w) (d:=a) (kvs:=us) (ep:=ep) (I1.ok.hd hc) ⟨_,Be _ rfl,rfl,rfl⟩ ⟨oa,es,Aj _ hoa,qE⟩ hlu λh' tk as hk hlen g=>hR _ _ ⟨h',tk,as,rfl,rfl,hk,hlen,g⟩) ?_
  rintro _ _ ⟨h',tk,as,rfl,rfl,hk,hlen,g⟩;have hlv:as.length=vs.length:=by rw[hlen,rel.length]
  have hfst:(yG as vs).map (·.1)=as:=fF as vs hlv
  have nd:((yG as vs).map (·.1)).Nodup:=by
   rw[hfst];exact g.rise.imp λhlt=>Cn hlt
  have hge:∀ p∈yG as vs,(s1.heap.push { cls:=.type "dict_items",data:=.fields #[.ref a] }).objs.size<=p.1:=λp hp=>by
   have:p.1∈as:=by rw[<- hfst];exact Bk.mpr ⟨p,hp,rfl⟩
   exact Dz (g.above _ this)
  have I3:Inv X pins σ (xH H1 (yG as vs)) { s1 with heap:=h',toks:=tk }:=Inv.laidL (s:={ s1 with heap:=s1.heap.push { cls:=.type "dict_items",data:=.fields #[.ref a] } }) (L:=yG as vs) (t':=tk) I2 hk hge λp hp=>by
   obtain⟨j,q,e1,e2,e3⟩:=fG hp;obtain⟨u,e4,e5⟩:=fU rel e2;obtain⟨key,k,x,f1,f2,f3⟩:=g.pairs j p.1 e1;rw[e4] at f1;cases f1;rw[e3];exact⟨(by decide:2<=sizeLine),[key,u],.cons (cU f2) (.cons e5 .nil),_,f3,rfl,_,rfl⟩
  obtain⟨r3,e3⟩:=r1.pureL (L:=yG as vs) (λp hp=>I2.hok.fresh (hge p hp)) nd;have rps:qB X.K (xH P1 (yG as vs)) α1 (wW kvs) (as.map V.ref):=pJ (KVs.mono e3 (Bf _) t) hlv λp hp=>gG nd hp;have lk:(wW kvs).length=as.length:=by have:=rps.length;rwa [Ar] at this
  have at':∀ (i:Af) (x:D) (u:Ac),(wW kvs)[i]? = Ab x->(as.map Cf)[i]? = Ab u->TrV h' 6 x u/\∃ w,qF w u/\Rep X.K (xH P1 (yG as vs)) α1 x w:=λi x u hx hu'=>by
   obtain⟨y,f1,f2⟩:=rps.get hx;obtain⟨z',g1,g2⟩:=(l3 as).get f1;cases g1.symm.trans hu';refine⟨LG I3 r3 6 ?_ f2 g2,y,g2,f2⟩;have:=Bt.mp ok _ (Ec hx);simp only[As] at this;exact this.1.2
  refine⟨wW kvs,ok,by rw[lk,Ar],hz5,λi x u hx hu'=>(at' i x u hx hu').1,λh2 b c ps kp hb hob hps hp=>?_⟩
  have vv:∀ (ps:Aa (Aa Ag × Ac)) (ys:Aa D),ps.map (·.1)=ys.map zF->(∀ y∈ys,y∈wW kvs)->(∀ p∈ps,isN h' p.1 p.2/\p.2∈as.map Cf)->∃ ws,qH ws (ps.map (·.2))/\qB X.K (xH P1 (yG as vs)) α1 ys ws:=by
   intro ps
   induction ps with
   |nil =>
    intro ys e _ _;cases ys with
    |nil=>exact⟨[],.nil,.nil⟩
    |cons _ _=>cases e
   |cons p ps ih =>
    intro ys e hy h;cases ys with
    |nil=>cases e
    |cons y ys =>
     injection e with e1 e2
     obtain⟨ws,a1,a2⟩:=ih ys e2 (λx hx=>hy x (by simp[hx])) λq hq=>h q (by simp[hq])
     obtain⟨⟨d',t',c'⟩,hm'⟩:=h p (by simp)
     obtain⟨i,hi,ei⟩:=Cw.mp hm';have hik:i<(wW kvs).length:=by rw[lk];simpa using hi
     obtain⟨t2,w,rw',pw⟩:=at' i _ p.2 (Am hik) (by rw[Am hi,ei])
     have hd':=t'.det t2;subst hd';have:(wW kvs)[i]=y:=bT t2.tr (uS ok (hy y (by simp))).2.1 (c'.trans e1)
     rw[this] at pw;exact⟨w::ws,.cons rw' a1,.cons pw a2⟩
  obtain⟨ws,a1,a2⟩:=vv ps (fD (wW kvs)) hps (λy hy=>(j9 _).mem_iff.mp hy) hp;have hwl:ws.length<=sizeLine:=by
   have q1:=a2.length;have q2:=(j9 (wW kvs)).length_eq;rw[Fu];omega
  have I4:Inv X pins σ (xH (xH H1 (yG as vs)) [(b,HO.lst ws)]) { s1 with heap:=h2,toks:=tk }:=Inv.laidL (s:={ s1 with heap:=h',toks:=tk }) (L:=[(b,HO.lst ws)]) (t':=tk) I3 kp (λp hpm=>by
   have:p=(b,HO.lst ws):=by simpa using hpm
   subst this;exact hb) λp hpm=>by
   have:p=(b,HO.lst ws):=by simpa using hpm
   subst this;exact⟨hwl,ps.map (·.2),c,a1,hob⟩
  exact⟨.ref b,_,I4,rfl,tL r3 (I3.hok.fresh hb) a2 (qP.base (G1.same.trans e3) G1.pre af1)⟩
end
section
variable {X:Cx}{o:Bn}{fo:DE}{apos cpos pos p2:Eg}{cm:Ap}{k:Af}
theorem Q6 (hc:X.calm=true)(hr:RoomC cm k X.A)(hg:Gl X "sorted")(hm:X.mg "sorted" = none)(ho:QE X o fo)(hbase:Gu o "items" X.env (eval o X.env)=eval o X.env:=by rfl)(hline:(apos.endLine == cpos.line)=true:=by rfl) :
  QE X (.Call (.Name "sorted" p2) [.Call (.Attribute o "items" apos) [] [] cpos] [] pos) (mP fo):=⟨iN hc hr.units hg hm ho.1 hbase hline⟩
end
section
variable {prog:Bi}{w:Ca}{A:Br}{R:Xk->Ah->Prop}{I:Ad}{fp wr:Aa Ad}{n:Af}{P:Af->Ac->Prop}{St:Af->Bs->Prop}{S q:Ad}{h0:Bs}{kw:Aa (Ao × Ac)}{kf:Af->Ag}
def Z9 (prog:Bi)(w:Ca)(A:Br)(h0:Bs)(q:Ad)(P:Af->Ac->Prop)(kf:Af->Ag):Prop:=
 ∀ i v (s:Ah) (Q:Ac->Ah->Prop) (E:Ac->Ah->Prop),_S.Sup h0 s.heap->P i v->(∀ t h' tk,(∀ b o,s.heap.get? b=Ab o->h'.get? b=Ab o)->Q (.int (kf i) t) { s with heap:=h',toks:=tk }) -> Av (Ba prog w) A (call (.ref q) [v]) Q E s
noncomputable def gtK (kf:Af->Ag)(i j:Af):Ap:=decide (kf i>kf j)
theorem lD:(toString "max" ++ toString ".loop" : Dt) = "max.loop":=by decide
theorem WD (W:Walks prog w A.in1 I fp wr n P St)(hq:Z9 prog w A.in1 h0 q P kf)(hf:S ∉ fp)(hS0:h0.get? S=none)(hw0:∀ b∈wr,h0.get? b=none) :
  ∀ (k j:Af) (s:Ah) (u:Ac) (t:Qk) (c:Af),j+1+k=n->_S.Sup h0 s.heap->St (j+1) s.heap->P (Fh (gtK kf) j) u->s.heap.get? S=Ab { cls:=.type "list",dict:=none,data:=.seq #[u,.int (kf (Fh (gtK kf) j)) t] c,slots:=#[] } ->
  (∀ v h' tk,P (Fh (gtK kf) (n-1)) v->(∀ b o,b ∉ wr->b≠S->s.heap.get? b=Ab o->h'.get? b=Ab o)->R (.ok (.ret v)) { s with heap:=h',toks:=tk }) ->
  IE (Ba prog w) A (.builtin "max.loop" ⟨[.ref I,.ref q,.ref S],kw⟩) R s:=by
 have hw:S ∉ wr:=λz=>hf (W.sub _ z);intro k
 induction k with
 |zero =>
  intro j s u t c hk hs st hu hS hR;have hn:j+1=n:=by omega
  subst hn;refine Nt Jb ?_;rw[Jx Ef _];refine Ai (Fc hS rfl ?_);refine Ai (IB (W.done s _ _ st λh' tk q=>?_));refine Ai ?_;exact Qw (q S _ hw hS) rfl (Ai (Jj (AT (hR u _ tk hu λb o z1 z2 e=>(Cu _ _ (Eu z2)).trans (q b o z1 e)))))
 |succ k ih =>
  intro j s u t c hk hs st hu hS hR;refine Nt Jb ?_;rw[Jx Ef _];refine Ai (Fc hS rfl ?_);refine Ai (IB (W.item (j+1) s _ _ om st λv h' tk hv st' q=>?_));have hS':=q S _ hw hS;have hs':_S.Sup h0 h':=λb o e=>q b o (λz=>by rw[hw0 b z] at e;cases e) (hs b o e)
  refine Ai (IB (Fl (hq (j+1) v _ _ _ hs' hv λt2 h2 tk2 kp=>?_)));have hS2:=kp S _ hS';have hs2:_S.Sup h0 h2:=λb o e=>kp b o (hs' b o e);have st2:=W.frame _ _ _ st' λb _ o e=>kp b o e;refine Ai (IB (Fl (Ai (gt_int ?_))));refine Ai (Fl (OI ?_));refine Ai (Jj (AT ?_));cases hb:gtK kf (j+1) (Fh (gtK kf) j) with
  |true =>
   have hb':decide (kf (j+1)>kf (Fh (gtK kf) j))=true:=hb;rw[hb',Bc rfl];refine Ai ?_;refine Qw hS2 rfl (Ai (Jj ?_));rw[lD];have eb:Fh (gtK kf) (j+1)=j+1:=by rw[Fh,Bc hb]
   have hS3:∃ c',(h2.update S (Ey λ_=>#[v,.int (kf (j+1)) t2])).get? S=Ab { cls:=.type "list",dict:=none,data:=.seq #[v,.int (kf (Fh (gtK kf) (j+1))) t2] c',slots:=#[] }:=by
    rw[eb];exact⟨_,Jf _ hS2 rfl⟩
   obtain⟨c',hS3⟩:=hS3;exact AT ⟨My Ef _,ih (j+1) _ v t2 c' om (λb o e=>(Cu _ _ λy:S=b=>by rw[<- y,hS0] at e;cases e).trans (hs2 b o e)) (W.frame _ _ _ st2 λb z o e=>(Cu _ _ λy:S=b=>hf (y▸z)).trans e) (by rw[eb];exact hv) hS3 λv' h3 tk3 p3 q3=>hR v' h3 tk3 p3 λb o z1 z2 e=>q3 b o z1 z2 ((Cu _ _ (Eu z2)).trans (kp b o (q b o z1 e)))⟩
  |false =>
   have hb':decide (kf (j+1)>kf (Fh (gtK kf) j))=false:=hb;rw[hb',Aw (by simp)]
   refine Ai (Jj ?_);rw[lD];refine AT ⟨My Ef _,ih (j+1) _ u t c om hs2 st2 ?_ ?_ λv' h3 tk3 p3 q3=>hR v' h3 tk3 p3 λb o z1 z2 e=>q3 b o z1 z2 (kp b o (q b o z1 e))⟩
   .rw[Fh,Aw (by rw[hb];simp)]
    exact hu
   .rw[Fh,Aw (by rw[hb];simp)]
    exact hS2
theorem oK (W:Walks prog w A.in1 I fp wr n P St)(hq:Z9 prog w A.in1 h0 q P kf)(hf:S ∉ fp)(hS0:h0.get? S=none)(hw0:∀ b∈wr,h0.get? b=none){s:Ah}{c:Af}(hs:_S.Sup h0 s.heap)(st:St 0 s.heap)(hn:0<n)(hS:s.heap.get? S=Ab { cls:=.type "list",dict:=none,data:=.seq #[] c,slots:=#[] })
  (hR:∀ v h' tk,P (Fh (gtK kf) (n-1)) v->(∀ b o,b ∉ wr->b≠S->s.heap.get? b=Ab o->h'.get? b=Ab o)->R (.ok (.ret v)) { s with heap:=h',toks:=tk }) :
  IE (Ba prog w) A (.builtin "max.loop" ⟨[.ref I,.ref q,.ref S],kw⟩) R s:=by
 have hw:S ∉ wr:=λz=>hf (W.sub _ z);refine Nt Jb ?_;rw[Jx Ef _];refine Ai (Fc hS rfl ?_);refine Ai (IB (W.item 0 s _ _ hn st λv h' tk hv st' q'=>?_));have hS':=q' S _ hw hS;have hs':_S.Sup h0 h':=λb o e=>q' b o (λz=>by rw[hw0 b z] at e;cases e) (hs b o e)
 refine Ai (IB (Fl (hq 0 v _ _ _ hs' hv λt2 h2 tk2 kp=>?_)));have hS2:=kp S _ hS';refine Ai ?_;refine Qw hS2 rfl ?_;rw[lD];exact AT ⟨My Ef _,WD W hq hf hS0 hw0 (n-1) 0 _ v t2 _ om (λb o e=>(Cu _ _ λy:S=b=>by rw[<- y,hS0] at e;cases e).trans (kp b o (hs' b o e))) (W.frame _ _ _ st' λb z o e=>(Cu _ _ λy:S=b=>hf (y▸z)).trans (kp b o e)) hv (Jf _ hS2 rfl) λv' h3 tk3 p3 q3=>hR v' h3 tk3 p3 λb o z1 z2 e=>q3 b o z1 z2 ((Cu _ _ (Eu z2)).trans (kp b o (q' b o z1 e)))⟩
end
section
variable {prog:Bi}{w:Ca}{A:Br}{s:Ah}{z qual:Ao}{params:Kl}{scope:Do}{cl:Aa (Ao × Ad)}{pm ctv:Ac}{a c' t:Ad}{oc:Cg}{ws:Bj Ac}{tk0 tk1:Qk}{k n:Ag}{kj:Af}{p1 p2 p3:Eg}{its:Bj Ac}{j:Af}
theorem FW {E:Ac->Ah->Prop}(hdp:A.depth<Lx)(nl:s.heap.NoLimit)(hs:Ck (dO scope [z]))(hz:(z == ("__debug__" : Ao))=false)(hb:∀ (q:Ao) (b:Bn) (cl:Aa (Ao × Ad)) (pm cdv ctv u:Ac),OB (Ry "<lambda>" q params b scope cl pm cdv ctv) ⟨[u],[]⟩=pure [(z,u)])
  (ho:s.heap.get? a=Ab (Lc "<lambda>" qual params (.Subscript (.Name z p1) (.Constant (.int k) kj p2) p3) scope cl pm c' ctv)) (hc:s.heap.get? c'=Ab oc) (hd:oc.data=.fields ws) (hw:ws[1]? = Ab (.str qual tk0))
  (ht:Oh s.heap t its) (h1 : -(2 ^ 62)<k/\k<2 ^ 62) (hj:Xs k its.size=Ab j) (hi:its[j]? = Ab (.int n tk1)) (h:∀ h' tk,(∀ b o,s.heap.get? b=Ab o->h'.get? b=Ab o)->Q (.int n tk1) { s with heap:=h',toks:=tk }) :
  Av (Ba prog w) A (call (.ref a) [.ref t]) Q E s:=by
 have S:=HF (q:=qual) (params:=params) (body:=.Subscript (.Name z p1) (.Constant (.int k) kj p2) p3) hs (by simp)
 refine Ww (PySem.W.kla_callFunE hdp ho rfl S.co S.gen rfl ⟨c',oc,ws,tk0,rfl,hc,hd,hw⟩ ?_);rw[hb qual _ cl pm (.ref c') ctv (.ref t)];refine AT (wpAny_newFunctionEnv S.nocell (λy hy=>by rw[Dc.mp hy];exact S.par z (by simp)) (λh₁ hns hsb=>?_) S.kind)
 have hk₁:∀ b o,s.heap.get? b=Ab o->h₁.get? b=Ab o:=λb o e=>hsb.extBut b o (Cn (Ay e)) (Aj _ e);refine⟨nl.keeps hk₁,PySem.W.kla_codeExpr ?_⟩;refine Wu (Sj (Nb S.kind (S.par z (by simp)) hns (show Ky z [(z,Cf t)].reverse=Ab (.ref t) by simp) (Tq ?_)) hz)
 have ht₁:Oh h₁ t its:=ht.keeps hk₁;exact Md (x:=.int n tk1) ht₁.typeIs Tv.lookup (getItem_tuple (j:=j) (Q:=λr s'=>r=.int n tk1/\Q r s') ht₁ om om hj hi ⟨rfl,h h₁ _ hk₁⟩) rfl
end
noncomputable def p8 (k:Ag)(d:D):Al Ag:=match d with
 |.tup ds=>match _L.atI ds k with
  |some (.int n)=>Ab n
  |_=>none
 |_=>none
noncomputable def yT (k:Ag):Aa D->Al (Aa Ag)
 |[]=>Ab []
 |d::ds=>match p8 k d,yT k ds with
  |some n,Ab ns=>Ab (n::ns)
  |_,_=>none
noncomputable def f7 (ns:Aa Ag)(xs:Aa D):D:=xs.getD (Fh (gtK λi=>ns.getD i 0) (xs.length-1)) .non
theorem dI {k:Ag}:∀ {xs:Aa D} {ns:Aa Ag} {i:Af} {x:D},yT k xs=Ab ns->xs[i]? = Ab x->p8 k x=Ab (ns.getD i 0)
 |[],_,_,_,_,h=>by cases h
 |d::ds,ns,i,x,e,h=>by
  cases h1:p8 k d with
  |none=>simp only[yT,h1] at e;cases e
  |some n =>
   cases h2:yT k ds with
   |none=>simp only[yT,h1,h2] at e;cases e
   |some ms =>
    simp only[yT,h1,h2] at e;cases e;cases i with
    |zero=>cases h;exact h1
    |succ i =>
     show p8 k x=Ab (ms.getD i 0);exact dI (xs:=ds) h2 h
set_option tactic.hygienic true in
theorem XY {k:Ag}{d:D}{n:Ag}(h:p8 k d=Ab n):∃ ds,d=.tup ds/\_L.atI ds k=Ab (.int n):=by
 unfold p8 at h
 split at h
 .split at h
  .rename_i e;cases h;exact⟨_,rfl,e⟩
  .cases h
 .cases h
section
variable {prog:Bi}{w:Ca}{A:Br}{E:Ac->Ah->Prop}{s:Ah}{l q:Ad}{its:Bj Ac}{kf:Af->Ag}
theorem WE (a v u:Ac):argsOk "max" ⟨[a],[(Eo "key",v),(Eo "default",u)]⟩:=by unfold argsOk;kernel_rfl
theorem oJ {d:Ac}(hh:A.handled=none)(hl:s.heap.IsList l its)(hq:Z9 prog w A.in1 s.heap q (λi v=>its[i]? = Ab v) kf)
  (h:∀ v h' tk,(its.size=0/\v=d\/0<its.size/\its[Fh (gtK kf) (its.size-1)]? = Ab v)->(∀ b o,s.heap.get? b=Ab o->h'.get? b=Ab o)->Q v { s with heap:=h',toks:=tk }) : Av (Ba prog w) A (call (.builtin "max") [.ref l] [(Eo "key",.ref q),(Eo "default",d)]) Q E s:=by
 have hlt:l<s.heap.objs.size:=by obtain⟨_,e,_⟩:=hl;exact Ay e
 have none_at:∀ b,s.heap.objs.size<=b->s.heap.get? b=none:=λb hb=>by
  cases q:s.heap.get? b with
  |none=>rfl
  |some o=>exact absurd (Ay q) (Oc.mpr hb)
 refine kmk_tree PySem.F.kind_max PySem.F.plain_max PySem.F.entry_max (WE _ _ _) ?_;refine Ai (wpAny_of_eq (show Xi "max" ["key","default"] 0 ⟨[],[(Eo "key",.ref q),(Eo "default",d)]⟩=pure [Ab (.ref q),Ab d] from rfl) ?_)
 refine Ai (AT ?_);refine Ai (EQ hl ?_);refine Ai (Fi ?_);have W:=Wz (prog:=prog) (w:=w) (A:=A.in1) hh s.heap.objs.size l (Cn hlt) its;rw[lD];have sz:(s.heap.push { cls:=.type "list_iterator",data:=.fields #[.ref l,.int 0 0] }).objs.size=s.heap.objs.size+1:=Ea ..;have st:=W.frame _ _ _ (show (s.heap.push { cls:=.type "list_iterator",data:=.fields #[.ref l,.int 0 0] }).IsListIter s.heap.objs.size l 0/\(s.heap.push { cls:=.type "list_iterator",data:=.fields #[.ref l,.int 0 0] }).IsList l its from⟨⟨_,Be _ rfl,rfl,rfl⟩,hl.push _⟩) λb _ o e=>Aj { cls:=.type "list",data:=.seq ([] : Aa Ac).toArray } e
 have back:∀ {v:Ac} {h':Bs} {tk:Af},(its.size=0/\v=d\/0<its.size/\its[Fh (gtK kf) (its.size-1)]? = Ab v)->(∀ b o,b ∉ [s.heap.objs.size]->b≠(s.heap.push { cls:=.type "list_iterator",data:=.fields #[.ref l,.int 0 0] }).objs.size->((s.heap.push { cls:=.type "list_iterator",data:=.fields #[.ref l,.int 0 0] }).push { cls:=.type "list",data:=.seq ([] : Aa Ac).toArray }).get? b=Ab o->h'.get? b=Ab o)->Q v { s with heap:=h',toks:=tk }:=λ{v h' tk} hv q=>by
  refine h v h' tk hv λb o e=>q b o (λhm=>?_) (λhm=>?_) (Aj _ (Aj _ e))
  .simp only[Bg,Dg,Ik] at hm
   subst hm;exact absurd (Ay e) (Di _)
  .subst hm
   exact absurd (Ay e) (by rw[sz];exact Oc.mpr (O9 _))
 by_cases hn:its.size=0
 .refine AT ⟨My Ef _,Nt Jb ?_⟩
  rw[Jx Ef _];refine Ai (Fc (Be _ rfl) rfl ?_);refine Ai (IB (W.done _ _ _ (by rw[hn];exact st) λh' tk q=>?_))
  exact Ai (Gj (AT (back (.inl ⟨hn,rfl⟩) λb o z1 _ e=>q b o z1 e)))
 .refine AT ⟨My Ef _,oK (h0:=s.heap) W hq ?_ (none_at _ (by rw[sz];exact O9 _)) (λb hb=>?_) (λb o e=>Aj _ (Aj _ e)) st (Ha hn) (Be _ rfl) λv h' tk hv q=>back (.inr ⟨Ha hn,hv⟩) q⟩
  .rw[sz]
   simp only[Bg,Dg,Ik,Tn];exact⟨Nat.succ_ne_self _,Eu (Cn (Jl hlt))⟩
  .simp only[Bg,Dg,Ik] at hb
   subst hb;exact none_at _ (Ax _)
end
noncomputable def V7 (k:Ag)(ds:Aa D)(S:Sto):Res D:=match ds with
 |[d]=>match lsD d S with
  |some xs=>match yT k xs with
   |some ns=>.ok (f7 ns xs) S
   |none=>.bad
  |_=>.bad
 |_=>.bad
noncomputable def lV (k:Ag)(fA:DA):DE:=λenv S=>(fA env S).bind λds S1=>V7 k ds S1
section
variable {X:Cx}{e:Bn}{fA:DA}{p pos kp kp2 np lpos p1 p2 p3:Eg}{nj:Af}{cm:Ap}{kk:Af}{y z:Ao}{params:Kl}{scope:Do}{k:Ag}{kj:Af}
theorem X1 (hc:X.calm=true)(hr:RoomC cm kk X.A)(M:LmK X y)(hg:Gl X "max")(hm:X.mg "max" = none)(hB:dN X.env.scope X.N scope [] = true)(hs:Ck (dO scope [z]))(hz:(z == ("__debug__" : Ao))=false)(hk : -(2 ^ 62)<k/\k<2 ^ 62)(hdef:Xa params X.env=([],[]))
  (hb:∀ (q:Ao) (b:Bn) (cl:Aa (Ao × Ad)) (pm cdv ctv u:Ac),OB (Ry "<lambda>" q params b scope cl pm cdv ctv) ⟨[u],[]⟩=pure [(z,u)]) (ha:PA X [e] (tDA X fA)) (he:Bl [e] X.env=(false,eval e X.env)::Bl [] X.env:=by rfl) :
  PE X (.Call (.Name "max" p) [e] [⟨Ab "key",.Lambda params (.Subscript (.Name z p1) (.Constant (.int k) kj p2) p3) scope lpos,kp⟩,⟨Ab "default",.Constant .none nj np,kp2⟩] pos) (tD X (lV k fA)):=by
 intro pins s σ H Q I h;obtain⟨P,α,env,S,r,re,af⟩:=h;obtain⟨m1,m2,m3,c,T,m4⟩:=M.1;refine Hs (yU I hg hm (u:=.builtin "max") (by decide +kernel) ?_ (by decide) (by decide))
 refine callWith_kw (thn (wC ha I r re af pos) λus s1 ⟨vs,H1,P1,α1,ds,S1,I1,rv,r1,re1,rp,e1,e2',af1⟩=>kws_cons (W3 I1 r1 m1 m4 (m2 c T m4) m3 hdef (W0 hB I1.ok) λa H2 s2 pm ctv c' oc ws t I2 r2 hc' hd hs'=>kws_cons (wpAny_Constant_none (kws_nil ?_)))) (by rw[he];rfl) (by rw[he];rfl)
 show Av _ _ (call (.builtin "max") us [(Eo "key",.ref a),(Eo "default",Df)]) _ _ s2
 match ds,af1,rp with
 |[],af1,_=>exact An af1
 |_::_::_,af1,_=>exact An af1
 |[dd],af1,rp =>
  simp only[V7] at af1;cases hls:lsD dd S1 with
  |none=>rw[hls] at af1;exact An af1
  |some xs =>
   rw[hls] at af1;dsimp only at af1;cases hks:yT k xs with
   |none=>rw[hks] at af1;exact An af1
   |some ns =>
    rw[hks] at af1;obtain⟨v',u',rfl,rfl,p',q⟩:=v3 rp rv;obtain⟨a',wl,its,rfl,t',rvi,hl,ll⟩:=SC I2 r2 hls p';cases (show u'=Cf a' from q)
    have I3:Inv X pins σ H2 s2:=I2.pins_of λp hp=>I2.pin p (Bx _ (Au _ hp));have at':∀ (i:Af) (u:Ac),its.toArray[i]? = Ab u->∃ vv,qF vv u/\Rep X.K P1 α1 (xs.getD i .non) vv/\p8 k (xs.getD i .non)=Ab (ns.getD i 0):=λi u hi=>by
     have hi':its[i]? = Ab u:=by simpa using hi
     have hii:i<its.length:=(Az.mp hi').1;have hx:xs[i]? = Ab (xs[i]' om):=Am om;obtain⟨y,f1,f2⟩:=t'.get hx;obtain⟨z,g1,g2⟩:=rvi.get f1;cases g1.symm.trans hi';have e:xs.getD i .non=xs[i]' om:=by rw[Hy,hx];rfl
     rw[e];exact⟨y,g2,f2,dI hks hx⟩
    have hz':its.toArray.size=xs.length:=by simp only[Bh];rw[<- ll]
    have ho:=(I2.pin _ (Bx _ (.head _))).1;have hoc:=(I2.hok c' _ hc').1;refine oJ (kf:=λi=>ns.getD i 0) (I2.ok.hd hc) hl (λi v s3 Q' E' hsup hi hQ=>?_) λv h' tk hv hk'=>?_
    .obtain⟨vv,g1,g2,g3⟩:=at' i v hi
     obtain⟨dt,ed,et⟩:=XY g3;rw[ed] at g2;obtain⟨b,wv,bt,rfl,_,tt,rt,ht,lt,_⟩:=y9 I2 r2 g2;cases (show v=Cf b from g1)
     obtain⟨j,j1,j2,j3,_,_⟩:=mJ et;obtain⟨vj,f1,f2⟩:=tt.get j2;obtain⟨uj,f3,f4⟩:=rt.get f1;simp only[Rep] at f2;subst f2;obtain⟨tj,rfl⟩:=f4;refine FW (A:=X.A.in1) hr.depth (I2.nolimit.keeps hsup) hs hz hb (hsup _ _ ho) (hsup _ _ hoc) hd hs' (ht.keeps hsup) hk ?_ (by simpa using f3) λh' tk kp=>hQ tj h' tk kp
     rw[Bh,<- lt];exact j1
    .rcases hv with⟨h0,rfl⟩|⟨_,hv⟩
     .have:xs=[]:=Ff.mp om
      subst this;exact⟨.non,H2,I3.kept (t':=tk) hk',rfl,af1 .non H2 P1 α1 r2 e1 e2' (by simp only[f7,List.getD_nil,Rep])⟩
     .obtain⟨vv,rv',rp',_⟩:=at' _ v hv
      rw[hz'] at rp';exact⟨vv,H2,I3.kept (t':=tk) hk',rv',af1 vv H2 P1 α1 r2 e1 e2' rp'⟩
theorem EL (M:LmK X y)(hc:X.calm=true)(hr:RoomC cm kk X.A)(h:Ck (okG X "max" && dN X.env.scope X.N scope []))(hs:Ck (dO scope [z]))(hz:Ck (okN z))(hk : -(2 ^ 62)<k/\k<2 ^ 62)(hdef:Xa params X.env=([],[]))
  (hb:∀ (q:Ao) (b:Bn) (cl:Aa (Ao × Ad)) (pm cdv ctv u:Ac),OB (Ry "<lambda>" q params b scope cl pm cdv ctv) ⟨[u],[]⟩=pure [(z,u)]) (hm:X.mg "max" = none) (ha:QA X [e] fA) (he:Bl [e] X.env=(false,eval e X.env)::Bl [] X.env:=by rfl) :
  QE X (.Call (.Name "max" p) [e] [⟨Ab "key",.Lambda params (.Subscript (.Name z p1) (.Constant (.int k) kj p2) p3) scope lpos,kp⟩,⟨Ab "default",.Constant .none nj np,kp2⟩] pos) (lV k fA):=by
 unfold Ck at h hz;rw[As] at h;exact⟨X1 hc hr M (yY h.1).1 hm h.2 hs (pD hz).1 hk hdef hb ha.1 he⟩
end
noncomputable def dP (d:D)(S:Sto):Al Af:=match d with
 |.loc n=>match S[n]? with
  |some (.dct kvs)=>Ab kvs.length
  |_=>none
 |.fd ks _=>Ab ks.length
 |_=>none
noncomputable def fP:DF:=λds S=>match ds with
 |[d]=>match dP d S with
  |some n=>.ok (.int n) S
  |none=>.bad
 |_=>.bad
section
variable {X:Cx}
set_option tactic.hygienic true in
theorem U2:wL X (.builtin "len") fP:=by
 intro pins σ H s P α S vs us ds Q I r rv rp af;have hl:=jU
 match ds,rp,af with
 |[],_,af=>exact An af
 |_::_::_,_,af=>exact An af
 |[d],rp,af =>
  obtain⟨v,u,rfl,rfl,p,q⟩:=v3 rp rv;cases hn:dP d S with
  |none=>simp only[fP,hn] at af;exact An af
  |some m =>
   simp only[fP,hn] at af;have key:∃ a kvs us,u=Cf a/\kvs.length=m/\kvs.length<=sizeLine/\(a == Hn)=false/\KV kvs us/\s.heap.DictOf (qZ X.prog X.w) a us:=by
    cases d with
    |loc n =>
     simp only[dP] at hn
     split at hn
     .rename_i kvs hS
      cases hn;simp only[Rep] at p;obtain⟨a,rfl,ha⟩:=p;cases (show u=Cf a from q)
      obtain⟨ws,z,t⟩:=r.at' n a _ ha hS;obtain⟨hz,hd,us,rel,dd⟩:=pT I.hok z;exact⟨a,ws,us,rfl,(tB t).symm,hz,hd,rel,dd⟩
     .cases hn
    |fd ks ds =>
     cases hn;simp only[Rep] at p;obtain⟨a,ob,vs,rfl,qq,hl,t⟩:=p;cases (show u=Cf a from q)
     obtain⟨hob,hz,hd,us,rel,dd⟩:=(show zE X.prog X.w H s.heap a (.frz ob (.dK (ks.zip vs))) from I.hok a _ (r.sub _ _ qq))
     exact⟨a,_,us,rfl,by rw[Nr];omega,hz,hd,rel,dd⟩
    |_=>cases hn
   obtain⟨a,kvs,us,rfl,rfl,hz,hd,rel,dd⟩:=key;have e:=rel.length;have hs:sizeLine=16777216:=Fu;refine call_len_dict hd dd om ?_;rw[<- e];exact⟨.int kvs.length,H,I.tok _,⟨_,rfl⟩,xr af r (by simp only[Rep])⟩
theorem LS:ZCall X (.builtin "len") fP:=⟨U2⟩
end
inductive AccT {K:Type}(w:Ca)(hash:K->Ag)(enc:K->D)(Kf:Ak)(P:Hp)(α : Aa Ad)(ds:Aa D)(o:Cg):Prop
 |mk (es:Bj (Ag × Ac)) (ep:Af) (t:OC) (ks:Aa K) (kv:Aa (K × Ac)) (ho:o=_S.setO es ep t) (T:_S.TabT t es) (led:t.led=_S.M4 w) (hds:ds=ks.map enc) (hes:es.toList=kv.map λp=>(hash p.1,p.2)) (nd:(kv.map (·.1)).Nodup) (mem:∀ k,k∈kv.map (·.1)↔k∈ks) (rp:∀ p∈kv,∃ v,qF v p.2/\Rep Kf P α (enc p.1) v):AccT w hash enc Kf P α ds o
section
variable {K:Type}{w:Ca}{hash:K->Ag}{enc:K->D}{Kf:Ak}{P P1:Hp}{α α1:Aa Ad}{ds:Aa D}{o:Cg}
theorem AccT.mono (e:qD P P1)(h:α<+:α1)(a:AccT w hash enc Kf P α ds o):AccT w hash enc Kf P1 α1 ds o:=by
 obtain⟨es,ep,t,ks,kv,h1,h2,h3,h4,h5,h6,h7,h8⟩:=a;exact⟨es,ep,t,ks,kv,h1,h2,h3,h4,h5,h6,h7,λp hp=>let ⟨v,a,b⟩:=h8 p hp;⟨v,a,Rep.mono e h _ _ b⟩⟩
theorem AccT.cell (a:AccT w hash enc Kf P α ds o):∀ v,o.data≠.cell v:=by
 obtain⟨es,ep,t,ks,kv,rfl,_⟩:=a;intro v z;cases z
end
@[reducible] def accS {K:Type}(w:Ca)(hash:K->Ag)(enc:K->D):Acc:=⟨true,AccT w hash enc,AccT.mono,AccT.cell⟩
noncomputable def lQ (ds:Aa D):Ap:=match wR ds with
 |some ks=>decide ((_S.srt _H.lexLt ks).length<=1000)&&ks.all λk=>!k.isEmpty
 |none=>false
section
variable {X:Cx}{K:Type}{is:Bs->K->Ac->Prop}{hash:K->Ag}{enc:K->D}{lt:K->K->Ap}{d:K}{Fit:K->Prop}{chk:Aa D->Ap}{elt tg iter:Bn}{ifs:Aa Bn}{scope:Do}{pos:Eg}{N':Aa Ao}{cap:Aa (Al Af)}{fi:DI2}{g:DG}{t:DT}{kk:DK}{qE:Aa Du}
inductive SetEnd (X:Cx){K:Type}(hash:K->Ag)(enc:K->D)(pins:Aa (Ad × Cg))(σ : _L.St)(P1:Hp)(α1:Aa Ad)(ds:Aa D)(SF:Sto)(acc:Ad)(s:Ah):Prop
 |mk (H' P':Hp) (α' : Aa Ad) (o:Cg) (I:Inv X pins σ H' s) (r:Rel X.K H' P' α' SF) (e1:qD P1 P') (e2:α1<+:α') (ho:s.heap.get? acc=Ab o) (a:AccT X.w hash enc X.K P' α' ds o):SetEnd X hash enc pins σ P1 α1 ds SF acc s
theorem tV {pins:Aa (Ad × Cg)}{σ σ':_L.St}{H2:Hp}{s2 s':Ah}{fp:Aa Ad}{acc C:Ad}{P1:Hp}{α1:Aa Ad}{H' P':Hp}{α':Aa Ad}{envF:qC}{SF:Sto}{ds:Aa D}{o:Cg}{cl:Aa (Ao × Ad)}(I2:Inv X pins σ H2 s2)
  (hf:∀ b∈fp,x8 X pins H2 b) (hC:s2.heap.objs.size<=C) (hne:acc≠C) (st:TurnSt (accS X.w hash enc) (zG X N' scope cl C fp s2 H2) [] P1 α1 fp acc envF SF ds s' σ' H' P' α' o)
  {h':Bs} (sb:Fe C s'.heap h'):SetEnd X hash enc pins σ P1 α1 ds SF acc { s' with heap:=h' }:=by
 have kC:∀ b o,b≠C->s'.heap.get? b=Ab o->h'.get? b=Ab o:=λb o hb e=>(sb.2 b hb).trans e;have nC:∀ b o,s2.heap.get? b=Ab o->b≠C:=λb o e=>Cn (Bd (Ay e) hC);have base:Un (frs X.stack) fp H2 H' s2.heap s'.heap:=st.inv.base;have un:Un (frs X.stack) fp H2 H' s2.heap h':=by
  refine⟨λb ob q hn hb hx=>kC b ob (nC b ob q) (base.keep b ob q hn hb hx),λb ob q hn hb hx=>?_,base.free,λb ob q hx=>?_,base.tups,base.frzs,base.tbls⟩
  .obtain⟨sl,e⟩:=base.slot b ob q hn hb hx
   exact⟨sl,kC b _ (nC b ob q) e⟩
  .obtain⟨o',e⟩:=base.there b ob q hx
   exact⟨o',kC b o' (nC b ob q) e⟩
 have hok':HOk X.prog X.w H' h':=nM st.inv.hok st.inv.free kC;refine⟨H',P',α',o,?_,st.rel,st.same,st.pre,kC acc o hne st.at',st.acc⟩;exact I2.call' (s':={ s' with heap:=h' }) (ch:=fp) (st.inv.os) un hok' st.inv.bare λb hb=>by
  obtain⟨_,h1,h2,h3,h4,h5⟩:=hf b hb;exact⟨h3,h1,h4,h5⟩
end
end _D
section
end
section
end
section
end
namespace _D
open PySem
variable {kvs:Aa (_L.Key × D)}{ds:Aa D}{n p:Af}{hi:Al Ag}{F:DF}{S1 S':Sto}
def Nx (o:Out)(Q:qC->Sto->Prop):Prop:=∃ env S,o=.nx env S/\Q env S
def Rt (o:Out)(Q:D->Sto->Prop):Prop:=∃ d S,o=.rt d S/\Q d S
def Ok {β:Type}(r:Res β)(Q:β->Sto->Prop):Prop:=∃ d S,r=.ok d S/\Q d S
theorem bD {o:Out}{Q:qC->Sto->Prop}{env:qC}{S:Sto}(h:o=.nx env S)(q:Q env S):Nx o Q:=⟨env,S,h,q⟩
theorem qN {β:Type}{r:Res β}{Q:β->Sto->Prop}{d:β}{S:Sto}(h:r=.ok d S)(q:Q d S):Ok r Q:=⟨d,S,h,q⟩
theorem MC {f g:DS}{env:qC}{S:Sto}{Q:qC->Sto->Prop}(h:Nx (f env S) λenv1 S1=>Nx (g env1 S1) Q):Nx (qL f g env S) Q:=by
 obtain⟨env1,S1,e,env2,S2,e2,q⟩:=h;exact⟨env2,S2,by unfold qL;rw[e];exact e2,q⟩
theorem kA {f g:DS}{env:qC}{S:Sto}{Q:D->Sto->Prop}(h:Nx (f env S) λenv1 S1=>Rt (g env1 S1) Q):Rt (qL f g env S) Q:=by
 obtain⟨env1,S1,e,env2,S2,e2,q⟩:=h;exact⟨env2,S2,by unfold qL;rw[e];exact e2,q⟩
theorem aA {t:DT}{f g:DS}{env:qC}{S:Sto}{b:Ap}{Q:qC->Sto->Prop}(h:t env S=.ok b S1)(k:Nx ((if b then f else g) env S1) Q):Nx (sIf t f g env S) Q:=by
 obtain⟨env2,S2,e2,q⟩:=k;refine⟨env2,S2,?_,q⟩;unfold sIf;rw[h];cases b <;> exact e2
theorem dY {f:DE}{i:Af}{env:qC}{S:Sto}{Q:qC->Sto->Prop}(h:Ok (f env S) λd S1=>Q (env.set i (Ab d)) S1):Nx (qR f (gNm i) env S) Q:=by
 obtain⟨d,S1,e,q⟩:=h;exact⟨_,S1,by unfold qR gNm;rw[e];rfl,q⟩
theorem QC {f:DE}{env:qC}{S:Sto}{Q:D->Sto->Prop}(h:Ok (f env S) Q):Rt (qY f env S) Q:=by
 obtain⟨d,S1,e,q⟩:=h;exact⟨_,S1,by unfold qY;rw[e];rfl,q⟩
theorem WH {t:DT}{f:DS}{Q:qC->Sto->Prop}(I:Af->qC->Sto->Prop)(turn:∀ n env S,I n env S->∃ b S1,t env S=.ok b S1/\(if b then Nx (f env S1) (λenv2 S2=>∃ m,m<n/\I m env2 S2) else Q env S1)) :
  ∀ {n:Af} {env:qC} {S:Sto},n<big->I n env S->Nx (vS t f env S) Q:=by
 have key:∀ N n env S,n<N->I n env S->Nx (wK t f N env S) Q:=by
  intro N
  induction N with
  |zero=>intro n env S h;omega
  |succ N ih =>
   intro n env S h hI;obtain⟨b,S1,e1,k⟩:=turn n env S hI;cases b with
   |false =>
    refine⟨env,S1,?_,by simpa using k⟩
    unfold wK;rw[e1];rfl
   |true =>
    simp only[Dm] at k;obtain⟨env2,S2,e2,m,hm,hI2⟩:=k;obtain⟨env3,S3,e3,q⟩:=ih m env2 S2 om hI2;refine⟨env3,S3,?_,q⟩;unfold wK;rw[e1];simp only[Res.toS,Dm,e2];exact e3
 exact λ{n env S} h hI=>key big n env S h hI
theorem bZ {fe:DE}{env:qC}{S:Sto}{acc:Aa D}{x:D}(h:fe env S=.ok x S1)(hl:acc.length<lim):zX fe env S acc=.ok (env,acc++[x]) S1:=by
 unfold zX;rw[h];simp[Res.bind,hl]
theorem gU {cap:Aa (Al Af)}{fi:DI2}{g:DG}{t:DT}{k:DK}{env env':qC}{S:Sto}{o:Al (Af × MO)}{items:Aa D}(h:fi env S=.ok (o,items) S1)(e:goL o g t k items (xX cap env) S1 [] = .ok (env',ds) S'):zY false cap fi g t k env S=.ok (.lst ds) S':=by
 unfold zY;rw[h];simp only[Res.bind,e,mkM];rfl
theorem L3 {g:DS}{S:Sto}{d:D}{env:qC}(hs:y8 n ds=env)(h:g env S=.rt d S'):qO n g ds S=.ok d S':=by
 subst hs;unfold qO;rw[h];rfl
theorem GS {o:Al (Af × MO)}{S:Sto}(h:stn o S)(e:S<+:S'):stn o S':=by
 cases o with
 |none=>trivial
 |some p =>
  obtain⟨r,rfl⟩:=e;have h':S[p.1]? = Ab p.2:=h;show (S++r)[p.1]? = Ab p.2;rw[Bo (Az.mp h').1];exact h'
theorem pW {α β:Type}(sel:α->Ap)(val:α->β)(l:Aa α) : (l.flatMap λd=>if sel d then [val d] else []) = (l.filter sel).map val:=by
 induction l with
 |nil=>rfl
 |cons d l ih =>
  rw[Jq,ih];cases h:sel d <;> simp[h]
theorem goT {α:Type}{enc:α->D}{o:Al (Af × MO)}{g:DG}{t:DT}{k:DK}(out:α->Aa D)(C:qC->Sto->Prop)(hC:∀ env S,C env S->stn o S) :
  ∀ (xs:Aa α) (env:qC) (S:Sto) (acc:Aa D),C env S->acc.length+(xs.flatMap out).length<=lim ->
  (∀ x∈xs,∀ env S acc,C env S->acc.length+(out x).length<=lim->∃ env1 S1 b S2,g (enc x) env S=.ok env1 S1/\t env1 S1=.ok b S2/\((b=false/\out x=[]/\C env1 S2)\/(b=true/\∃ env3 S3,k env1 S2 acc=.ok (env3,acc++out x) S3/\C env3 S3))) ->
  ∃ env' S',goL o g t k (xs.map enc) env S acc=.ok (env',acc++xs.flatMap out) S'/\C env' S'
 |[],env,S,acc,h,hl,_=>⟨env,S,by simp[goL,wJ.mpr (hC _ _ h)],h⟩
 |x::xs,env,S,acc,h,hl,step=>by
  rw[Jq,Dj] at hl;obtain⟨env1,S1,b,S2,e1,e2,r⟩:=step x (Bv ..) env S acc h om;have hst:=wJ.mpr (hC _ _ h);rcases r with⟨rfl,h0,h2⟩|⟨rfl,env3,S3,e3,h3⟩
  .obtain⟨env',S',e,q⟩:=goT out C hC xs env1 S2 acc h2 om λd hd=>step d (Au _ hd)
   refine⟨env',S',?_,q⟩;simp only[Bz,goL,hst,Dm,e1,e2,Res.bind,Cz,Fv,Jq,h0,Ja];exact e
  .obtain⟨env',S',e,q⟩:=goT out C hC xs env3 S3 (acc++out x) h3 (by rw[Dj];omega) λd hd=>step d (Au _ hd)
   refine⟨env',S',?_,q⟩;simp only[Bz,goL,hst,Dm,e1,e2,Res.bind,e3,Jq];rw[e,Ci]
section
variable {α β:Type}{enc:α->D}{enc2:β->D}{cap:Aa (Al Af)}{fi:DI2}{g:DG}{t:DT}{fe:DE}{env:qC}{S S0:Sto}{o:Al (Af × MO)}{xs:Aa α}
theorem H9 (hst:stn o S)(sel:α->Ap)(val:α->D)(C:qC->Prop)(h0:C env)(hl:xs.length<=lim)
  (step:∀ x∈xs,∀ env S',C env->S<+:S'->∃ env1 S1,g (enc x) env S'=.ok env1 S'/\C env1/\t env1 S'=.ok (sel x) S1/\S'<+:S1/\(sel x=true->∃ S2,fe env1 S1=.ok (val x) S2/\S1<+:S2)) :
  ∃ env' S',goL o g t (zX fe) (xs.map enc) env S [] = .ok (env',(xs.filter sel).map val) S'/\S<+:S':=by
 have lf:(xs.flatMap λd=>if sel d then [val d] else []).length<=lim:=by
  rw[pW,Ar];exact Dd (Hz _ _) hl
 obtain⟨env',S',e,_,q⟩:=goT (enc:=enc) (o:=o) (g:=g) (t:=t) (k:=zX fe) (λd=>if sel d then [val d] else []) (λenv S'=>C env/\S<+:S') (λ_ _ h=>GS hst h.2) xs env S [] ⟨h0,Bf _⟩ (by simpa using lf) (λd hd env S' acc hC hl=>by
  obtain⟨env1,S1,e1,c1,e2,p1,k⟩:=step d hd env S' hC.1 hC.2;refine⟨env1,S',sel d,S1,e1,e2,?_⟩;cases hs:sel d with
  |false=>exact .inl ⟨rfl,by simp,c1,hC.2.trans p1⟩
  |true =>
   obtain⟨S2,e3,p2⟩:=k hs;refine .inr ⟨rfl,env1,S2,?_,c1,(hC.2.trans p1).trans p2⟩;simp only[Dm];exact bZ e3 (by simp only[hs,Dm,Mq] at hl;omega))
 refine⟨env',S',?_,q⟩;rw[e,Ja,pW]
theorem BF (h:fi env S0=.ok (o,xs.map enc) S)(hst:stn o S)(sel:α->Ap)(val:α->D)(C:qC->Prop)(h0:C (xX cap env))(hl:xs.length<=lim)
  (step:∀ x∈xs,∀ env S',C env->S<+:S'->∃ env1 S1,g (enc x) env S'=.ok env1 S'/\C env1/\t env1 S'=.ok (sel x) S1/\S'<+:S1/\(sel x=true->∃ S2,fe env1 S1=.ok (val x) S2/\S1<+:S2)) :
  ∃ S',zY false cap fi g t (zX fe) env S0=.ok (.lst ((xs.filter sel).map val)) S'/\S<+:S':=by
 obtain⟨env',S',e,q⟩:=H9 hst sel val C h0 hl step;exact⟨S',gU h e,q⟩
theorem DR (hst:stn o S)(sel:α->Ap)(val:α->D)(C:qC->Prop)(h0:C env)(hl:xs.length<=lim)
  (step:∀ x∈xs,∀ env,C env->∃ env1,g (enc x) env S=.ok env1 S/\C env1/\t env1 S=.ok (sel x) S/\(sel x=true->fe env1 S=.ok (val x) S)) :
  ∃ env',goL o g t (zX fe) (xs.map enc) env S [] = .ok (env',(xs.filter sel).map val) S:=by
 have lf:(xs.flatMap λd=>if sel d then [val d] else []).length<=lim:=by
  rw[pW,Ar];exact Dd (Hz _ _) hl
 obtain⟨env',S',e,_,q⟩:=goT (enc:=enc) (o:=o) (g:=g) (t:=t) (k:=zX fe) (λd=>if sel d then [val d] else []) (λenv S'=>C env/\S'=S) (λ_ _ h=>h.2▸hst) xs env S [] ⟨h0,rfl⟩ (by simpa using lf) (λd hd env S' acc hC hl=>by
  obtain⟨hc,rfl⟩:=hC;obtain⟨env1,e1,c1,e2,k⟩:=step d hd env hc;refine⟨env1,S',sel d,S',e1,e2,?_⟩;cases hs:sel d with
  |false=>exact .inl ⟨rfl,by simp,c1,rfl⟩
  |true =>
   refine .inr ⟨rfl,env1,S',?_,c1,rfl⟩;simp only[Dm];exact bZ (k hs) (by simp only[hs,Dm,Mq] at hl;omega))
 subst q;refine⟨env',?_⟩;rw[e,Ja,pW]
theorem rJ (h:fi env S=.ok (o,xs.map enc) S)(hst:stn o S)(sel:α->Ap)(val:α->D)(C:qC->Prop)(h0:C (xX cap env))(hl:xs.length<=lim)
  (step:∀ x∈xs,∀ env,C env->∃ env1,g (enc x) env S=.ok env1 S/\C env1/\t env1 S=.ok (sel x) S/\(sel x=true->fe env1 S=.ok (val x) S)) :
  zY false cap fi g t (zX fe) env S=.ok (.lst ((xs.filter sel).map val)) S:=by
 obtain⟨env',e⟩:=DR hst sel val C h0 hl step;exact gU h e
end
theorem LZ {f1:DE}{env:qC}{S:Sto}{a:D}(h1:f1 env S=.ok a S1):qK 1 F (q8 f1 (qA)) env S=F [a] S1:=by
 simp only[qK,q8,qA,h1,Res.bind,By,Ew,Dm]
theorem mD {env:qC}{i:Af}{d:D}{S:Sto}(h:env[i]? = Ab (Ab d)):q9 i env S=.ok d S:=by simp only[q9,h]
theorem iA {α:Type}(p:α->Ap)(l:Aa α) : w9 (l.map λx=>D.bl (p x))=Ab (l.map p):=by
 induction l with
 |nil=>rfl
 |cons x l ih =>
  show (w9 (l.map λx=>D.bl (p x))).map (p x::·)=_
  rw[ih];rfl
section
variable {β γ:Type}{env:qC}{S:Sto}
theorem qS {r:Res β}{k:β->Sto->Res γ}{Q:γ->Sto->Prop}(h:Ok r λd S1=>Ok (k d S1) Q):Ok (r.bind k) Q:=by
 obtain⟨d,S1,rfl,h⟩:=h;exact h
theorem wO {r:Res β}{d:β}(h:Ok r λd' S'=>d'=d/\S'=S):r=.ok d S:=by
 obtain⟨_,_,e,rfl,rfl⟩:=h;exact e
theorem zC {r:Res β}{Q Q':β->Sto->Prop}(h:Ok r Q)(k:∀ d S,Q d S->Q' d S):Ok r Q':=by
 obtain⟨d,S,e,q⟩:=h;exact⟨d,S,e,k d S q⟩
variable {Q:D->Sto->Prop}{f g:DE}{fa:DA}{o:G2}{i j:Af}
theorem o_c {d:D}(h:Q d S):Ok (dC d env S) Q:=⟨_,_,rfl,h⟩
theorem o_v {d:D}(e:env[i]? = Ab (Ab d))(h:Q d S):Ok (q9 i env S) Q:=⟨_,_,mD e,h⟩
theorem o_2 (h:Ok (f env S) λa S1=>Ok (g env S1) λb S2=>Ok (o a b S2) Q):Ok (d2 o f g env S) Q:=qS (zC h λ_ _=>qS)
theorem VC {Q:Aa D->Sto->Prop}(h:Q [] S):Ok (qA env S) Q:=⟨_,_,rfl,h⟩
theorem pB {Q:Aa D->Sto->Prop}(h:Ok (f env S) λa S1=>Ok (fa env S1) λas S2=>Q (a::as) S2):Ok (q8 f fa env S) Q:=qS (zC h λ_ _ k=>qS (zC k λ_ _ q=>⟨_,_,rfl,q⟩))
theorem A9 (h:Ok (fa env S) λas S1=>as.length<=lim/\Q (.tup as) S1):Ok (jF fa env S) Q:=qS (zC h λ_ _ k=>⟨_,_,Bc k.1,k.2⟩)
theorem SN (h:Ok (fa env S) λas S1=>as.length<=lim/\Q (.lst as) S1):Ok (jE fa env S) Q:=qS (zC h λ_ _ k=>⟨_,_,Bc k.1,k.2⟩)
theorem CO (h:Ok (fa env S) λas S1=>as.length<=lim/\Q (.loc S1.length) (S1++[.lst as])):Ok (pS fa env S) Q:=qS (zC h λ_ _ k=>⟨_,_,Bc k.1,k.2⟩)
theorem CZ (h:Q (.loc S.length) (S++[.dct []])) : Ok (bU env S) Q:=⟨_,_,rfl,h⟩
theorem MF (h:Ok (fa env S) λas S1=>as.length=n/\Ok (F as S1) Q):Ok (qK n F fa env S) Q:=qS (zC h λ_ _ k=>by rw[Bc k.1];exact k.2)
theorem A5 {as:Aa D}(h:Ok (F as S) Q):Ok (okO F as S) Q:=by
 obtain⟨d,S1,e,q⟩:=h;exact⟨d,S1,MX e,q⟩
theorem AH (h:Ok (fa env S) λas S1=>Ok (F as S1) Q):Ok (qX F fa env S) Q:=qS h
theorem CY {a b:Ag}(h:Q (.int (a+b)) S):Ok (zA (.int a) (.int b) S) Q:=⟨_,_,rfl,h⟩
theorem MD {a b:Aa D}(l:a.length+b.length<=lim)(h:Q (.lst (a++b)) S):Ok (zA (.lst a) (.lst b) S) Q:=⟨_,_,Bc l,h⟩
theorem A8 {a b:Ag}(h:Q (.int (a-b)) S):Ok (yS (.int a) (.int b) S) Q:=⟨_,_,rfl,h⟩
theorem A4 {a b:Ag}(l : -(2 ^ 64)<a/\a<2 ^ 64)(h:Q (.int (a*b)) S):Ok (qU (.int a) (.int b) S) Q:=by
 refine⟨_,_,?_,h⟩;unfold qU i2;rw[kI];unfold bR;simp only[l,and_self,IH,Ug,Dm]
theorem A3 {a b:Ag}(l:0<b)(h:Q (.int (a % b)) S):Ok (xN (.int a) (.int b) S) Q:=by
 refine⟨_,_,?_,h⟩;unfold xN i2;simp[l]
theorem A0 {a b:Ag}(l:0<b/\b<1073741824)(h:Q (.int (a/b)) S):Ok (yR (.int a) (.int b) S) Q:=by
 refine⟨_,_,?_,h⟩;unfold yR i2 ZJ;simp[l]
theorem AR {a b:Ag}(h:Q (.bl (decide (a<b))) S):Ok (gLt (.int a) (.int b) S) Q:=⟨_,_,rfl,h⟩
theorem AQ {a b:Ag}(h:Q (.bl (decide (a<=b))) S):Ok (gLe (.int a) (.int b) S) Q:=⟨_,_,rfl,h⟩
theorem AO {a b:Ag}(h:Q (.bl (decide (b<a))) S):Ok (gGt (.int a) (.int b) S) Q:=⟨_,_,rfl,h⟩
theorem AM {a b:Ag}(h:Q (.bl (decide (b<=a))) S):Ok (gGe (.int a) (.int b) S) Q:=⟨_,_,rfl,h⟩
theorem AK {a b:Ag}(h:Q (.bl (decide (a=b))) S):Ok (gEq (.int a) (.int b) S) Q:=⟨_,_,by kernel_rfl!,h⟩
theorem AS {a b:Ag}(h:Q (.bl (!decide (a=b))) S):Ok (gNe (.int a) (.int b) S) Q:=⟨_,_,by kernel_rfl!,h⟩
theorem VB {a:Aa D}{k:Ag}{d:D}(e:_L.atI a k=Ab d)(h:Q d S):Ok (gIx (.lst a) (.int k) S) Q:=⟨d,S,by show _D.vV (_L.atI a k) S=_;rw[e];rfl,h⟩
theorem CN {a:Aa D}(h:Q (.int a.length) S):Ok (vM [.tup a] S) Q:=⟨_,_,rfl,h⟩
theorem CM {a:Aa D}(h:Q (.int a.length) S):Ok (vM [.lst a] S) Q:=⟨_,_,rfl,h⟩
theorem CS {a:Aa D}(h:Q (.tup a) S):Ok (fQ [.lst a] S) Q:=⟨_,_,rfl,h⟩
theorem V9 (h:Ok (f env S) λd S1=>∃ b,d=.bl b/\(b=true->Ok (g env S1) Q)/\(b=false->Q (.bl false) S1)):Ok (mO f g env S) Q:=qS (zC h λd S1 ⟨b,e,k1,k2⟩=>by
 subst e;cases b with
 |true=>exact k1 rfl
 |false=>exact⟨_,_,rfl,k2 rfl⟩)
theorem AY {fl fh:DO}(h:Ok (f env S) λd S1=>Ok (fl env S1) λlo S2=>Ok (fh env S2) λhi S3=>Ok (gSl d lo hi S3) Q):Ok (dSl f fl fh env S) Q:=qS (zC h λ_ _ k=>qS (zC k λ_ _=>qS))
theorem A7 {a:Aa D}{lo:Al Ag}(h:Q (.tup (wA a lo hi)) S):Ok (gSl (.tup a) lo hi S) Q:=⟨_,_,rfl,h⟩
theorem A6 {a:Aa D}{lo:Al Ag}(h:Q (.lst (wA a lo hi)) S):Ok (gSl (.lst a) lo hi S) Q:=⟨_,_,rfl,h⟩
theorem AI {Q:Al Ag->Sto->Prop}(h:Q none S):Ok (jS env S) Q:=⟨_,_,rfl,h⟩
theorem AJ {Q:Al Ag->Sto->Prop}(h:Ok (f env S) λd S1=>∃ k,d=.int k/\Q (Ab k) S1):Ok (wZ f env S) Q:=qS (zC h λ_ _ ⟨_,e,q⟩=>by subst e;exact⟨_,_,rfl,q⟩)
theorem AG {T:Dt}{m:D->Aa D->Sto->Res D}(h:Ok (f env S) λa S1=>tyD a S1=Ab T/\Ok (fa env S1) λas S2=>Ok (m a as S2) Q):Ok (dBm T m f fa env S) Q:=qS (zC h λ_ _ k=>by rw[k.1,Bc (by simp)];exact qS k.2)
theorem ME {a b:D}{xs ys:Aa D}(e1:lstM a S=Ab xs)(e2:lstM b S=Ab ys)(l:xs.length+ys.length<=lim)(h:Q (.lst (xs++ys)) S):Ok (pY a b S) Q:=⟨_,_,by unfold pY;rw[e1,e2];exact Bc l,h⟩
theorem VA {xs:Aa D}{d:D}(e:S[i]? = Ab (.lst xs))(l:xs.length<lim)(h:Q .non (S.set i (.lst (xs++[d])))):Ok (xY (.loc i) [d] S) Q:=by
 refine⟨_,_,?_,h⟩;show (match S[i]? with|some (.lst xs)=>(if xs.length<lim then Res.ok D.non (S.set i (.lst (xs++[d]))) else .bad)|_=>.bad)=_
 rw[e];exact Bc l
theorem MI {t:DT}(h:Ok (t env S) λb S1=>(b=true->Ok (f env S1) Q)/\(b=false->Ok (g env S1) Q)):Ok (dIf t f g env S) Q:=qS (zC h λb S1 k=>by
 cases b with
 |true=>exact k.1 rfl
 |false=>exact k.2 rfl)
variable {Q:Ap->Sto->Prop}{t u:DT}
theorem I8 (h:Ok (f env S) λd S1=>∃ b,x5 d S1=Ab b/\Q b S1):Ok (dTr f env S) Q:=qS (zC h λd S1 ⟨b,e,k⟩=>by
 rw[e];exact⟨_,_,rfl,k⟩)
theorem CP (h:Ok (t env S) λb S1=>Q (!b) S1):Ok (vZ t env S) Q:=qS (zC h λ_ _ k=>⟨_,_,rfl,k⟩)
theorem AA (h:Q true S):Ok (yP env S) Q:=⟨_,_,rfl,h⟩
theorem fY (h:Ok (t env S) λb S1=>(b=true->Q true S1)/\(b=false->Ok (u env S1) Q)):Ok (gV t u env S) Q:=qS (zC h λb S1 k=>by
 cases b with
 |true=>exact⟨_,_,rfl,k.1 rfl⟩
 |false=>exact k.2 rfl)
theorem yW (h:Ok (t env S) λb S1=>(b=true->Ok (u env S1) Q)/\(b=false->Q false S1)):Ok (xJ t u env S) Q:=qS (zC h λb S1 k=>by
 cases b with
 |true=>exact k.1 rfl
 |false=>exact⟨_,_,rfl,k.2 rfl⟩)
theorem B0 {xs:Aa D}{a:Af}(h:a<xs.length):_L.atI xs (a:Ag)=Ab xs[a]:=by
 have e:_L.ixN xs.length (a:Ag)=Ab a:=by simp[_L.ixN];lia
 simp[_L.atI,e,h]
theorem uB (S:Sto)(m:MO):(S++[m])[S.length]? = Ab m:=by simp
theorem aY {xs:Aa D}(h:S[j]? = Ab (.lst xs)):tyD (.loc j) S=Ab "list":=by
 show (match S[j]? with|some (.lst _)=>Ab "list" | some (.dct _)=>Ab "dict" | _=>none)=_
 rw[h]
theorem SA {xs:Aa D}(h:S[j]? = Ab (.lst xs)):lstM (.loc j) S=Ab xs:=by
 show (match S[j]? with|some (.lst xs)=>Ab xs|_=>none)=_
 rw[h]
theorem SM {Q:D->Sto->Prop}{a:Aa D}{k:Af}(h:k<a.length)(q:∀ d∈a,Q d S):Ok (gIx (.lst a) (.int (k:Ag)) S) Q:=VB (B0 h) (q _ (Pj h))
theorem CL {Q:Aa D->Sto->Prop}(h:Ok (f env S) λd S1=>∃ xs,d=.tup xs/\Q (yB xs) S1):Ok (l9 (q8 f qA) env S) Q:=qS (pB (zC h λ_ _ ⟨xs,e,q⟩=>VC ⟨_,_,by rw[e];rfl,q⟩))
theorem K1 {Q:Aa D->Sto->Prop}(h:Ok (f env S) λd S1=>∃ ds,zJ d=Ab ds/\Q ds S1):Ok (wY f env S) Q:=qS (zC h λd S1 ⟨ds,e,k⟩=>⟨ds,S1,by rw[e];rfl,k⟩)
theorem VD {Q:Aa D->Sto->Prop}(h:Ok (fa env S) λas S1=>∃ ds,gD as=Ab ds/\Q ds S1):Ok (gW fa env S) Q:=qS (zC h λd S1 ⟨ds,e,k⟩=>⟨ds,S1,by rw[e];rfl,k⟩)
theorem RH (n:Af)(h:n<=1000000):gD [.int (n:Ag)]=Ab ((Ds n).map λ(i:Af)=>D.int (i:Ag)):=by
 unfold gD;have : -(2 ^ 62)<=(n:Ag)/\(n:Ag)<2 ^ 62:=⟨by lia,by lia⟩
 refine(Bc this).trans ?_;unfold xR;rw[Hc]
 congr 2
 funext i
 rw[Qf]
theorem CQ {Q:Aa D->Sto->Prop}(h:Ok (f env S) λd S1=>∃ k:Ag,d=.int k/\0<=k/\k<=1000000/\Q ((Ds k.toNat).map λ(i:Af)=>D.int (i:Ag)) S1):Ok (gW (q8 f qA) env S) Q:=VD (pB (zC h λ_ _ ⟨k,e,h0,h1,q⟩=>VC ⟨_,by
 have:=RH k.toNat li;rw[Int.toNat_of_nonneg h0] at this;rw[e,this],q⟩))
theorem kZ {Q:D->Sto->Prop}{xs:Aa D}{k:Ag}{d:D}(e:S[i]? = Ab (.lst xs))(e':_L.atI xs k=Ab d)(h:Q d S):Ok (gIx (.loc i) (.int k) S) Q:=by
 refine⟨d,S,?_,h⟩;show (match S[i]? with|some (.lst xs)=>_D.vV (_L.atI xs k) S|_=>.bad)=_
 rw[e];show _D.vV (_L.atI xs k) S=_;rw[e'];rfl
theorem MJ {Q:D->Sto->Prop}{xs:Aa D}(e:S[i]? = Ab (.lst xs))(h:Q (.int xs.length) S):Ok (vM [.loc i] S) Q:=by
 refine⟨_,_,?_,h⟩;have e':cW (.loc i) S=Ab xs.length:=by
  show (match S[i]? with|some (.lst xs)=>Ab xs.length|_=>none)=_
  rw[e]
 show (match cW (.loc i) S with|some n=>Res.ok (D.int n) S|none=>.bad)=_
 rw[e']
theorem MN {Q:Qm->Sto->Prop}{d:D}{n:Ag}(e:S[i]? = Ab (.dct kvs))(hl:kvs.length<lim)(h:Q () (S.set i (.dct (xC kvs (.inl n) d)))):Ok (xE (.loc i) (.int n) d S) Q:=by
 refine⟨_,_,?_,h⟩;show (match S[i]? with|some (.dct kvs)=>(match xO (.int n) with|some k=>(if kvs.length<lim then Res.ok () (S.set i (.dct (xC kvs k d))) else .bad)|none=>.bad)|_=>bY (.loc i) (.int n) d S)=_
 rw[e];exact Bc hl
theorem oR {Q:Qm->Sto->Prop}{xs:Aa D}{d:D}{n:Ag}(e:S[i]? = Ab (.lst xs))(e':_L.ixN xs.length n=Ab j)(h:Q () (S.set i (.lst (xs.set j d)))):Ok (xE (.loc i) (.int n) d S) Q:=by
 refine⟨_,_,?_,h⟩;simp[xE,bY,e,e']
theorem BI (h:S[i]? = Ab (.dct kvs)):fO (.loc i) S=Ab kvs:=by
 show (match S[i]? with|some (.dct kvs)=>Ab kvs|_=>none)=_
 rw[h]
theorem FT {xs:Aa D}(h:env[i]? = Ab (Ab (.tup xs))):dIt (q9 i) env S=.ok (none,xs) S:=by
 unfold dIt;rw[mD h];rfl
theorem XU {xs:Aa D}(h:env[i]? = Ab (Ab (.lst xs))):dIt (q9 i) env S=.ok (none,xs) S:=by
 unfold dIt;rw[mD h];rfl
theorem FS {xs:Aa D}(h:env[i]? = Ab (Ab (.loc j)))(e:S[j]? = Ab (.lst xs)):dIt (q9 i) env S=.ok (Ab (j,.lst xs),xs) S:=by
 unfold dIt;rw[mD h];show (match S[j]? with|some (.lst xs)=>Res.ok (Ab (j,MO.lst xs),xs) S|_=>.bad)=_
 rw[e]
theorem d7 {α:Type}(f:α->β):∀ l:Aa α,l.flatMap (λx=>[f x])=l.map f
 |[]=>rfl
 |x::l=>by rw[Jq,d7 f l];rfl
theorem jY {α:Type}{enc:α->D}{o:Al (Af × MO)}{cap:Aa (Al Af)}{fi:DI2}{tg:DG}{fe:DE}{Q:D->Sto->Prop}(xs:Aa α)(val:α->D)(C:qC->Sto->Prop)(hi:fi env S=.ok (o,xs.map enc) S1)(h0:C (xX cap env) S1)(hl:xs.length<=lim)(hst:∀ env S,C env S->stn o S)
  (step:∀ x∈xs,∀ env S,C env S->Ok (tg (enc x) env S) λenv1 S1=>Ok (t env1 S1) λb S2=>b=true/\Ok (fe env1 S2) λd S3=>d=val x/\C env1 S3) (q:∀ env' S',C env' S'->Q (.lst (xs.map val)) S'):Ok (zY false cap fi tg t (zX fe) env S) Q:=by
 have fm:=d7 val xs;obtain⟨env',S',e,c⟩:=goT (enc:=enc) (o:=o) (g:=tg) (t:=t) (k:=zX fe) (λx=>[val x]) C hst xs (xX cap env) S1 [] h0 (by rw[fm,Ar];simpa using hl) (λx hx env S acc hC hl=>by
  obtain⟨env1,S1,e1,b,S2,e2,rfl,d,S3,e3,rfl,c3⟩:=step x hx env S hC;exact⟨env1,S1,true,S2,e1,e2,.inr ⟨rfl,env1,S3,bZ e3 (by simp at hl;lia),c3⟩⟩)
 rw[fm,Ja] at e;exact⟨_,_,gU hi e,q env' S' c⟩
theorem aD {α:Type}{Q:D->Sto->Prop}{l:Aa α}{p:α->Ap}(h:Q (.bl (l.all p)) S):Ok (bX false [.lst (l.map λx=>.bl (p x))] S) Q:=by
 refine⟨_,_,?_,h⟩;show (match (zJ (.lst (l.map λx=>D.bl (p x)))).bind w9 with|some bs=>Res.ok (D.bl (bs.all id)) S|none=>.bad)=_
 rw[show (zJ (.lst (l.map λx=>D.bl (p x)))).bind w9=Ab (l.map p) from iA p l]
 simp only[Nu];rfl
theorem MK {Q:D->Sto->Prop}{gg:G2}{a b x y:D}{z:D}(e1:vG bV S a=Ab x)(e2:vG bV S b=Ab y)(e3:gg x y (u4 S)=.ok z (u4 S))(ha:cJ z=true)(h:Q z S):Ok (bA gg a b S) Q:=by
 refine⟨z,S,?_,h⟩;unfold bA;rw[e1,e2];show cX (gg x y (u4 S)) S=_;rw[e3];exact Bc ha
theorem JV {f:D->Al D}{xs:Aa D}(h:∀ x∈xs,f x=Ab x):mapO f xs=Ab xs:=by
 induction xs with
 |nil=>rfl
 |cons x xs ih=>simp[mapO,h x (Bv ..),ih λy hy=>h y (Au _ hy)]
theorem Y9 {xs:Aa D}(e:S[i]? = Ab (.lst xs))(h:∀ x∈xs,vG 19 S x=Ab x):vG bV S (.loc i)=Ab (.lst xs):=by
 show (match S[i]? with|some (.lst xs)=>(mapO (vG 19 S) xs).map D.lst|_=>none)=_
 rw[e];show (mapO (vG 19 S) xs).map D.lst=_;rw[JV h];rfl
theorem AX {Q:qC->Sto->Prop}{h:G3}{d:D}(k:Ok (f env S) λa S1=>Ok (g env S1) λb S2=>Ok (h a b d S2) λ_ S3=>Q env S3):Ok (gSb f g h d env S) Q:=qS (zC k λ_ _ k=>qS (zC k λ_ _ k=>qS (zC k λ_ _ q=>⟨_,_,rfl,q⟩)))
variable {Q:qC->Sto->Prop}
theorem AU {d:D}(h:Q (env.set i (Ab d)) S):Ok (gNm i d env S) Q:=⟨_,_,rfl,h⟩
theorem AZ {gs:DGs}{xs:Aa D}(h:xs.length=n/\Ok (gs xs env S) Q):Ok (gTp n gs (.tup xs) env S) Q:=by
 obtain⟨d,S1,e,q⟩:=h.2;exact⟨d,S1,by show (if xs.length=n then gs xs env S else .bad)=_;rw[Bc h.1];exact e,q⟩
theorem AN (h:Q env S):Ok (w5 [] env S) Q:=⟨_,_,rfl,h⟩
theorem AL {t:DG}{gs:DGs}{x:D}{xs:Aa D}(h:Ok (t x env S) λenv1 S1=>Ok (gs xs env1 S1) Q):Ok (zH t gs (x::xs) env S) Q:=qS h
def Wo (P:Out->Prop)(o:Out):Prop:=P o
def aL (g:DS)(P:Out->Prop):Out->Prop
 |.nx env S=>P (g env S)
 |o=>P o
noncomputable def cD (b:Ap)(f g:DS):DS:=match b with
 |true=>f
 |false=>g
def EW (Q:D->Sto->Prop):Out->Prop
 |.rt d S=>Q d S
 |.nx _ S=>Q .non S
 |_=>Ez
def cZ {α:Type}(I:Aa α -> qC->Sto->Prop)(xs:Aa α)(P:Out->Prop):Out->Prop
 |.nx env S=>I xs env S
 |.ct env S=>I xs env S
 |.bk env S=>P (.nx env S)
 |o=>P o
variable {P:Out->Prop}{sf sg:DS}{fi:DI}{tg:DG}{d:D}
theorem RV (h:Wo (aL sg P) (sf env S)):Wo P (qL sf sg env S):=by
 unfold qL;unfold Wo at h ⊢;cases e:sf env S <;> rw[e] at h <;> exact h
theorem C6 (h:Wo P (sg env S)):Wo (aL sg P) (.nx env S):=h
theorem IA (h:Wo P (.rt d S)):Wo (aL sg P) (.rt d S):=h
theorem CU (h:Wo P (.nx env S)):Wo P (zT env S):=h
theorem jD {r:Res β}{k:β->Sto->Out}(h:Ok r λd S1=>Wo P (k d S1)):Wo P (r.toS env k):=by
 obtain⟨d,S1,rfl,h⟩:=h;exact h
theorem AB (h:Ok (f env S) λd S1=>Ok (tg d env S1) λenv' S2=>Wo P (.nx env' S2)):Wo P (qR f tg env S):=jD (zC h λ_ _=>jD)
theorem CT (h:Ok (f env S) λ_ S1=>Wo P (.nx env S1)):Wo P (xV f env S):=jD h
theorem AE (h:Ok (f env S) λd S1=>Wo P (.rt d S1)):Wo P (qY f env S):=jD h
theorem AD (h:Ok (fa env S) λds S1=>∃ a b,ds=[a,b]/\Wo P (.nx ((env.set i (Ab a)).set j (Ab b)) S1)):Wo P (tU i j fa env S):=jD (zC h λ_ _ ⟨_,_,e,q⟩=>by subst e;exact q)
theorem I9 (h:Ok (t env S) λb S1=>Wo P (cD b sf sg env S1)):Wo P (sIf t sf sg env S):=jD (zC h λb S1 q=>by cases b <;> exact q)
theorem w_t (h:Wo P (sf env S)):Wo P (cD true sf sg env S):=h
theorem w_f (h:Wo P (sg env S)):Wo P (cD false sf sg env S):=h
theorem AC {b:Ap}(h:Wo P (cD b sg sf env S)):Wo P (cD (!b) sf sg env S):=by cases b <;> exact h
theorem uA {p:Prop}[Il p](h1:p->Wo P (sf env S))(h2:¬ p->Wo P (sg env S)):Wo P (cD (decide p) sf sg env S):=by
 by_cases h:p
 .rw[Bw h];exact h1 h
 .rw[Cc h];exact h2 h
theorem VS (h:Ok (fi env S) λds S1=>Wo P (xF tg sf ds env S1)):Wo P (v7 fi tg sf env S):=jD h
theorem vA {α:Type}{enc:α->D}(I:Aa α -> qC->Sto->Prop)(turn:∀ x xs env S,I (x::xs) env S->Ok (tg (enc x) env S) λenv1 S1=>Wo (cZ I xs P) (sf env1 S1))(last:∀ env S,I [] env S->Wo P (.nx env S)) :
  ∀ {xs:Aa α} {env:qC} {S:Sto},I xs env S->Wo P (xF tg sf (xs.map enc) env S)
 |[],env,S,h=>last env S h
 |x::xs,env,S,h=>by
  obtain⟨env1,S1,e1,h1⟩:=turn x xs env S h;rw[Bz,xF];unfold Wo at h1 ⊢;simp only[e1,Res.toS];cases e2:sf env1 S1 with
  |nx env2 S2=>rw[e2] at h1;exact vA I turn last h1
  |ct env2 S2=>rw[e2] at h1;exact vA I turn last h1
  |bk env2 S2=>rw[e2] at h1;exact h1
  |rt d2 S2=>rw[e2] at h1;exact h1
  |ex c2 x2 env2 S2=>rw[e2] at h1;exact h1
  |bad=>rw[e2] at h1;exact h1
theorem GY (I:Aa D->qC->Sto->Prop)(turn:∀ x xs env S,I (x::xs) env S->Ok (tg x env S) λenv1 S1=>Wo (cZ I xs P) (sf env1 S1))(last:∀ env S,I [] env S->Wo P (.nx env S)){xs:Aa D}{env:qC}{S:Sto}(h:I xs env S):Wo P (xF tg sf xs env S):=by
 have:=vA (enc:=id) I turn last h
 rwa [Rk] at this
def whQ (I:Af->qC->Sto->Prop)(n:Af)(P:Out->Prop):Out->Prop
 |.nx env S=>∃ m,m<n/\I m env S
 |.ct env S=>∃ m,m<n/\I m env S
 |.bk env S=>P (.nx env S)
 |o=>P o
theorem tX (I:Af->qC->Sto->Prop)(turn:∀ n env S,I n env S->Ok (t env S) λb S1=>(b=true->Wo (whQ I n P) (sf env S1))/\(b=false->Wo P (.nx env S1))){n:Af}(hn:n<big)(h:I n env S):Wo P (vS t sf env S):=by
 have key:∀ N n env S,n<N->I n env S->Wo P (wK t sf N env S):=by
  intro N
  induction N with
  |zero=>intro n env S h;lia
  |succ N ih =>
   intro n env S h hI;obtain⟨b,S1,e1,k1,k2⟩:=turn n env S hI;unfold wK;rw[e1];cases b with
   |false=>exact k2 rfl
   |true =>
    have k:=k1 rfl;unfold Wo at k ⊢;simp only[Res.toS,Dm];cases e2:sf env S1 with
    |nx env2 S2=>rw[e2] at k;obtain⟨m,hm,hI2⟩:=k;exact ih m env2 S2 li hI2
    |ct env2 S2=>rw[e2] at k;obtain⟨m,hm,hI2⟩:=k;exact ih m env2 S2 li hI2
    |bk env2 S2=>rw[e2] at k;exact k
    |rt d2 S2=>rw[e2] at k;exact k
    |ex c2 x2 env2 S2=>rw[e2] at k;exact k
    |bad=>rw[e2] at k;exact k
 exact key big n env S hn h
theorem mE {I:Af->qC->Sto->Prop}(m:Af)(hm:m<n)(h:I m env S):Wo (whQ I n P) (.nx env S):=⟨m,hm,h⟩
theorem jC {α:Type}{I:Aa α -> qC->Sto->Prop}{xs:Aa α}(h:I xs env S):Wo (cZ I xs P) (.nx env S):=h
theorem zB {Q:D->Sto->Prop}(hs:y8 n ds=env)(h:Wo (EW Q) (sf env S)):Ok (qO n sf ds S) Q:=by
 subst hs;unfold qO;unfold Wo at h;cases e:sf (y8 n ds) S <;> rw[e] at h <;> first|exact⟨_,_,rfl,h⟩|exact An h
end
abbrev Pt:=Ag × Ag
noncomputable def ptD (p:Pt):D:=.tup [.int p.1,.int p.2]
noncomputable def p9 (l:Aa Pt):D:=.tup (l.map ptD)
noncomputable def kP (p:Pt):Aa Ag:=[p.1,p.2]
noncomputable def pK (k:Aa Ag):Pt:=(k.getD 0 0,k.getD 1 0)
theorem dS (ps:Aa Pt):ps.map ptD=(ps.map kP).map tpD:=by
 rw[Ei];rfl
noncomputable def ltP (p q:Pt):Ap:=_H.lexLt [p.1,p.2] [q.1,q.2]
abbrev Up (l:Aa Pt):Prop:=l.Pairwise λp q=>ltP p q=true
theorem AV {Q:D->Sto->Prop}{p:Pt}{S:Sto}(h:Q (.int p.1) S):Ok (gIx (ptD p) (.int 0) S) Q:=⟨_,_,rfl,h⟩
theorem AW {Q:D->Sto->Prop}{p:Pt}{S:Sto}(h:Q (.int p.2) S):Ok (gIx (ptD p) (.int 1) S) Q:=⟨_,_,rfl,h⟩
theorem sE (ps:Aa Pt):pl zP (.lst (ps.map ptD))=true:=by
 show ((ps.map ptD).all (pl 29))=true;rw[Nu];exact Bt.mpr λp _=>rfl
theorem lX:∀ (a b:Aa Pt),zU (a.map ptD) (b.map ptD)=decide (a=b)
 |[],[]=>rfl
 |[],_::_=>by simp[zU]
 |_::_,[]=>by simp[zU]
 |x::a,y::b=>by
  show ((x.1 == y.1&&(x.2 == y.2&&true))&&zU (a.map ptD) (b.map ptD))=_;rw[lX a b,IW];simp[Ym,and_assoc]
theorem SK {Q:D->Sto->Prop}{a b:Aa Pt}{S:Sto}(h:Q (.bl (decide (a=b))) S):Ok (gEq (.lst (a.map ptD)) (.lst (b.map ptD)) S) Q:=by
 refine⟨_,_,?_,h⟩;unfold gEq;rw[sE,sE];show Res.ok (D.bl (zU (a.map ptD) (b.map ptD))) S=_;rw[lX]
def InB (B:Ag)(q:Pt):Prop:=-B<=q.1/\q.1<=B /\ -B<=q.2/\q.2<=B
instance (B:Ag)(q:Pt):Il (InB B q):=by unfold InB;exact inferInstance
structure Lot (M:Af)(l:Aa Pt):Prop where
 ne:l≠[]
 len:l.length<=M
 up:Up l
 box:∀ q∈l,InB 1000 q
def vL (S:Sto)(p:Af):Prop:=∃ v f:Ag,S[p]? = Ab (.lst [.int v,.int f])
theorem jZ {S:Sto}(h:vL S p)(e:S<+:S'):vL S' p:=by
 obtain⟨v0,f0,hp⟩:=h;obtain⟨r,rfl⟩:=e;exact⟨v0,f0,by rw[Bo (Az.mp hp).1];exact hp⟩
structure Kp (p:Af)(S S':Sto):Prop where
 pen:vL S' p
 len:S.length<=S'.length
 same:∀ m,m<S.length->m≠p->S'[m]? = S[m]?
theorem Kp.trans {S S2:Sto}(a:Kp p S S1)(b:Kp p S1 S2):Kp p S S2:=⟨b.pen,Dd a.len b.len,λm hm hp=>(b.same m (Bd hm a.len) hp).trans (a.same m hm hp)⟩
theorem TN {S:Sto}(h:vL S p):p<S.length:=by
 obtain⟨v,f,e⟩:=h;exact(Az.mp e).1
theorem Kp.pre {S:Sto}(h:vL S p)(e:S<+:S'):Kp p S S':=⟨jZ h e,e.length_le,λm hm _=>(OZ.mp e m hm).trans (Am hm).symm⟩
theorem Kp.set {j:Af}{S:Sto}(h:Kp p S S')(hj:S.length<=j)(m:MO)(hp:p≠j):Kp p S (S'.set j m):=by
 obtain⟨v,f,e⟩:=h.pen;exact⟨⟨v,f,by rw[Cb (Eu hp)];exact e⟩,by rw[Wh];exact h.len,λi hi hn=>by rw[Cb om];exact h.same i hi hn⟩
end _D
local macro_rules|`(tactic|array_get_dec)=>`(tactic| first | (with_reducible first | apply _D.RV | apply _D.C6 | apply _D.AB | apply _D.o_2 | apply _D.o_c | apply _D.pB | apply _D.VC | apply _D.CY | apply _D.A8 | apply _D.A9 | apply _D.SN | apply _D.MF | apply _D.AH | apply _D.A5 | apply _D.I8 | apply _D.CP | apply _D.I9 | apply _D.w_t | apply _D.w_f | apply _D.AC | apply _D.CU | apply _D.CT | apply _D.AE | apply _D.IA | apply _D.AD | apply _D.VS | apply _D.AR | apply _D.AQ | apply _D.AO | apply _D.AM | apply _D.AK | apply _D.AS | apply _D.CN | apply _D.CM | apply _D.CS | apply _D.CO | apply _D.AY | apply _D.A7 | apply _D.A6 | apply _D.AI | apply _D.AJ | apply _D.AG | apply _D.CZ | apply _D.AZ | apply _D.AL | apply _D.AN | apply _D.AA | apply _D.AV | apply _D.AW | apply _D.AX | apply _D.CL | apply _D.K1 | apply _D.CQ) | ((with_reducible apply _D.o_v); exact rfl) | ((with_reducible apply _D.AU); dsimp only [List.set_cons_succ, List.set_cons_zero]) | ((with_reducible (first | apply _D.A4 | apply _D.A3 | apply _D.A0)); omega) | ((with_reducible apply And.intro); (first | exact rfl | exact Nat.le_of_ble_eq_true rfl)) | ((with_reducible apply Exists.intro); (with_reducible apply And.intro); exact rfl) | ((with_reducible apply Exists.intro); (with_reducible apply Exists.intro); (with_reducible apply And.intro); exact rfl; dsimp only [List.set_cons_succ, List.set_cons_zero]) | ((with_reducible apply Exists.intro); (with_reducible apply Exists.intro); (with_reducible apply Exists.intro); (with_reducible apply And.intro); exact rfl; dsimp only [List.set_cons_succ, List.set_cons_zero]))
local macro_rules|`(tactic|rfl')=>`(tactic| repeat array_get_dec)
namespace _D
open PySem
variable {kvs:Aa (_L.Key × D)}{ks:Aa Ag}{xs:Aa D}{n:Af}{i:D}{S:Sto}
def Pn (d:D):Prop:=∃ p,pyD d=Ab p
theorem pns:∀ {ps:Aa PyData},fC xs=Ab ps->∀ x∈xs,Pn x:=by
 induction xs with
 |nil=>intro ps _ x hx;cases hx
 |cons d ds ih =>
  intro ps h x hx;simp only[fC] at h;obtain⟨p,h1,h2⟩:=Ep.mp h;obtain⟨ps',h3,_⟩:=Ee.mp h2;rcases Bg.mp hx with rfl|hx
  .exact⟨p,h1⟩
  .exact ih h3 x hx
theorem oV (h:Pn (.tup xs)):∀ x∈xs,Pn x:=by
 obtain⟨p,h⟩:=h;simp only[pyD] at h;obtain⟨ps,h1,_⟩:=Ee.mp h;exact pns h1
theorem oW:∀ {xs:Aa D},(∀ x∈xs,Pn x)->∃ l,fC xs=Ab l
 |[],_=>⟨[],rfl⟩
 |x::xs,h=>by
  obtain⟨l,e⟩:=oW (xs:=xs) λy hy=>h y (Au _ hy);obtain⟨q,e'⟩:=h x (Bv ..);refine⟨q::l,?_⟩;show (pyD x).bind (λx=>(fC xs).map (x::·))=_
  rw[e,e'];rfl
theorem HM (h:∀ x∈xs,Pn x):Pn (.tup xs):=by
 obtain⟨l,e⟩:=oW h;exact⟨.tuple l,by simp only[pyD,e,Option.map_some]⟩
theorem R5 (q:Pt):Pn (ptD q):=⟨.tuple [.int q.1,.int q.2],rfl⟩
theorem TU (l:Aa Pt):Pn (p9 l):=HM λx hx=>by
 obtain⟨q,_,rfl⟩:=Bk.mp hx;exact R5 q
noncomputable def inR (a b:Ag):D->Ap
 |.int i=>decide (a<=i/\i<=b)
 |_=>false
noncomputable def isW:D->Ap
 |.int _=>true
 |_=>false
noncomputable def isT:D->Ap
 |.tup _=>true
 |_=>false
theorem V3 {d:D}(h:Pn d)(S:Sto):uI [d,.ty "tuple"] S=.ok (.bl (isT d)) S:=by
 obtain⟨p,h⟩:=h;cases d <;> first|kernel_rfl!|simp[pyD] at h
theorem eP {Q:D->Sto->Prop}{fa fb fc:DE}{env:qC}{a b c:Ag}(h1:fa env S=.ok (.int a) S)(h2:fb env S=.ok (.int b) S)(h3:fc env S=.ok (.int c) S)(q:Q (.bl (decide (a<=b/\b<=c))) S):Ok (wB gLe gLe fa fb fc env S) Q:=by
 refine⟨_,_,?_,q⟩;unfold wB;rw[h1,Res.bind_ok,h2,Res.bind_ok];show (match x5 (.bl (decide (a<=b))) S with|some true=>(fc env S).bind λw S4=>gLe (.int b) w S4|some false=>Res.ok (.bl (decide (a<=b))) S|none=>.bad)=_
 by_cases h:a<=b
 .rw[Bw h]
  show (fc env S).bind _=_;rw[h3];simp only[h,true_and];rfl
 .rw[Cc h,Cc λz=>h z.1]
  rfl
noncomputable abbrev isI:D->Ap:=inR (-1000) 1000
noncomputable def wV:D->Ap
 |.tup [a,b]=>isI a&&isI b
 |_=>false
theorem JF (q:Pt):wV (ptD q)=decide (InB 1000 q):=by
 show (decide (-1000<=q.1/\q.1<=1000)&&decide (-1000<=q.2/\q.2<=1000))=_;rw[<- Bool.decide_and];exact Wb.mpr ⟨λh=>⟨h.1.1,h.1.2,h.2.1,h.2.2⟩,λh=>⟨⟨h.1,h.2.1⟩,h.2.2.1,h.2.2.2⟩⟩
theorem FO (h:xs.length=2):wV (.tup xs)=xs.all isI:=by
 match xs,h with
 |[a,b],_=>simp[wV]
theorem FP (h:xs.length≠2):wV (.tup xs)=false:=by
 match xs,h with
 |[],_=>rfl
 |[_],_=>rfl
 |[_,_],h=>exact absurd rfl h
 |_::_::_::_,_=>rfl
theorem FQ {d:D}(h:isT d=false):wV d=false:=by
 cases d <;> first|rfl|cases h
noncomputable def upB (ks:Aa (Aa Ag)):Ap:=(ks.zip (ks.drop 1)).all λp=>_H.lexLt p.1 p.2
noncomputable def lB:D->Ap
 |.tup xs=>decide (1<=xs.length/\xs.length<=40)&&xs.all wV&&(match wR xs with|some ks=>upB ks|none=>false)
 |_=>false
theorem rO {a b:Ag}{d:D}(h:inR a b d=true):∃ i,d=.int i/\a<=i/\i<=b:=by
 cases d <;> first|exact⟨_,rfl,Bp h⟩|cases h
theorem XT {d:D}(h:wV d=true):∃ q,d=ptD q/\InB 1000 q:=by
 unfold wV at h
 split at h
 .rw[As] at h
  obtain⟨x,rfl,hx⟩:=rO h.1;obtain⟨y,rfl,hy⟩:=rO h.2;exact⟨(x,y),rfl,hx.1,hx.2,hy.1,hy.2⟩
 .cases h
theorem Q1:∀ {xs:Aa D},xs.all wV=true->∃ qs:Aa Pt,xs=qs.map ptD/\∀ q∈qs,InB 1000 q
 |[],_=>⟨[],rfl,λ_ h=>by cases h⟩
 |d::ds,h=>by
  rw[OQ,As] at h;obtain⟨qs,rfl,hq⟩:=Q1 h.2;obtain⟨q,rfl,hb⟩:=XT h.1;refine⟨q::qs,rfl,λz hz=>?_⟩;rcases Bg.mp hz with rfl|hz
  .exact hb
  .exact hq z hz
theorem SD (a b:Aa Ag)(S:Sto):mY (tpD a) (tpD b) S=.ok (.bl (_H.lexLt a b)) S:=by
 unfold mY tpD;simp only[p7]
theorem sU:∀ (ks:Aa (Aa Ag)),upB ks=true↔ks.Pairwise (λa b=>_H.lexLt a b=true)
 |[]=>by simp[upB]
 |[a]=>by simp[upB]
 |a::b::r=>by
  have ih:=sU (b::r);have e:upB (a::b::r)=(_H.lexLt a b&&upB (b::r)):=by simp[upB]
  rw[e,As,ih,Lj (a:=a)];constructor
  .rintro⟨h1,h2⟩
   refine⟨λx hx=>?_,h2⟩;rcases Bg.mp hx with rfl|hx
   .exact h1
   .exact _S.uQ.tr h1 ((Lj.mp h2).1 x hx)
  .rintro⟨h1,h2⟩
   exact⟨h1 b (by simp),h2⟩
theorem LV (ks ms:Aa (Aa Ag)):vK (ks.map tpD) (ms.map tpD)=(ks.zip ms).map λp=>D.tup [tpD p.1,tpD p.2]:=by
 unfold vK
 induction ks generalizing ms with
 |nil=>rfl
 |cons k ks ih =>
  cases ms with
  |nil=>rfl
  |cons m ms=>exact congrArg (_::·) (ih ms)
theorem JE {d:D}(h:isT d=false):lB d=false:=by
 cases d <;> first|rfl|cases h
theorem XS {M:Af}(hM:M<=40){l:Aa Pt}(h:Lot M l):lB (p9 l)=true:=by
 show (decide (1<=(l.map ptD).length/\(l.map ptD).length<=40)&&(l.map ptD).all wV&&(match wR (l.map ptD) with|some ks=>upB ks|none=>false))=true
 have h1:1<=(l.map ptD).length/\(l.map ptD).length<=40:=by
  rw[Ar];exact⟨Th.mpr h.ne,by have:=h.len;lia⟩
 have h2:(l.map ptD).all wV=true:=by
  rw[Nu];exact Bt.mpr λq hq=>(JF q).trans (Bw (h.box q hq))
 have h3:upB (l.map kP)=true:=by
  rw[sU,Gh];exact h.up
 rw[Bw h1,h2,dS,pM];exact h3
theorem D2 (xs:Aa D):wA xs (Ab 1) none=xs.drop 1:=by
 unfold wA;have h1:_H.sIx xs.length 0 (Ab 1)=min 1 xs.length:=rfl;have h2:_H.sIx xs.length xs.length none=xs.length:=rfl;rw[h1,h2];cases xs with
 |nil=>rfl
 |cons x r=>simp
theorem ZT (xs:Aa D)(i:Af):wA xs (Ab ((i:Ag)+1)) none=xs.drop (i+1):=by
 unfold wA;have e1:_H.sIx xs.length 0 (Ab ((i:Ag)+1))=min (i+1) xs.length:=by
  have:((i:Ag)+1)=((i+1:Af):Ag):=by lia
  rw[this,_H.sIx_nat]
 rw[e1,_H.sIx_none];by_cases h:i+1<=xs.length
 .rw[Nat.min_eq_left h,IY (by simp)]
 .have:xs.drop (i+1)=[]:=IU li
  rw[this,Nat.min_eq_right li];simp
noncomputable def eL:Af->Aa D->Aa D
 |_,[]=>[]
 |k,x::xs=>D.tup [.int (k:Ag),x]::eL (k+1) xs
theorem XC (xs:Aa D):yB xs=eL 0 xs:=by
 have key:∀ (xs:Aa D) (k:Af),(xs.mapIdx λi x=>D.tup [.int ((i+k:Af):Ag),x])=eL k xs:=by
  intro xs
  induction xs with
  |nil=>intro k;rfl
  |cons x xs ih =>
   intro k;rw[List.mapIdx_cons];show _::_=D.tup [.int (k:Ag),x]::eL (k+1) xs
   congr 1
   .simp
   .rw[<- ih (k+1)]
    congr 1
    funext i y
    congr 4
    lia
 have:=key xs 0;simpa [yB] using this
noncomputable def far (p q:Pt):Ag:=(p.1-q.1)*(p.1-q.1)+(p.2-q.2)*(p.2-q.2)
noncomputable def w8:Aa Pt->Aa (Pt × Pt)
 |[]=>[]
 |p::ps=>ps.map (λq=>(p,q))++w8 ps
noncomputable def gY (x:Pt × Pt):Ag:=far x.1 x.2
noncomputable def zW (l:Aa Pt):Aa Ag:=(w8 l).map gY
noncomputable def prD (x:Pt × Pt):D:=.tup [ptD x.1,ptD x.2]
structure GI {β : Type}(key:β->Ag)(enc:β->D)(n:Af)(prs:Aa β)(kvs:Aa (_L.Key × D))(S:Sto):Prop where
 dict:S[n]? = Ab (.dct kvs)
 lists:∀ kv∈kvs,∃ (f:Ag) (j:Af),kv=(.inl f,.loc j)/\n<j/\S[j]? = Ab (.lst ((prs.filter λx=>key x == f).map enc))
 nd:(kvs.map (·.2)).Nodup
 keys:kvs.map (·.1)=((prs.map key).foldl Bu []).map Dy
set_option tactic.hygienic true in
theorem YF {l:Aa Ag}{k x:Ag}:x∈Bu l k↔x∈l\/x=k:=by
 unfold Bu
 split
 .rename_i h
  simp at h;constructor
  .exact λz=>.inl z
  .rintro (z|rfl)
   .exact z
   .exact h
 .simp
theorem GR {l:Aa Ag}{k:Ag}(h:k∈l):Bu l k=l:=by
 unfold Bu;rw[Bc (by simpa using h)]
theorem YG {l:Aa Ag}{k:Ag}(h:k ∉ l):Bu l k=l++[k]:=by
 unfold Bu;rw[Aw (by simpa using h)]
theorem dA:∀ {l:Aa Ag} {x:Ag},x∈ks.foldl Bu l↔x∈l\/x∈ks:=by
 induction ks with
 |nil=>intro l x;simp
 |cons k ks ih =>
  intro l x;rw[Nq,ih,YF,Bg];constructor
  .rintro ((h|h)|h)
   .exact .inl h
   .exact .inr (.inl h)
   .exact .inr (.inr h)
  .rintro (h|h|h)
   .exact .inl (.inl h)
   .exact .inl (.inr h)
   .exact .inr h
theorem d9:∀ {l:Aa Ag},(ks.foldl Bu l).length<=l.length+ks.length:=by
 induction ks with
 |nil=>intro l;simp
 |cons k ks ih =>
  intro l;rw[Nq];have h1:=ih (l:=Bu l k);have h2:(Bu l k).length<=l.length+1:=by
   unfold Bu
   split <;> simp
  rw[By]
  lia
theorem YL {k:_L.Key}{d:D}(h:zQ kvs k=Ab d):(k,d)∈kvs:=by
 unfold zQ at h;obtain⟨kv,h1,rfl⟩:=Ee.mp h;have h2:=List.find?_some h1;have h3:=List.mem_of_find?_eq_some h1;have h4:kv.1=k:=by simpa using h2
 subst h4;exact h3
theorem YK {k:_L.Key}(h:zQ kvs k=none):∀ kv∈kvs,kv.1≠k:=by
 unfold zQ at h;have h1:=Option.map_eq_none_iff.mp h;intro kv hk e;have:=List.find?_eq_none.mp h1 kv hk;simp[e] at this
theorem VN {x:D}{k:_L.Key}(hd:S[n]? = Ab (.dct kvs))(hk:xO i=Ab k):xZ (.loc n) [i,x] S=(match zQ kvs k with|some d=>.ok d S|none=>if kvs.length<lim then .ok x (S.set n (.dct (xC kvs k x))) else .bad):=by
 show (match S[n]? with|some (.dct kvs)=>(match xO i with|some k=>(match zQ kvs k with|some d=>Res.ok d S|none=>if kvs.length<lim then .ok x (S.set n (.dct (xC kvs k x))) else .bad)|none=>.bad)|_=>.bad)=_
 rw[hd,hk]
theorem GN {x d:D}{k:_L.Key}(hd:S[n]? = Ab (.dct kvs))(hk:xO i=Ab k)(hv:zQ kvs k=Ab d):xZ (.loc n) [i,x] S=.ok d S:=by
 rw[VN hd hk,hv]
theorem GM {x:D}{k:_L.Key}(hd:S[n]? = Ab (.dct kvs))(hk:xO i=Ab k)(hv:zQ kvs k=none)(hl:kvs.length<lim):xZ (.loc n) [i,x] S=.ok x (S.set n (.dct (xC kvs k x))):=by
 rw[VN hd hk,hv];exact Bc hl
theorem oM {β γ:Type}{l:Aa β}{f:β->γ}(nd:(l.map f).Nodup){x y:β}(hx:x∈l)(hy:y∈l)(e:f x=f y):x=y:=by
 obtain⟨a,ha,rfl⟩:=Cw.mp hx;obtain⟨b,hb,rfl⟩:=Cw.mp hy;have:a=b:=(Pc nd (h₀:=by simpa using ha) (h₁:=by simpa using hb)).mp (by simpa using e)
 subst this;rfl
set_option tactic.hygienic true in
theorem UY:∀ (ks l:Aa Ag),l.Nodup->(ks.foldl Bu l).Nodup:=by
 intro ks
 induction ks with
 |nil=>exact λl h=>h
 |cons k ks ih =>
  intro l h;rw[Nq];apply ih;unfold Bu
  split
  .exact h
  .rename_i hn
   rw[Io];refine⟨h,by simp,?_⟩
   intro a ha b hb hab;simp at hb hn;subst hb;subst hab;exact hn ha
theorem JK (h:kvs.map (·.1)=(ks.foldl Bu []).map Dy):(kvs.map (·.1)).Nodup:=by
 rw[h,Ze,Gh];exact(UY ks [] Fq).imp λhne e=>hne (Kv e)
theorem PZ {j:Af}(h:S[j]? = Ab (.lst xs))(hl:xs.length<lim)(d:D):xY (.loc j) [d] S=.ok .non (S.set j (.lst (xs++[d]))):=wO (VA h hl ⟨rfl,rfl⟩)
theorem J3 {β:Type}{key:β->Ag}{enc:β->D}{prs:Aa β}(I:GI key enc n prs kvs S)(x:β)(hl:prs.length<lim) :
  ∃ (j:Af) (S1 S2:Sto) (kvs':Aa (_L.Key × D)),xZ (.loc n) [.int (key x),.loc S.length] (S++[.lst []]) = .ok (.loc j) S1/\tyD (.loc j) S1=Ab "list" /\ xY (.loc j) [enc x] S1=.ok .non S2/\GI key enc n (prs++[x]) kvs' S2/\∀ m,m<n->S2[m]? = S[m]?:=by
 have hnS:n<S.length:=(Az.mp I.dict).1;have hd:(S++[MO.lst []])[n]? = Ab (.dct kvs):=by rw[Bo hnS];exact I.dict
 have hkl:kvs.length<=prs.length:=by
  have h1:kvs.length=(kvs.map (·.1)).length:=by simp
  rw[h1,I.keys,Ar];have:=d9 (ks:=prs.map key) (l:=[]);simpa using this
 have hlim:kvs.length<lim:=by lia
 have jlt:∀ {f:Ag} {j:Af},((Dy f:_L.Key),D.loc j)∈kvs->n<j/\j<S.length/\S[j]? = Ab (.lst ((prs.filter λx=>key x == f).map enc)):=by
  intro f j hm;obtain⟨f',j',e,h1,h2⟩:=I.lists _ hm;cases e;exact⟨h1,(Az.mp h2).1,h2⟩
 cases hv:zQ kvs (.inl (key x)) with
 |some d =>
  have hm:=YL hv;obtain⟨f,j,e,h1,h2⟩:=I.lists _ hm;have e1:f=key x:=by
   have:=congrArg Prod.fst e;exact(Kv this).symm
  have e2:d=.loc j:=congrArg Prod.snd e;subst e1;subst e2;have hjS:=(Az.mp h2).1;have h2':(S++[MO.lst []])[j]? = Ab (.lst ((prs.filter λy=>key y == key x).map enc)):=by rw[Bo hjS];exact h2
  have hll:((prs.filter λy=>key y == key x).map enc).length<lim:=by
   rw[Ar];have:=Hz (λy=>key y == key x) prs
   lia
  refine⟨j,S++[MO.lst []],(S++[MO.lst []]).set j (.lst ((prs.filter λy=>key y == key x).map enc++[enc x])),kvs,?_,?_,?_,⟨?_,?_,I.nd,?_⟩,?_⟩
  .exact GN hd rfl hv
  .exact aY h2'
  .exact PZ h2' hll _
  .rw[Cb li];exact hd
  .intro kv hk
   obtain⟨f',j',rfl,h3,h4⟩:=I.lists kv hk;refine⟨f',j',rfl,h3,?_⟩;have hj':=(Az.mp h4).1;by_cases hjj:j=j'
   .subst hjj
    have hff:f'=key x:=Kv (congrArg Prod.fst (oM (f:=(·.2)) I.nd hk hm rfl))
    subst hff;rw[Dl (by simp;lia)]
    rw[Lm];simp
   .rw[Cb hjj,Bo hj',h4]
    have hne:(key x == f')=false:=by
     rw[Kg];rintro rfl;exact hjj (D.loc.inj (congrArg Prod.snd (oM (f:=(·.1)) (JK I.keys) hm hk rfl)))
    rw[Lm];simp[hne]
  .rw[He,Vf]
   show _=(Bu ((prs.map key).foldl Bu []) (key x)).map Dy;have hin:key x∈(prs.map key).foldl Bu []:=by
    have:(Dy (key x):_L.Key)∈kvs.map (·.1):=Bk.mpr ⟨_,hm,rfl⟩
    rw[I.keys] at this;obtain⟨y,hy,e⟩:=Bk.mp this;cases e;exact hy
   rw[GR hin];exact I.keys
  .intro m hm
   rw[Cb li,Bo li]
 |none =>
  have hno:=YK hv;have hput:xC kvs (.inl (key x)) (.loc S.length)=kvs++[(.inl (key x),.loc S.length)]:=by
   unfold xC;rw[Aw];rw[Kb];rintro⟨kv,hk,e⟩;exact hno kv hk (by simpa using e)
  have hfn:key x ∉ prs.map key:=by
   intro hin;have:(Dy (key x):_L.Key)∈kvs.map (·.1):=by
    rw[I.keys];exact Bk.mpr ⟨_,dA.mpr (.inr hin),rfl⟩
   obtain⟨kv,hk,e⟩:=Bk.mp this;exact hno kv hk e
  have hS1:((S++[MO.lst []]).set n (.dct (kvs++[(Dy (key x),.loc S.length)])))[S.length]? = Ab (.lst []):=by
   rw[Cb li];simp
  refine⟨S.length,(S++[MO.lst []]).set n (.dct (kvs++[(.inl (key x),.loc S.length)])),((S++[MO.lst []]).set n (.dct (kvs++[(.inl (key x),.loc S.length)]))).set S.length (.lst [enc x]),kvs++[(.inl (key x),.loc S.length)],?_,?_,?_,⟨?_,?_,?_,?_⟩,?_⟩
  .rw[<- hput]
   exact GM hd rfl hv hlim
  .exact aY hS1
  .have:(0:Af)<lim:=by decide
   exact PZ hS1 this _
  .rw[Cb li,Dl (by simp;lia)]
  .intro kv hk
   rcases Cs.mp hk with hk|hk
   .obtain⟨f',j',rfl,h3,h4⟩:=I.lists kv hk
    have hj':=(Az.mp h4).1;refine⟨f',j',rfl,h3,?_⟩;rw[Cb li,Cb li,Bo hj',h4];have hne:(key x == f')=false:=by
     rw[Kg];intro e;exact hno _ hk (by rw[e])
    rw[Lm];simp[hne]
   .have:kv=(.inl (key x),.loc S.length):=by simpa using hk
    subst this;refine⟨key x,S.length,rfl,hnS,?_⟩;rw[Dl (by simp)]
    have:(prs.filter λy=>key y == key x)=[]:=by
     rw[Mi];intro y hy e;exact hfn (by rw[<- (by simpa using e:key y=key x)];exact Bk.mpr ⟨y,hy,rfl⟩)
    rw[Lm,this];simp
  .rw[He,Io]
   refine⟨I.nd,by simp,?_⟩
   intro a ha b hb hab;simp at hb;subst hb;subst hab;obtain⟨kv,hk,e⟩:=Bk.mp ha;obtain⟨f',j',rfl,h3,h4⟩:=I.lists kv hk;have hj':=(Az.mp h4).1;have:j'=S.length:=D.loc.inj e
   lia
  .rw[He,I.keys,He,Vf]
   show _=(Bu ((prs.map key).foldl Bu []) (key x)).map Dy;have hin:key x ∉ (prs.map key).foldl Bu []:=by
    intro h;rcases dA.mp h with h|h
    .simp at h
    .exact hfn h
   rw[YG hin,He];rfl
  .intro m hm
   rw[Cb li,Cb li,Bo li]
theorem lL (l:Aa Pt):(w8 l).length<=l.length*l.length:=by
 induction l with
 |nil=>simp[w8]
 |cons p l ih =>
  have e:(p::l).length*(p::l).length=l.length*l.length+l.length+l.length+1:=by
   simp only[By,Nat.add_mul,Nat.mul_add]
   lia
  rw[e];simp only[w8,Dj,Ar]
  lia
theorem sF {S':Sto}(h:∀ m,m<S.length->S'[m]? = S[m]?):S<+:S':=by
 rw[OZ];intro i hi;rw[h i hi,Am hi]
theorem SG {l:Aa Pt}(h:l.length<=41):(w8 l).length<4000:=by
 have h1:=lL l;have h2:l.length*l.length<=41*41:=De h h
 lia
noncomputable def kys (fs:Aa Ag):Aa Ag:=fs.foldl Bu []
noncomputable def tbK (fs:Aa Ag):Aa (Aa Ag):=(kys fs).map λf=>[f,(fs.count f:Ag)]
noncomputable def tbl (fs:Aa Ag):Aa (Aa Ag):=_S.vI _H.lexLt (tbK fs)
theorem XI (prs:Aa (Pt × Pt))(f:Ag):(prs.filter λx=>gY x == f).length=(prs.map gY).count f:=by
 rw[List.count,List.countP_map,List.countP_eq_length_filter];rfl
noncomputable def ctD (fs:Aa Ag)(k:_L.Key):D:=match k with
 |.inl f=>.tup [.int f,.int (fs.count f:Ag)]
 |.inr _=>.non
theorem GP (ks:Aa (Aa Ag))(hl:ks.length<=100000)(he:∀ k∈ks,k≠[]):gF (ks.map tpD)=Ab ((_S.vI _H.lexLt ks).map tpD):=by
 unfold gF;cases ks with
 |nil =>
  have e1:_S.vI _S.ltI [] = []:=Ub;have e2:_S.vI _H.lexLt [] = []:=Ub;show (if ([] : Aa Ag).length<=100000 then Ab ((_S.vI _S.ltI []).map D.int) else none)=_
  rw[e1,e2,Bc (by simp)]
  rfl
 |cons k r =>
  have h0:xA ((k::r).map tpD)=none:=rfl;rw[h0,pM];have h2:((k::r).all λk=>!k.isEmpty)=true:=Bt.mpr λq hq=>by
   have:=he q hq;cases q with
   |nil=>exact absurd rfl this
   |cons _ _=>rfl
  have h3:(decide ((k::r).length<=100000)&&(k::r).all λk=>!k.isEmpty)=true:=by rw[h2,Bw hl];rfl
  show (if (decide ((k::r).length<=100000)&&(k::r).all λk=>!k.isEmpty)=true then _ else _)=_
  rw[Bc h3]
end _D
namespace _K
open PySem _D
theorem QP (b:Ap)(S:Sto):x5 (.bl b) S=Ab b:=rfl
theorem CJ (i:Ag)(S:Sto):x5 (.int i) S=Ab (i != 0):=rfl
theorem CK (C:Ag->Ag->Ap)(f:Ag->Ag->D)(i j:Ag)(S:Sto):i2 C f (.int i) (.int j) S=if C i j=true then .ok (f i j) S else .bad:=rfl
theorem yL (i j:Ag)(S:Sto):gEq (.int i) (.int j) S=.ok (.bl (decide (i=j))) S:=by kernel_rfl!
theorem rN (i j:Ag)(S:Sto)(h : -(2 ^ 64)<i/\i<2 ^ 64):qU (.int i) (.int j) S=.ok (.int (i*j)) S:=by
 unfold qU i2;rw[kI];unfold bR;simp only[h,and_self,IH,Ug,Dm]
theorem dB (i j:Ag)(S:Sto):zA (.int i) (.int j) S=.ok (.int (i+j)) S:=rfl
theorem mZ (i j:Ag)(S:Sto)(h:0<j):xN (.int i) (.int j) S=.ok (.int (i % j)) S:=by
 unfold xN i2;simp[h]
theorem J2 (i j:Ag)(S:Sto)(h:0<j/\j<1073741824):yR (.int i) (.int j) S=.ok (.int (i/j)) S:=by
 unfold yR i2 ZJ;simp[h]
theorem eR (d:D)(S:Sto):aG (.rt d S)=.ok d S:=rfl
theorem eQ (e:qC)(S:Sto):aG (.nx e S)=.ok .non S:=rfl
theorem CI (c:Ac)(x:D)(e:qC)(S:Sto):aG (.ex c x e S)=.ex c x S:=rfl
theorem HJ (i j:Af)(env:qC)(S:Sto)(x y:D):sD i j env S [x,y]=.nx ((env.set i (Ab x)).set j (Ab y)) S:=rfl
theorem CG (x:Aa D):zJ (.lst x)=Ab x:=rfl
theorem CH (x:Aa D):zJ (.tup x)=Ab x:=rfl
end _K
open PySem _D _K
namespace _K
open PySem PySem.Spec PyProof.Rows _L _D
noncomputable def top (i:Af):Fb:=Nw.main.body.getD i (.Pass ⟨0,0,0,0⟩)
structure Cl where
 (FarError NoLot NoNumber:Ad)
noncomputable def cK (c:Cl):Aa Ad:=[c.NoLot,c.NoNumber]
noncomputable def B4 (c:Cl):Aa Ac:=[.ref c.NoLot,.ref c.NoNumber]
noncomputable abbrev clt (c:Cl):Aa (Ao × Ad):=[("FarError",c.FarError),("NoLot",c.NoLot),("NoNumber",c.NoNumber)]
noncomputable abbrev plt (c:Cl):Aa (Ao × Ad):=[("NoLot",c.NoLot),("NoNumber",c.NoNumber)]
noncomputable abbrev cst:Aa (Ao × Ag):=[("MOST_SIDE",100000),("MOST_COUNTED_SIDE",200),("LEAST_NUMBER",-1000),("MOST_NUMBER",1000),("MOST_POINTS",40)]
noncomputable abbrev bl:Aa Ao:=["ValueError","all","bool","enumerate","int","isinstance","len","list","max","range","sorted","sum","tuple","zip"]
noncomputable abbrev tab:Aa (Ao × Af × Aa Ao):=[(("is_whole" : Ao),(5:Af),[("thing" : Ao)]),(("is_within" : Ao),(6:Af),[("thing" : Ao),("least" : Ao),("most" : Ao)]),(("is_rising" : Ao),(7:Af),[("some" : Ao)]),(("need_within" : Ao),(8:Af),[("thing" : Ao),("least" : Ao),("most" : Ao)]),(("above_root" : Ao),(10:Af),[("number" : Ao)]),(("sum_ways" : Ao),(11:Af),[("number" : Ao)]),(("primes_in" : Ao),(12:Af),[("number" : Ao)]),(("points_by_primes" : Ao),(13:Af),[("primes" : Ao)]),(("circle_points" : Ao),(14:Af),[("number" : Ao)]),(("is_sum" : Ao),(15:Af),[("number" : Ao)]),(("on_circle" : Ao),(16:Af),[("number" : Ao)]),(("need_sides" : Ao),(20:Af),[("w" : Ao),("h" : Ao),("most" : Ao)]),(("pairs_apart" : Ao),(21:Af),[("w" : Ao),("h" : Ao),("a" : Ao),("b" : Ao)]),(("grid_often" : Ao),(22:Af),[("w" : Ao),("h" : Ao),("number" : Ao)]),(("grid_table" : Ao),(23:Af),[("w" : Ao),("h" : Ao)]),(("many_grid" : Ao),(24:Af),[("w" : Ao),("h" : Ao)]),(("greatest_often" : Ao),(25:Af),[("w" : Ao),("h" : Ao)]),(("is_point" : Ao),(30:Af),[("thing" : Ao)]),(("is_lot" : Ao),(31:Af),[("thing" : Ao)]),(("need_lot" : Ao),(32:Af),[("thing" : Ao)]),(("far_between" : Ao),(33:Af),[("one" : Ao),("other" : Ao)]),(("pairs_by_far" : Ao),(34:Af),[("points" : Ao)]),(("far_table" : Ao),(35:Af),[("lot" : Ao)]),(("_law_cell" : Ao),(37:Af),[("_law_script" : Ao),("_law_k" : Ao)]),(("_law_pen" : Ao),(38:Af),[("_law_cell_here" : Ao)]),(("_law_draw" : Ao),(39:Af),[("_law_pen_here" : Ao),("_law_many" : Ao)]),(("_law_board" : Ao),(40:Af),[("_law_w" : Ao),("_law_h" : Ao)]),(("_law_is_prime" : Ao),(41:Af),[("_law_number" : Ao)]),(("_law_product" : Ao),(42:Af),[("_law_pen_here" : Ao),("_law_most" : Ao)]),(("_law_shown" : Ao),(43:Af),[("_law_ways" : Ao)]),(("law" : Ao),(44:Af),[("_law_script" : Ao)])]
abbrev Txt (K:Ak)(mg:Ao->Al Ac)(c:Cl):Prop:=TxS K mg top tab bl (clt c) (plt c) (B4 c) (cK c) cst
noncomputable abbrev M2:Aa Ao:=["greatest_often"]
@[reducible] def b_is_whole:DS:=qY (mO (qX uI (q8 (q9 0) (q8 (dC (.ty "int")) (qA)))) (ZX (qX uI (q8 (q9 0) (q8 (dC (.ty "bool")) (qA))))))
@[irreducible] def S_is_whole:DF:=sh (qO 1 b_is_whole)
theorem gK:S_is_whole=qO 1 b_is_whole:=by delta S_is_whole;exact zI _
@[reducible] def b_is_within:DS:=qY (mO (qK 1 S_is_whole (q8 (q9 0) (qA))) (wB gLe gLe (q9 1) (q9 0) (q9 2)))
@[irreducible] def S_is_within:DF:=sh (qO 3 b_is_within)
theorem jM:S_is_within=qO 3 b_is_within:=by delta S_is_within;exact zI _
@[reducible] def b_is_rising:DS:=qY (qX (bX false) (q8 (zY false [none,none] (u7 (cP (q8 (q9 0) (q8 (dSl (q9 0) (wZ (dC (.int 1))) (jS)) (qA))))) (gTp 2 (zH (gNm 0) (zH (gNm 1) (w5)))) (yP) (zX (d2 mY (q9 0) (q9 1)))) (qA)))
@[irreducible] def S_is_rising:DF:=sh (qO 1 b_is_rising)
theorem jL:S_is_rising=qO 1 b_is_rising:=by delta S_is_rising;exact zI _
@[reducible] def b_need_within (c:Cl):DS:=sIf (vZ (dTr (qK 3 S_is_within (q8 (q9 0) (q8 (q9 1) (q8 (q9 2) (qA))))))) (pG (.ref c.NoNumber) (q8 (cO [dC (.str "a whole number from "),d1 mX (q9 1),dC (.str " to "),d1 mX (q9 2),dC (.str " is needed")]) (qA))) (zT)
@[irreducible] def S_need_within (c:Cl):DF:=sh (qO 3 (b_need_within c))
theorem uF (c:Cl):S_need_within c=qO 3 (b_need_within c):=by delta S_need_within;exact zI _
@[reducible] def b_above_root:DS:=qY (d2 dE (dC (.int 1)) (d2 yR (d2 zA (ZW "int" lA (q9 0)) (dC (.int 1))) (dC (.int 2))))
@[irreducible] def S_above_root:DF:=sh (qO 1 b_above_root)
theorem uY:S_above_root=qO 1 b_above_root:=by delta S_above_root;exact zI _
@[reducible] def b_sum_ways (c:Cl):DS:=qL (xV (qK 3 (S_need_within c) (q8 (q9 0) (q8 (dC (.int 0)) (q8 (d2 uK (dC (.int 10)) (dC (.int 9))) (qA)))))) (qL (qR (pS (qA)) (gNm 1)) (qL (qR (dC (.int 0)) (gNm 2)) (qL (qR (qK 1 S_above_root (q8 (q9 0) (qA))) (gNm 3)) (qL (vS (dTr (d2 gLe (q9 2) (q9 3))) (qL (qR (d2 zA (d2 qU (q9 2) (q9 2)) (d2 qU (q9 3) (q9 3))) (gNm 4)) (qL (sIf (dTr (d2 gEq (q9 4) (q9 0))) (xV (dBm "list" xY (q9 1) (q8 (jF (q8 (q9 2) (q8 (q9 3) (qA)))) (qA)))) (zT)) (sIf (dTr (d2 gGt (q9 4) (q9 0))) (wX 3 yS (dC (.int 1))) (wX 2 pX (dC (.int 1))))))) (qY (q9 1))))))
@[irreducible] def S_sum_ways (c:Cl):DF:=sh (qO 5 (b_sum_ways c))
theorem gM (c:Cl):S_sum_ways c=qO 5 (b_sum_ways c):=by delta S_sum_ways;exact zI _
@[reducible] def b_primes_in:DS:=qL (qR (bU) (gNm 1)) (qL (qR (q9 0) (gNm 2)) (qL (qR (dC (.int 2)) (gNm 3)) (qL (vS (dTr (d2 gLe (d2 qU (q9 3) (q9 3)) (q9 2))) (sIf (dTr (d2 gEq (d2 xN (q9 2) (q9 3)) (dC (.int 0)))) (qL (qR (d2 zA (dBm "dict" vD (q9 1) (q8 (q9 3) (q8 (dC (.int 0)) (qA)))) (dC (.int 1))) (gSb (q9 1) (q9 3) xE)) (wX 2 yR (q9 3))) (wX 3 pX (dIf (dTr (d2 gEq (q9 3) (dC (.int 2)))) (dC (.int 1)) (dC (.int 2)))))) (qL (sIf (dTr (d2 gGt (q9 2) (dC (.int 1)))) (qR (d2 zA (dBm "dict" vD (q9 1) (q8 (q9 2) (q8 (dC (.int 0)) (qA)))) (dC (.int 1))) (gSb (q9 1) (q9 2) xE)) (zT)) (qY (jQ (q9 1)))))))
@[irreducible] def S_primes_in:DF:=sh (qO 4 b_primes_in)
theorem jP:S_primes_in=qO 4 b_primes_in:=by delta S_primes_in;exact zI _
@[reducible] def b_points_by_primes:DS:=qL (qR (dC (.int 4)) (gNm 1)) (qL (v7 (wY (q9 0)) (gTp 2 (zH (gNm 2) (zH (gNm 3) (w5)))) (sIf (dTr (d2 gEq (d2 xN (q9 2) (dC (.int 4))) (dC (.int 1)))) (wX 1 qU (d2 zA (q9 3) (dC (.int 1)))) (sIf (xJ (dTr (d2 gEq (d2 xN (q9 2) (dC (.int 4))) (dC (.int 3)))) (dTr (d2 gEq (d2 xN (q9 3) (dC (.int 2))) (dC (.int 1))))) (qY (dC (.int 0))) (zT)))) (qY (q9 1)))
@[irreducible] def S_points_by_primes:DF:=sh (qO 4 b_points_by_primes)
theorem yI:S_points_by_primes=qO 4 b_points_by_primes:=by delta S_points_by_primes;exact zI _
@[reducible] def b_circle_points:DS:=qY (qK 1 S_points_by_primes (q8 (qK 1 S_primes_in (q8 (q9 0) (qA))) (qA)))
@[irreducible] def S_circle_points:DF:=sh (qO 1 b_circle_points)
theorem vP:S_circle_points=qO 1 b_circle_points:=by delta S_circle_points;exact zI _
@[reducible] def b_is_sum (c:Cl):DS:=qL (xV (qK 3 (S_need_within c) (q8 (q9 0) (q8 (dC (.int 0)) (q8 (d2 uK (dC (.int 10)) (dC (.int 12))) (qA)))))) (qY (dOr (d2 gEq (q9 0) (dC (.int 0))) (d2 gGt (qK 1 S_circle_points (q8 (q9 0) (qA))) (dC (.int 0)))))
@[irreducible] def S_is_sum (c:Cl):DF:=sh (qO 1 (b_is_sum c))
theorem bL (c:Cl):S_is_sum c=qO 1 (b_is_sum c):=by delta S_is_sum;exact zI _
@[reducible] def b_on_circle (c:Cl):DS:=qL (xV (qK 3 (S_need_within c) (q8 (q9 0) (q8 (dC (.int 1)) (q8 (d2 uK (dC (.int 10)) (dC (.int 12))) (qA)))))) (qY (qK 1 S_circle_points (q8 (q9 0) (qA))))
@[irreducible] def S_on_circle (c:Cl):DF:=sh (qO 1 (b_on_circle c))
theorem jO (c:Cl):S_on_circle c=qO 1 (b_on_circle c):=by delta S_on_circle;exact zI _
@[reducible] def b_need_sides (c:Cl):DS:=qL (xV (qK 3 (S_need_within c) (q8 (q9 0) (q8 (dC (.int 1)) (q8 (q9 2) (qA)))))) (xV (qK 3 (S_need_within c) (q8 (q9 1) (q8 (dC (.int 1)) (q8 (q9 2) (qA))))))
@[irreducible] def S_need_sides (c:Cl):DF:=sh (qO 3 (b_need_sides c))
theorem j7 (c:Cl):S_need_sides c=qO 3 (b_need_sides c):=by delta S_need_sides;exact zI _
@[reducible] def b_pairs_apart:DS:=qL (qR (dIf (xJ (dTr (d2 gGt (q9 2) (dC (.int 0)))) (dTr (d2 gGt (q9 3) (dC (.int 0))))) (dC (.int 2)) (dC (.int 1))) (gNm 4)) (qY (d2 qU (d2 qU (q9 4) (d2 yS (q9 0) (q9 2))) (d2 yS (q9 1) (q9 3))))
@[irreducible] def S_pairs_apart:DF:=sh (qO 5 b_pairs_apart)
theorem uG:S_pairs_apart=qO 5 b_pairs_apart:=by delta S_pairs_apart;exact zI _
@[reducible] def b_grid_often (c:Cl):DS:=qL (xV (qK 3 (S_need_sides c) (q8 (q9 0) (q8 (q9 1) (q8 (dC (.int (100000))) (qA)))))) (qL (xV (qK 3 (S_need_within c) (q8 (q9 2) (q8 (dC (.int 1)) (q8 (d2 uK (dC (.int 10)) (dC (.int 9))) (qA)))))) (qL (qR (qK 1 (S_sum_ways c) (q8 (q9 2) (qA))) (gNm 3)) (qL (qR (d2 pY (q9 3) (zY false [none,none] (dIt (q9 3)) (gTp 2 (zH (gNm 0) (zH (gNm 1) (w5)))) (xJ (dTr (d2 gNe (q9 0) (q9 1))) (yP)) (zX (jF (q8 (q9 1) (q8 (q9 0) (qA))))))) (gNm 4)) (qY (qX mV (q8 (zY false [none,none,Ab 1,Ab 0] (dIt (q9 4)) (gTp 2 (zH (gNm 0) (zH (gNm 1) (w5)))) (xJ (xJ (dTr (d2 gLt (q9 0) (q9 3))) (dTr (d2 gLt (q9 1) (q9 2)))) (yP)) (zX (qK 4 (okO S_pairs_apart) (q8 (q9 3) (q8 (q9 2) (q8 (q9 0) (q8 (q9 1) (qA)))))))) (qA)))))))
@[irreducible] def S_grid_often (c:Cl):DF:=sh (qO 5 (b_grid_often c))
theorem uZ (c:Cl):S_grid_often c=qO 5 (b_grid_often c):=by delta S_grid_often;exact zI _
@[reducible] def b_grid_table:DS:=qL (qR (bU) (gNm 2)) (qL (v7 (gW (q8 (q9 0) (qA))) (gNm 3) (v7 (gW (q8 (dIf (dTr (d2 gEq (q9 3) (dC (.int 0)))) (dC (.int 1)) (dC (.int 0))) (q8 (q9 1) (qA)))) (gNm 4) (qL (qR (d2 zA (d2 qU (q9 3) (q9 3)) (d2 qU (q9 4) (q9 4))) (gNm 5)) (qR (d2 zA (dBm "dict" vD (q9 2) (q8 (q9 5) (q8 (dC (.int 0)) (qA)))) (qK 4 S_pairs_apart (q8 (q9 0) (q8 (q9 1) (q8 (q9 3) (q8 (q9 4) (qA))))))) (gSb (q9 2) (q9 5) xE))))) (qY (q9 2)))
@[irreducible] def S_grid_table:DF:=sh (qO 6 b_grid_table)
theorem j6:S_grid_table=qO 6 b_grid_table:=by delta S_grid_table;exact zI _
@[reducible] def b_many_grid (c:Cl):DS:=qL (xV (qK 3 (S_need_sides c) (q8 (q9 0) (q8 (q9 1) (q8 (dC (.int (200))) (qA)))))) (qY (qX fP (q8 (qK 2 S_grid_table (q8 (q9 0) (q8 (q9 1) (qA)))) (qA))))
@[irreducible] def S_many_grid (c:Cl):DF:=sh (qO 2 (b_many_grid c))
theorem jN (c:Cl):S_many_grid c=qO 2 (b_many_grid c):=by delta S_many_grid;exact zI _
@[reducible] def b_greatest_often (c:Cl):DS:=qL (xV (qK 3 (S_need_sides c) (q8 (q9 0) (q8 (q9 1) (q8 (dC (.int (200))) (qA)))))) (qL (qR (mP (qK 2 S_grid_table (q8 (q9 0) (q8 (q9 1) (qA))))) (gNm 2)) (qY (lV 1 (q8 (q9 2) (qA)))))
@[irreducible] def S_greatest_often (c:Cl):DF:=sh (qO 3 (b_greatest_often c))
theorem vB (c:Cl):S_greatest_often c=qO 3 (b_greatest_often c):=by delta S_greatest_often;exact zI _
@[reducible] def b_is_point:DS:=qL (sIf (gV (vZ (dTr (qX uI (q8 (q9 0) (q8 (dC (.ty "tuple")) (qA)))))) (dTr (d2 gNe (qX vM (q8 (q9 0) (qA))) (dC (.int 2))))) (qY (dC (.bl false))) (zT)) (qY (qX (bX false) (q8 (zY false [none] (dIt (q9 0)) (gNm 0) (yP) (zX (qK 3 (okO S_is_within) (q8 (q9 0) (q8 (dC (.int (-1000))) (q8 (dC (.int (1000))) (qA))))))) (qA))))
@[irreducible] def S_is_point:DF:=sh (qO 1 b_is_point)
theorem gJ:S_is_point=qO 1 b_is_point:=by delta S_is_point;exact zI _
@[reducible] def b_is_lot:DS:=qL (sIf (gV (vZ (dTr (qX uI (q8 (q9 0) (q8 (dC (.ty "tuple")) (qA)))))) (vZ (dTr (wB gLe gLe (dC (.int 1)) (qX vM (q8 (q9 0) (qA))) (dC (.int (40))))))) (qY (dC (.bl false))) (zT)) (qY (mO (qX (bX false) (q8 (zY false [none] (dIt (q9 0)) (gNm 0) (yP) (zX (qK 1 (okO S_is_point) (q8 (q9 0) (qA))))) (qA))) (qK 1 S_is_rising (q8 (q9 0) (qA)))))
@[irreducible] def S_is_lot:DF:=sh (qO 1 b_is_lot)
theorem bK:S_is_lot=qO 1 b_is_lot:=by delta S_is_lot;exact zI _
@[reducible] def b_need_lot (c:Cl):DS:=sIf (vZ (dTr (qK 1 S_is_lot (q8 (q9 0) (qA))))) (pG (.ref c.NoLot) (q8 (dC (.str "a lot is needed")) (qA))) (zT)
@[irreducible] def S_need_lot (c:Cl):DF:=sh (qO 1 (b_need_lot c))
theorem gL (c:Cl):S_need_lot c=qO 1 (b_need_lot c):=by delta S_need_lot;exact zI _
@[reducible] def b_far_between:DS:=qL (qR (d2 yS (d2 gIx (q9 0) (dC (.int 0))) (d2 gIx (q9 1) (dC (.int 0)))) (gNm 2)) (qL (qR (d2 yS (d2 gIx (q9 0) (dC (.int 1))) (d2 gIx (q9 1) (dC (.int 1)))) (gNm 3)) (qY (d2 zA (d2 qU (q9 2) (q9 2)) (d2 qU (q9 3) (q9 3)))))
@[irreducible] def S_far_between:DF:=sh (qO 4 b_far_between)
theorem uE:S_far_between=qO 4 b_far_between:=by delta S_far_between;exact zI _
@[reducible] def b_pairs_by_far:DS:=qL (qR (bU) (gNm 1)) (qL (v7 (l9 (q8 (q9 0) (qA))) (gTp 2 (zH (gNm 2) (zH (gNm 3) (w5)))) (v7 (wY (dSl (q9 0) (wZ (d2 zA (q9 2) (dC (.int 1)))) (jS))) (gNm 4) (xV (dBm "list" xY (dBm "dict" xZ (q9 1) (q8 (qK 2 S_far_between (q8 (q9 3) (q8 (q9 4) (qA)))) (q8 (pS (qA)) (qA)))) (q8 (jF (q8 (q9 3) (q8 (q9 4) (qA)))) (qA)))))) (qY (q9 1)))
@[irreducible] def S_pairs_by_far:DF:=sh (qO 5 b_pairs_by_far)
theorem vX:S_pairs_by_far=qO 5 b_pairs_by_far:=by delta S_pairs_by_far;exact zI _
@[reducible] def b_far_table (c:Cl):DS:=qL (xV (qK 1 (S_need_lot c) (q8 (q9 0) (qA)))) (qY (qX pV (q8 (zY false [none,none] (u7 (fM (qK 1 S_pairs_by_far (q8 (q9 0) (qA))))) (gTp 2 (zH (gNm 0) (zH (gNm 1) (w5)))) (yP) (zX (jF (q8 (q9 0) (q8 (qX vM (q8 (q9 1) (qA))) (qA)))))) (qA))))
@[irreducible] def S_far_table (c:Cl):DF:=sh (qO 1 (b_far_table c))
theorem jK (c:Cl):S_far_table c=qO 1 (b_far_table c):=by delta S_far_table;exact zI _
@[reducible] def b__law_cell:DS:=qL (sIf (dTr (d2 gLt (q9 1) (qX vM (q8 (q9 0) (qA))))) (qY (d2 gIx (q9 0) (q9 1))) (zT)) (qY (dC (.int 0)))
@[irreducible] def S__law_cell:DF:=sh (qO 2 b__law_cell)
theorem jI:S__law_cell=qO 2 b__law_cell:=by delta S__law_cell;exact zI _
@[reducible] def b__law_pen:DS:=qY (pS (q8 (q9 0) (q8 (qX yQ (q8 (d2 gGe (q9 0) (d2 uK (dC (.int 10)) (dC (.int 18)))) (qA))) (qA))))
@[irreducible] def S__law_pen:DF:=sh (qO 1 b__law_pen)
theorem gI:S__law_pen=qO 1 b__law_pen:=by delta S__law_pen;exact zI _
@[reducible] def b__law_draw:DS:=qL (sIf (dTr (d2 gEq (d2 gIx (q9 0) (dC (.int 1))) (dC (.int 1)))) (qL (qR (d2 xN (d2 gIx (q9 0) (dC (.int 0))) (q9 1)) (gNm 2)) (qL (qR (d2 yR (d2 gIx (q9 0) (dC (.int 0))) (q9 1)) (gSb (q9 0) (dC (.int 0)) xE)) (qY (q9 2)))) (zT)) (qL (qR (d2 xN (d2 zA (d2 qU (d2 xN (d2 gIx (q9 0) (dC (.int 0))) (dC (.int 2147483629))) (dC (.int 48271))) (dC (.int 11))) (dC (.int 2147483629))) (gSb (q9 0) (dC (.int 0)) xE)) (qY (d2 xN (d2 yR (d2 xN (d2 zA (d2 qU (d2 gIx (q9 0) (dC (.int 0))) (d2 gIx (q9 0) (dC (.int 0)))) (d2 qU (dC (.int 40692)) (d2 gIx (q9 0) (dC (.int 0))))) (dC (.int 2147483647))) (dC (.int 8))) (q9 1))))
@[irreducible] def S__law_draw:DF:=sh (qO 3 b__law_draw)
theorem jJ:S__law_draw=qO 3 b__law_draw:=by delta S__law_draw;exact zI _
@[reducible] def b__law_board:DS:=qY (zY false [none,Ab 1] (u7 (gW (q8 (d2 qU (q9 0) (q9 1)) (qA)))) (gNm 0) (yP) (zX (jF (q8 (d2 yR (q9 0) (q9 1)) (q8 (d2 xN (q9 0) (q9 1)) (qA))))))
@[irreducible] def S__law_board:DF:=sh (qO 2 b__law_board)
theorem uW:S__law_board=qO 2 b__law_board:=by delta S__law_board;exact zI _
@[reducible] def b__law_is_prime:DS:=qL (qR (dC (.int 2)) (gNm 1)) (qL (vS (dTr (d2 gLe (d2 qU (q9 1) (q9 1)) (q9 0))) (qL (sIf (dTr (d2 gEq (d2 xN (q9 0) (q9 1)) (dC (.int 0)))) (qY (dC (.bl false))) (zT)) (qR (d2 zA (q9 1) (dC (.int 1))) (gNm 1)))) (qY (d2 gGt (q9 0) (dC (.int 1)))))
@[irreducible] def S__law_is_prime:DF:=sh (qO 2 b__law_is_prime)
theorem vO:S__law_is_prime=qO 2 b__law_is_prime:=by delta S__law_is_prime;exact zI _
@[reducible] def b__law_product:DS:=qL (tU 2 3 (q8 (dC (.int 1)) (q8 (bU) (qA)))) (qL (v7 (gW (q8 (d2 zA (dC (.int 1)) (qK 2 S__law_draw (q8 (q9 0) (q8 (dC (.int 8)) (qA))))) (qA))) (gNm 4) (qL (qR (d2 gIx (jE (q8 (dC (.int 2)) (q8 (dC (.int 3)) (q8 (dC (.int 5)) (q8 (dC (.int 5)) (q8 (dC (.int 7)) (q8 (dC (.int 13)) (q8 (dC (.int 17)) (q8 (dC (.int 29)) (q8 (dC (.int 101)) (q8 (dC (.int 9973)) (qA)))))))))))) (qK 2 S__law_draw (q8 (q9 0) (q8 (dC (.int 10)) (qA))))) (gNm 5)) (qL (sIf (dTr (d2 gEq (qK 2 S__law_draw (q8 (q9 0) (q8 (dC (.int 12)) (qA)))) (dC (.int 0)))) (qL (qR (d2 zA (dC (.int 2)) (qK 2 S__law_draw (q8 (q9 0) (q8 (dC (.int 20000)) (qA))))) (gNm 5)) (vS (vZ (dTr (qK 1 S__law_is_prime (q8 (q9 5) (qA))))) (qR (d2 zA (q9 5) (dC (.int 1))) (gNm 5)))) (zT)) (sIf (dTr (d2 gLe (d2 qU (q9 2) (q9 5)) (q9 1))) (qL (qR (d2 qU (q9 2) (q9 5)) (gNm 2)) (qR (d2 zA (dBm "dict" vD (q9 3) (q8 (q9 5) (q8 (dC (.int 0)) (qA)))) (dC (.int 1))) (gSb (q9 3) (q9 5) xE))) (zT))))) (qY (jF (q8 (q9 2) (q8 (q9 3) (qA))))))
@[irreducible] def S__law_product:DF:=sh (qO 6 b__law_product)
theorem vW:S__law_product=qO 6 b__law_product:=by delta S__law_product;exact zI _
@[reducible] def b__law_shown:DS:=qL (qR (dC (.int 0)) (gNm 1)) (qL (aK (dIt (q9 0)) (gTp 2 (zH (gNm 2) (zH (gNm 3) (w5)))) (qL (qR (d2 qU (d2 zA (dC (.int 1)) (qX yQ (q8 (d2 gGt (q9 2) (dC (.int 0))) (qA)))) (d2 zA (dC (.int 1)) (qX yQ (q8 (d2 gGt (q9 3) (dC (.int 0))) (qA))))) (gNm 4)) (qR (d2 zA (q9 1) (d2 qU (q9 4) (d2 zA (dC (.int 1)) (qX yQ (q8 (d2 gNe (q9 2) (q9 3)) (qA)))))) (gNm 1)))) (qY (q9 1)))
@[irreducible] def S__law_shown:DF:=sh (qO 5 b__law_shown)
theorem uX:S__law_shown=qO 5 b__law_shown:=by delta S__law_shown;exact zI _
@[reducible] def b_law (c:Cl):DS:=qL (v7 (wY (d2 zA (jE (q8 (qK 2 S__law_cell (q8 (q9 0) (q8 (dC (.int 0)) (qA)))) (qA))) (dSl (q9 0) (wZ (dC (.int 1))) (wZ (dC (.int 3)))))) (gNm 1) (qL (qR (qK 1 S__law_pen (q8 (q9 1) (qA))) (gNm 2)) (qL (qR (jF (q8 (d2 zA (dC (.int 1)) (qK 2 S__law_draw (q8 (q9 2) (q8 (dC (.int 6)) (qA))))) (q8 (d2 zA (dC (.int 1)) (qK 2 S__law_draw (q8 (q9 2) (q8 (dC (.int 6)) (qA))))) (qA)))) (gTp 2 (zH (gNm 3) (zH (gNm 4) (w5))))) (qL (qR (qK 1 (S_far_table c) (q8 (qX fQ (q8 (qK 2 S__law_board (q8 (q9 3) (q8 (q9 4) (qA)))) (qA))) (qA))) (gNm 5)) (qL (sIf (dTr (d2 gNe (qX vM (q8 (q9 5) (qA))) (qK 2 (S_many_grid c) (q8 (q9 3) (q8 (q9 4) (qA)))))) (qY (dC (.bl false))) (zT)) (qL (sIf (dTr (d2 gNe (zY false [none,Ab 4,Ab 3] (dIt (q9 5)) (gNm 0) (xJ (dTr (d2 gNe (qK 3 (okO (S_grid_often c)) (q8 (q9 2) (q8 (q9 1) (q8 (d2 gIx (q9 0) (dC (.int 0))) (qA))))) (d2 gIx (q9 0) (dC (.int 1))))) (yP)) (zX (q9 0))) (jE (qA)))) (qY (dC (.bl false))) (zT)) (qL (sIf (dTr (d2 gNe (qX mV (q8 (zY false [none,none] (dIt (q9 5)) (gTp 2 (zH (gNm 0) (zH (gNm 1) (w5)))) (yP) (zX (q9 1))) (qA))) (d2 yR (d2 qU (d2 qU (q9 3) (q9 4)) (d2 yS (d2 qU (q9 3) (q9 4)) (dC (.int 1)))) (dC (.int 2))))) (qY (dC (.bl false))) (zT)) (qL (qR (qK 2 (S_greatest_often c) (q8 (q9 3) (q8 (q9 4) (qA)))) (gNm 8)) (qL (sIf (gV (dTr (d2 gNe (d2 gIs (q9 8) (dC .non)) (d2 gEq (q9 5) (jE (qA))))) (xJ (dTr (d2 dD (q9 8) (dC .non))) (dTr (d2 gZ (q9 8) (q9 5))))) (qY (dC (.bl false))) (zT)) (qL (v7 (wY (jE (q8 (d2 zA (dC (.int 1)) (qK 2 S__law_draw (q8 (q9 2) (q8 (dC (.int 3000)) (qA))))) (q8 (d2 gIx (qK 2 S__law_product (q8 (q9 2) (q8 (d2 uK (dC (.int 10)) (dC (.int 7))) (qA)))) (dC (.int 0))) (qA))))) (gNm 7) (qL (qR (qK 1 (S_sum_ways c) (q8 (q9 7) (qA))) (gNm 9)) (qL (sIf (gV (dTr (d2 gNe (qK 1 (S_is_sum c) (q8 (q9 7) (qA))) (d2 (bA gNe) (q9 9) (jE (qA))))) (dTr (d2 gNe (qK 1 (S_on_circle c) (q8 (q9 7) (qA))) (qK 1 S__law_shown (q8 (q9 9) (qA)))))) (qY (dC (.bl false))) (zT)) (sIf (dTr (d2 gLt (qK 3 (S_grid_often c) (q8 (d2 zA (q9 3) (dC (.int 40))) (q8 (d2 zA (q9 4) (dC (.int 7))) (q8 (q9 7) (qA))))) (qK 3 (S_grid_often c) (q8 (q9 3) (q8 (q9 4) (q8 (q9 7) (qA))))))) (qY (dC (.bl false))) (zT))))) (qL (tU 6 10 (q8 (d2 zA (dC (.int 1)) (qK 2 S__law_draw (q8 (q9 2) (q8 (d2 uK (dC (.int 10)) (dC (.int 5))) (qA))))) (q8 (d2 zA (dC (.int 1)) (qK 2 S__law_draw (q8 (q9 2) (q8 (d2 uK (dC (.int 10)) (dC (.int 5))) (qA))))) (qA)))) (qL (sIf (xJ (dTr (qK 1 (S_is_sum c) (q8 (q9 6) (qA)))) (xJ (dTr (qK 1 (S_is_sum c) (q8 (q9 10) (qA)))) (dTr (d2 pZ (qK 1 (S_is_sum c) (q8 (d2 qU (q9 6) (q9 10)) (qA))) (dC (.bl true)))))) (qY (dC (.bl false))) (zT)) (sIf (gV (dTr (d2 gNe (qK 1 (S_on_circle c) (q8 (d2 qU (dC (.int 2)) (q9 6)) (qA))) (qK 1 (S_on_circle c) (q8 (q9 6) (qA))))) (dTr (d2 pZ (qK 1 (S_is_sum c) (q8 (d2 qU (q9 6) (q9 6)) (qA))) (dC (.bl true))))) (qY (dC (.bl false))) (zT)))))))))))))) (qY (dC (.bl true)))
end _K
namespace _K
open PySem _D
variable {W:Aa (Af × Af)}{m n j:Af}{y:Ag}{d:D}{Q:D->Sto->Prop}{P:Out->Prop}{S S':Sto}{env:qC}
theorem GF (h:Pn d)(S:Sto):S_is_whole [d] S=.ok (.bl (isW d)) S:=by
 rw[gK];obtain⟨p,h⟩:=h;cases d <;> first|kernel_rfl!|simp[pyD] at h
theorem sH (h:Pn d)(a b:Ag)(S:Sto):S_is_within [d,.int a,.int b] S=.ok (.bl (inR a b d)) S:=by
 rw[jM];refine wO (zB (env:=[Ab d,Ab (.int a),Ab (.int b)]) rfl ?_);rfl';refine V9 ?_;rfl';refine qN (GF h S) ⟨_,rfl,λe=>?_,λe=>?_⟩
 .cases d with
  |int i=>exact eP rfl rfl rfl ⟨rfl,rfl⟩
  |_=>cases e
 .cases d <;> first|exact⟨rfl,rfl⟩|cases e
theorem aI (h:Pn d)(S:Sto):S_is_point [d] S=.ok (.bl (wV d)) S:=by
 rw[gJ];refine wO (zB (env:=[Ab d]) rfl ?_);rfl';refine fY ?_;rfl';refine qN (V3 h S) ?_;rfl';refine⟨λe=>?_,λe=>?_⟩
 .rfl'
  exact⟨by rw[FQ (by simpa using e)],rfl⟩
 .cases d with
  |tup xs =>
   rfl';refine uA (λe=>?_) λe=>?_
   .rfl'
    refine jY (enc:=id) (o:=none) xs (λx=>.bl (isI x)) (λenv S'=>S'=S/\∃ a,env=[a]) ((FT rfl).trans (by rw[Rk])) ⟨rfl,none,rfl⟩ (by unfold lim;lia) (λ_ _ _=>trivial) (λx hx env S' ⟨e1,a,e2⟩=>?_) λenv S' ⟨e1,_⟩=>?_
    .subst e1 e2
     rfl';exact qN (sH (oV h x hx) _ _ _) ⟨rfl,rfl,_,rfl⟩
    .subst e1
     rfl';exact aD ⟨by rw[FO li],rfl⟩
   .rfl'
    exact⟨by rw[FP li],rfl⟩
  |_=>cases e
theorem Y7 (qs:Aa Pt)(hl:qs.length<=1000)(S:Sto):S_is_rising [p9 qs] S=.ok (.bl (upB (qs.map kP))) S:=by
 rw[jL];refine wO (zB (env:=[Ab (.tup (qs.map ptD))]) rfl ?_);rfl';have hz:u7 (cP (q8 (q9 0) (q8 (dSl (q9 0) (wZ (dC (.int 1))) (jS)) (qA)))) [Ab (.tup (qs.map ptD))] S=.ok (none,(((qs.map kP).zip ((qs.map kP).drop 1)).map λp=>D.tup [tpD p.1,tpD p.2])) S:=by
  show Res.ok (none,vK (qs.map ptD) (wA (qs.map ptD) (Ab 1) none)) S=_;rw[D2,dS,<- Ti,LV]
 refine jY _ (λp=>.bl (_H.lexLt p.1 p.2)) (λenv S'=>S'=S/\∃ a b,env=[a,b]) hz ⟨rfl,none,none,rfl⟩ ?_ (λ_ _ _=>trivial) (λx hx env S' ⟨e1,a,b,e2⟩=>?_) λenv S' ⟨e1,_⟩=>?_
 .rw[Nr,Ar]
  unfold lim
  lia
 .subst e1 e2
  rfl';exact qN (SD _ _ _) ⟨rfl,rfl,_,_,rfl⟩
 .subst e1
  rfl';exact aD ⟨rfl,rfl⟩
theorem Y5 (h:Pn d)(S:Sto):S_is_lot [d] S=.ok (.bl (lB d)) S:=by
 rw[bK];refine wO (zB (env:=[Ab d]) rfl ?_);rfl';refine fY ?_;rfl';refine qN (V3 h S) ?_;rfl';refine⟨λe=>?_,λe=>?_⟩
 .rfl'
  exact⟨by rw[JE (by simpa using e)],rfl⟩
 .cases d with
  |tup xs =>
   rfl';refine eP (b:=(xs.length:Ag)) rfl rfl rfl ?_;rfl';refine uA (λz=>?_) λz=>?_
   .have hl:1<=xs.length/\xs.length<=40:=by lia
    rfl';refine V9 ?_;rfl';refine jY (enc:=id) (o:=none) xs (λx=>.bl (wV x)) (λenv S'=>S'=S/\∃ a,env=[a]) ((FT rfl).trans (by rw[Rk])) ⟨rfl,none,rfl⟩ (by unfold lim;lia) (λ_ _ _=>trivial) (λx hx env S' ⟨e1,a,e2⟩=>?_) λenv S' ⟨e1,_⟩=>?_
    .subst e1 e2
     rfl';exact qN (aI (oV h x hx) _) ⟨rfl,rfl,_,rfl⟩
    .subst e1
     rfl';refine aD ⟨_,rfl,λha=>?_,λha=>?_⟩
     .obtain⟨qs,rfl,_⟩:=Q1 ha
      rw[Ar] at hl;rfl';refine qN (Y7 qs li _) ⟨?_,rfl⟩;show _=D.bl (decide (1<=(qs.map ptD).length/\(qs.map ptD).length<=40)&&(qs.map ptD).all wV&&(match wR (qs.map ptD) with|some ks=>upB ks|none=>false))
      rw[ha,Ar,Bw hl,dS,pM];rfl
     .refine⟨?_,rfl⟩
      show _=D.bl (decide (1<=xs.length/\xs.length<=40)&&xs.all wV&&(match wR xs with|some ks=>upB ks|none=>false))
      rw[ha,Bool.and_false,Ol]
   .rfl'
    refine⟨?_,rfl⟩;show _=D.bl (decide (1<=xs.length/\xs.length<=40)&&xs.all wV&&(match wR xs with|some ks=>upB ks|none=>false))
    rw[Cc li,Ol,Ol]
  |_=>cases e
theorem rB (c:Cl){d:D}(S:Sto)(h:Pn d)(k:lB d=true):S_need_lot c [d] S=.ok .non S:=by
 rw[gL];refine wO (zB (env:=[Ab d]) rfl ?_);rfl';refine qN (Y5 h S) ?_;rw[k];rfl';exact⟨rfl,rfl⟩
theorem uD (c:Cl){i a b:Ag}(S:Sto)(h:a<=i/\i<=b):S_need_within c [.int i,.int a,.int b] S=.ok .non S:=by
 rw[uF];refine wO (zB (env:=[Ab (.int i),Ab (.int a),Ab (.int b)]) rfl ?_);rfl';refine qN (sH ⟨.int i,rfl⟩ a b S) ?_;rw[show inR a b (.int i)=true from Bw h]
 rfl';exact⟨rfl,rfl⟩
theorem yX {p:Af}{m:Ag}(h:vL S p)(hm:0<m/\m<1073741824)(q:∀ (r:Af) S1,Kp p S S1->(r:Ag)<m->Q (.int r) S1):Ok (S__law_draw [.loc p,.int m] S) Q:=by
 have fin:∀ r v f:Ag,0<=r->r<m->Q (.int r) (S.set p (.lst [.int v,.int f])):=λr v f h0 h1=>by
  obtain⟨r,rfl⟩:=IM h0;obtain⟨v0,f0,e⟩:=h;have hpl:=(Az.mp e).1;exact q r _ ⟨⟨v,f,by simp[hpl]⟩,by simp,λi hi hn=>Cb (Eu hn)⟩ h1
 obtain⟨v,f,e⟩:=h;have hpl:=(Az.mp e).1;rw[jJ];refine zB (env:=[Ab (.loc p),Ab (.int m),none]) rfl ?_;rfl';refine kZ e (d:=.int f) rfl ?_;rfl';refine uA (λz=>?_) λz=>?_
 .rfl'
  refine kZ e (d:=.int v) rfl ?_;rfl';refine kZ e (d:=.int v) rfl ?_;rfl';refine oR e rfl ?_;rfl';exact fin _ _ _ (Ld _ om) (IP _ hm.1)
 .rfl'
  refine kZ e (d:=.int v) rfl ?_;have hv:=Ld v (show (2147483629:Ag)≠0 by omega)
  have hv':=IP v (show (0:Ag)<2147483629 by omega)
  rfl';have hw:=Ld (v % 2147483629*48271+11) (show (2147483629:Ag)≠0 by omega)
  have hw':=IP (v % 2147483629*48271+11) (show (0:Ag)<2147483629 by omega)
  generalize (v % 2147483629*48271+11) % 2147483629=w at hw hw';refine oR e rfl ?_;have e2:(S.set p (MO.lst [.int w,.int f]))[p]? = Ab (.lst [.int w,.int f]):=by simp[hpl]
  rfl';refine kZ e2 (d:=.int w) rfl ?_;rfl';refine kZ e2 (d:=.int w) rfl ?_;rfl';refine kZ e2 (d:=.int w) rfl ?_;rfl';exact fin _ _ _ (Ld _ om) (IP _ hm.1)
theorem SO {x:Ag}(q:∀ p S1,vL S1 p->Q (.loc p) S1):Ok (S__law_pen [.int x] S) Q:=by
 rw[gI];refine zB (env:=[Ab (.int x)]) rfl ?_;rfl';refine qN (d:=.int 1000000000000000000) rfl ?_;rfl';refine qN (d:=.int (b01 (decide (1000000000000000000<=x)))) rfl ?_;rfl';exact q _ _ ⟨_,_,uB _ _⟩
theorem GE (ns:Aa Ag)(hl:ns.length<=63)(k:Ag){Q:Aa D->Sto->Prop}{env:qC}{S:Sto}(h0:env[0]? = Ab (Ab (.lst (ns.map D.int))))(q:∀ ms:Aa Ag,Q (ms.map D.int) S):Ok (wY (d2 zA (jE (q8 (qK 2 S__law_cell (q8 (q9 0) (q8 (dC (.int 0)) (qA)))) (qA))) (dSl (q9 0) (wZ (dC (.int 1))) (wZ (dC (.int k))))) env S) Q:=by
 have hc:∃ x:Ag,S__law_cell [.lst (ns.map D.int),.int 0] S=.ok (.int x) S:=by
  rw[jI];cases ns with
  |nil=>exact⟨0,wO (zB (env:=[Ab (.lst []),Ab (.int 0)]) rfl (by rfl';exact⟨rfl,rfl⟩))⟩
  |cons n ns =>
   refine⟨n,wO (zB (env:=[Ab (.lst ((n::ns).map D.int)),Ab (.int 0)]) rfl ?_)⟩;rfl';refine uA (λ_=>?_) λe=>absurd (by rw[Ar,By];omega) e
   rfl';exact VB (B0 (a:=0) (by simp)) ⟨rfl,rfl⟩
 obtain⟨x,hx⟩:=hc;refine K1 (o_2 (SN (pB (MF (pB (o_v h0 ?_))))));rfl';refine qN hx ?_;rfl';refine o_v h0 ?_;rfl';have hm:wA (ns.map D.int) (Ab 1) (Ab k)=((ns.drop (_H.sIx (ns.map D.int).length 0 (Ab 1))).take (_H.sIx (ns.map D.int).length (ns.map D.int).length (Ab k)-_H.sIx (ns.map D.int).length 0 (Ab 1))).map D.int:=by
  unfold wA;rw[List.map_take,Ti]
 rw[hm];refine MD ?_ ⟨_,rfl,q (x::_)⟩;rw[Ar,Gq,Mp];show 1+_<=lim;unfold lim;omega
theorem RK (i:Ag)(S:Sto)(h:0<=i/\i<=1000000):dE (.int 1) (.int i) S=.ok (.int (2 ^ i.toNat)) S:=by
 unfold dE i2 ZK;have:(Int.natAbs 1)<2 ^ 64:=by decide
 simp[h,this]
theorem VW (n:Ag)(h:0<=n/\n<=1000000000):IG n<=30/\n<2 ^ (IG n):=by
 unfold IG;by_cases z:n=0
 .subst z;simp
 .have hz:(n == 0)=false:=by simp[z]
  rw[hz];obtain⟨m,rfl⟩:∃ m:Af,n=m:=⟨n.toNat,by omega⟩
  have hm:m≠0:=by omega
  simp only[Cz,Fv,Int.natAbs_natCast];refine⟨?_,?_⟩
  .have:m.log2<30:=(Nat.log2_lt hm).mpr om
   omega
  .have:=@Nat.lt_log2_self m
   exact_mod_cast this
theorem J7 (B:Af)(n:Ag)(hB:B<=30/\n<2 ^ B):∃ q T:Af,((B:Ag)+1)/2=q/\q<=15/\(2:Ag) ^ q=T/\T<=32768/\n<(T:Ag)*T:=by
 refine⟨(B+1)/2,2 ^ ((B+1)/2),by omega,by omega,by push_cast;rfl,?_,?_⟩
 .have:(2:Af) ^ ((B+1)/2)<=2 ^ 15:=Nd (by decide) om
  exact this
 .have:(2:Af) ^ B<=2 ^ ((B+1)/2)*2 ^ ((B+1)/2):=by rw[<- Nat.pow_add];exact Nd (by decide) om
  have h2:(2:Ag) ^ B<=((2 ^ ((B+1)/2):Af):Ag)*((2 ^ ((B+1)/2):Af):Ag):=by exact_mod_cast this
  omega
theorem LL {i:Af}{a b:Ag}(e:env[i]? = Ab (Ab (.int a)))(h:Wo P (.nx (env.set i (Ab (.int (a+b)))) S)):Wo P (wX i pX (dC (.int b)) env S):=by
 have:wX i pX (dC (.int b)) env S=.nx (env.set i (Ab (.int (a+b)))) S:=by
  unfold wX;rw[e];rfl
 rw[this];exact h
theorem LM {i:Af}{a b:Ag}(e:env[i]? = Ab (Ab (.int a)))(h:Wo P (.nx (env.set i (Ab (.int (a-b)))) S)):Wo P (wX i _D.yS (dC (.int b)) env S):=by
 have:wX i _D.yS (dC (.int b)) env S=.nx (env.set i (Ab (.int (a-b)))) S:=by
  unfold wX;rw[e];rfl
 rw[this];exact h
theorem MM {n:Ag}(h:0<=n/\n<=1000000000)(q:∀ T:Af,T<=32768->n<(T:Ag)*T->Q (.int T) S):Ok (S_above_root [.int n] S) Q:=by
 obtain⟨k,T,h1,h2,h3,h4,h5⟩:=J7 _ n (VW n h);rw[uY];refine zB (env:=[Ab (.int n)]) rfl ?_;rfl';refine qN (d:=.int (IG n)) (S:=S) rfl ?_;rfl';rw[h1];refine qN (RK (k:Ag) S ⟨by lia,by lia⟩) ?_
 rw[Hc,h3];rfl';exact q T h4 h5
theorem VT {sg:DS}{o:Out}(R:qC->Sto->Prop)(h:∀ P':Out->Prop,(∀ env S,R env S->Wo P' (.nx env S))->Wo P' o)(k:∀ env S,R env S->Wo P (sg env S)):Wo (aL sg P) o:=h _ k
noncomputable def wD (p:Af × Af):D:=.tup [.int p.1,.int p.2]
def Wy (n:Af)(W:Aa (Af × Af)):Prop:=∀ a b:Af,(a,b)∈W↔a<=b/\a*a+b*b=n
structure Kw (n:Af)(S:Sto)(W:Aa (Af × Af))(S':Sto):Prop where
 at':S'[S.length]? = Ab (.lst (W.map wD))
 pre:∀ m,m<S.length->S'[m]? = S[m]?
 on:∀ p∈W,p.1<=p.2/\p.1*p.1+p.2*p.2=n
theorem RN {a b:Af}(h:a<b):a*a<b*b:=Nat.mul_lt_mul_of_lt_of_le h (Dz h) li
theorem RM {a b:Af}(h:a*a<b*b):a<b:=Pq λz=>by
 have:=De z z
 lia
def Ls (a:Af)(W:Aa (Af × Af)):Prop:=W.length<=a/\W.Nodup/\∀ p∈W,p.1<a
theorem Ls.up {a:Af}(h:Ls a W):Ls (a+1) W:=⟨Nat.le_succ_of_le h.1,h.2.1,λp hp=>Jl (h.2.2 p hp)⟩
theorem Ls.app {a b:Af}(h:Ls a W):Ls (a+1) (W++[(a,b)]):=by
 refine⟨by rw[Dj];exact Wc h.1,Io.mpr ⟨h.2.1,Co.mpr ⟨Dg,Fq⟩,λx hx y hy e=>?_⟩,λp hp=>?_⟩
 .have:=h.2.2 x hx
  rw[e,Dc.mp hy] at this;exact Di _ this
 .rcases Cs.mp hp with k|k
  .exact Jl (h.2.2 p k)
  .rw[Dc.mp k]
   exact Ka _
theorem oS (c:Cl){S:Sto}{n:Af}{N:Ag}(eN:N=(n:Ag))(hn:n<=10000000)(q:∀ W S',S<+:S'->S'[S.length]? = Ab (.lst (W.map wD))->Wy n W->W.length<=40000->W.Nodup->Q (.loc S.length) S'):Ok (S_sum_ways c [.int N] S) Q:=by
 rw[gM];refine zB (env:=[Ab (.int N),none,none,none,none]) rfl ?_;rfl';refine qN (d:=.int 1000000000) rfl ?_;rfl';refine qN (uD c S li) ?_;rfl';refine MM li λT hT hT2=>?_;rfl';refine tX (λm env S'=>∃ (a:Af) (b:Ag) (W:Aa (Af × Af)) (e4:Al D),env=[Ab (.int N),Ab (.loc S.length),Ab (.int a),Ab (.int b),e4]/\m=(b+1-a).toNat/\(a:Ag)<=b+1/\b<=32768/\Ls a W/\Kw n S W S'/\∀ x y:Af,x<=y->x*x+y*y=n->(x,y)∈W\/a<=x/\(y:Ag)<=b) ?_ (n:=(T+1)) (by rw[fL];lia) ⟨0,T,[],_,rfl,by lia,by lia,by lia,⟨Hg _,Fq,λp hp=>by cases hp⟩,⟨uB _ _,(λm hm=>Bo hm),λp hp=>by cases hp⟩,λx y _ e=>.inr ⟨Hg _,?_⟩⟩
 .rintro m _ S' ⟨a,b,W,e4,rfl,rfl,hab,hb,hl,g,al⟩
  have hl1:=hl.1;rfl';refine⟨λz=>?_,λz=>?_⟩
  .have z:=Bp z
   obtain⟨b,rfl⟩:∃ k:Af,b=k:=⟨b.toNat,by lia⟩
   have hlt:=(Az.mp g.at').1;have eT:(a:Ag)*a+(b:Ag)*b=((a*a+b*b:Af):Ag):=by push_cast;rfl
   rfl';rw[eT];refine VT (λenv S2=>∃ W',env=[Ab (.int N),Ab (.loc S.length),Ab (.int a),Ab (.int b),Ab (.int ((a*a+b*b:Af):Ag))]/\Ls (a+1) W'/\(a*a+b*b≠n->Ls a W')/\Kw n S W' S2/\∀ x y:Af,x<=y->x*x+y*y=n->(x,y)∈W'\/a<=x/\y<=b/\¬ (x=a/\y=b)) (λP' hP=>?_) ?_
   .refine uA (λw=>?_) λw=>?_
    .have w:a*a+b*b=n:=by rw[eN] at w;exact_mod_cast w
     rfl';refine⟨aY g.at',?_⟩;rfl';refine VA g.at' (by rw[Ar];unfold lim;lia) ?_
     refine hP _ _ ⟨W++[(a,b)],rfl,hl.app,(λk=>absurd w k),⟨?_,λm hm=>?_,λp hp=>?_⟩,λx y hxy e=>?_⟩
     .rw[Dl hlt,He]
      rfl
     .rw[Cb li]
      exact g.pre m hm
     .rcases Cs.mp hp with hp|hp
      .exact g.on p hp
      .rw[Dc.mp hp]
       exact⟨by dsimp only;lia,w⟩
     .rcases al x y hxy e with h|⟨h1,h2⟩
      .exact .inl (Dr _ h)
      .by_cases k:x=a/\y=b
       .rw[k.1,k.2]
        exact .inl (Bx _ (.head _))
       .exact .inr ⟨h1,by lia,k⟩
    .have w:¬ a*a+b*b=n:=λk=>w (by rw[eN,k])
     rfl';refine hP _ _ ⟨W,rfl,hl.up,λ_=>hl,g,λx y hxy e=>?_⟩;rcases al x y hxy e with h|⟨h1,h2⟩
     .exact .inl h
     .refine .inr ⟨h1,by lia,λk=>w ?_⟩
      rw[<- k.1,<- k.2];exact e
   .rintro _ S2 ⟨W',rfl,hl',hl2,g',al'⟩
    rfl';refine uA (λw=>?_) λw=>?_
    .have w:n<a*a+b*b:=by rw[eN] at w;exact_mod_cast w
     refine LM rfl ?_;have hb0:0<b:=by
      refine Ha λk=>?_;subst k;have:a=0:=by lia
      subst this
      lia
     refine mE ((b:Ag)-1+1-a).toNat li ⟨a,(b:Ag)-1,W',_,rfl,rfl,by lia,by lia,hl2 li,g',λx y hxy e=>?_⟩
     rcases al' x y hxy e with h|⟨h1,h2,h3⟩
     .exact .inl h
     .refine .inr ⟨h1,?_⟩
      have:y≠b:=λk=>by
       subst k;have:=De h1 h1
       lia
      lia
    .have w:a*a+b*b<=n:=by
      refine Vo λk=>w ?_;rw[eN]
      exact_mod_cast k
     refine LL rfl ?_;refine mE ((b:Ag)+1-((a+1:Af):Ag)).toNat li ⟨a+1,b,W',_,rfl,rfl,by lia,by lia,hl',g',λx y hxy e=>?_⟩
     rcases al' x y hxy e with h|⟨h1,h2,h3⟩
     .exact .inl h
     .refine .inr ⟨?_,by lia⟩
      have:x≠a:=λk=>by
       subst k;have k2:y≠b:=λk2=>h3 ⟨rfl,k2⟩;have:=RN (show y<b by lia)
       lia
      lia
  .have z:=Ht z
   rfl';refine q W S' (sF g.pre) g.at' (λx y=>⟨λh=>g.on _ h,λ⟨h1,h2⟩=>?_⟩) li hl.2.1;rcases al x y h1 h2 with h|h
   .exact h
   .lia
 .have h1:(y*y:Af)<T*T:=by
   have:((y*y:Af):Ag)<((T*T:Af):Ag):=by
    push_cast
    push_cast at hT2
    have:((x*x+y*y:Af):Ag)=(n:Ag):=by rw[e]
    push_cast at this
    have:=Ju (Ln x) (Ln x)
    lia
   exact_mod_cast this
  have:=RM h1
  lia
abbrev Tb:=Aa (Ag × Ag)
variable {T:Tb}
noncomputable def kvT (T:Tb):Aa (_L.Key × D):=T.map λx=>(Dy x.1,D.int x.2)
noncomputable def wU:Tb->Ag->Ag->Tb
 |[],k,v=>[(k,v)]
 |x::T,k,v=>if x.1=k then (k,x.2+v)::T else x::wU T k v
noncomputable def at0:Tb->Ag->Ag
 |[],_=>0
 |x::T,k=>if x.1=k then x.2 else at0 T k
abbrev Nk (T:Tb):Prop:=(T.map (·.1)).Nodup
theorem QV:∀ (T:Tb) (k:Ag),((zQ (kvT T) (.inl k)).getD (.int 0))=.int (at0 T k)
 |[],_=>rfl
 |x::T,k=>by
  have ih:=QV T k;unfold kvT zQ at ih ⊢;rw[Bz,Hd,at0];by_cases h:x.1=k
  .rw[Bc h,Bw (by rw[h])]
   rfl
  .rw[Aw h,Cc (λz=>h (Kv z))]
   exact ih
theorem ZI {k:Ag}(v:Ag)(h:k ∉ T.map (·.1)):wU T k v=T++[(k,v)]/\at0 T k=0:=by
 induction T with
 |nil=>exact⟨rfl,rfl⟩
 |cons x T ih =>
  rw[Bz,Bg,Tn] at h;obtain⟨i1,i2⟩:=ih h.2;rw[wU,at0,Aw (Eu h.1),Aw (Eu h.1),i1];exact⟨rfl,i2⟩
theorem VZ {k:Ag}(v:Ag)(n:Nk T)(h:k∈T.map (·.1)):wU T k v=T.map λx=>if x.1=k then (k,at0 T k+v) else x:=by
 induction T with
 |nil=>cases h
 |cons x T ih =>
  obtain⟨n1,n2⟩:=Co.mp n;rw[wU,Bz];by_cases e:x.1=k
  .rw[Bc e,Bc e]
   congr 1
   .rw[at0,Bc e]
   .conv=>lhs;rw[<- Rk T]
    refine II λy hy=>?_;rw[Aw]
    .rfl
    .intro z
     exact n1 (Bk.mpr ⟨y,hy,z.trans e.symm⟩)
  .rw[Aw e,Aw e,at0,Aw e]
   congr 1
   rw[Bz,Bg] at h;exact ih n2 (h.resolve_left (Eu e))
theorem N2 (T:Tb)(n:Nk T)(k v:Ag):xC (kvT T) (.inl k) (.int (at0 T k+v))=kvT (wU T k v):=by
 unfold xC;by_cases h:k∈T.map (·.1)
 .rw[Bc,VZ v n h]
  .unfold kvT
   rw[Ei,Ei];refine II λx _=>?_;show (if (Dy x.1:_L.Key)=.inl k then ((Dy x.1:_L.Key),D.int (at0 T k+v)) else (.inl x.1,.int x.2))=_
   by_cases e:x.1=k
   .subst e
    simp
   .rw[Aw (λz=>e (Kv z))]
    simp[e]
  .obtain⟨x,hx,e⟩:=Bk.mp h
   exact Kb.mpr ⟨_,Bk.mpr ⟨x,hx,rfl⟩,Bw (by rw[<- e])⟩
 .obtain⟨e1,e2⟩:=ZI v h
  rw[Aw,e1,e2,Qf]
  .unfold kvT
   rw[He];rfl
  .intro z
   obtain⟨y,hy,e⟩:=Kb.mp z;obtain⟨x,hx,rfl⟩:=Bk.mp hy;exact h (Bk.mpr ⟨x,hx,Kv (Bp e)⟩)
theorem ZH {k v j:Ag}(h:j∈(wU T k v).map (·.1)):j=k\/j∈T.map (·.1):=by
 induction T with
 |nil=>exact .inl (by simpa [wU] using h)
 |cons x T ih =>
  rw[wU] at h
  split at h
  .rcases Bg.mp h with h|h
   .exact .inl h
   .exact .inr (.tail _ h)
  .rcases Bg.mp h with h|h
   .exact .inr (by rw[h];exact .head _)
   .rcases ih h with h|h
    .exact .inl h
    .exact .inr (.tail _ h)
set_option tactic.hygienic true in
theorem U0 {k v:Ag}(n:Nk T):Nk (wU T k v):=by
 induction T with
 |nil=>simp[wU,Nk]
 |cons x T ih =>
  obtain⟨n1,n2⟩:=Co.mp n;rw[wU]
  split
  .rename_i e
   exact Co.mpr ⟨e▸n1,n2⟩
  .rename_i e
   refine Co.mpr ⟨λh=>?_,ih n2⟩;rcases ZH h with h|h
   .exact e h
   .exact n1 h
theorem ZG (T:Tb)(k v:Ag):(wU T k v).length<=T.length+1:=by
 induction T with
 |nil=>exact Ax _
 |cons x T ih =>
  rw[wU]
  split
  .exact O9 _
  .exact Wc ih
noncomputable def trn (a b:Ag):Ag:=if 0<a/\0<b then 2 else 1
noncomputable def wt (w h a b:Ag):Ag:=trn a b*(w-a)*(h-b)
noncomputable def rise (a:Ag)(n:Af):Aa Ag:=(Ds n).map λ(i:Af)=>a+(i:Ag)
noncomputable def row (w h a:Ag)(T:Tb)(bs:Aa Ag):Tb:=bs.foldl (λT b=>wU T (a*a+b*b) (wt w h a b)) T
noncomputable def lo (a:Ag):Ag:=if a=0 then 1 else 0
noncomputable def aR (w h:Ag)(T:Tb)(as:Aa Ag):Tb:=as.foldl (λT a=>row w h a T (rise (lo a) (h-lo a).toNat)) T
noncomputable def xU (w h:Af):Tb:=aR w h [] (rise 0 w)
theorem sN {a x:Ag}(h:x∈rise a n):a<=x/\x<a+n:=by
 obtain⟨i,hi,rfl⟩:=Bk.mp h;have:=DL.mp hi
 lia
theorem sM (a:Ag)(n:Af):(rise a n).length=n:=by
 unfold rise;rw[Ar,Ma]
theorem RS {kvs:Aa (_L.Key × D)}(h:S[j]? = Ab (.dct kvs)):tyD (.loc j) S=Ab "dict":=by
 show (match S[j]? with|some (.lst _)=>Ab "list" | some (.dct _)=>Ab "dict" | _=>none)=_
 rw[h]
theorem MH {k:Ag}(h:S[j]? = Ab (.dct (kvT T)))(q:Q (.int (at0 T k)) S):Ok (vD (.loc j) [.int k,.int 0] S) Q:=by
 refine⟨_,_,?_,q⟩;show (match S[j]? with|some (.dct kvs)=>(match xO (.int k) with|some k=>Res.ok ((zQ kvs k).getD (.int 0)) S|none=>.bad)|_=>.bad)=_
 rw[h];show Res.ok ((zQ (kvT T) (.inl k)).getD (.int 0)) S=_;rw[QV]
theorem YA (n:Af):((Ds n).map λ(i:Af)=>D.int (i:Ag))=(rise 0 n).map D.int:=by
 unfold rise;rw[Ei];refine II λi _=>?_;show D.int i=D.int (0+(i:Ag));rw[Qf]
theorem L0 {a b:Ag}(h : -1000<=a/\a<=1000 /\ -1000<=b/\b<=1000):gD [.int a,.int b]=Ab ((rise a (b-a).toNat).map D.int):=by
 rw[VL];show (if -(2 ^ 62)<=a/\a<2 ^ 62 /\ -(2 ^ 62)<=b/\b<2 ^ 62 then Ab (xR a (b-a).toNat) else none)=_
 rw[Bc li];unfold xR rise;rw[Ei];rfl
theorem eO {w h a b:Ag}(hw:0<=w/\w<=1000/\0<=a/\a<=1000)(q:Q (.int (wt w h a b)) S):Ok (S_pairs_apart [.int w,.int h,.int a,.int b] S) Q:=by
 rw[uG];refine zB (env:=[Ab (.int w),Ab (.int h),Ab (.int a),Ab (.int b),none]) rfl ?_;array_get_dec;array_get_dec;refine zC (Q:=λd S'=>d=.int (trn a b)/\S'=S) ?_ ?_
 .refine MI (yW ?_)
  rfl';refine⟨λha=>?_,λha=>⟨(λe=>by cases e),λ_=>?_⟩⟩
  .rfl'
   refine⟨λhb=>?_,λhb=>?_⟩
   .rfl';exact⟨by unfold trn;rw[Bc ⟨Bp ha,Bp hb⟩],rfl⟩
   .rfl';exact⟨by unfold trn;rw[Aw (λz=>Ht hb z.2)],rfl⟩
  .rfl';exact⟨by unfold trn;rw[Aw (λz=>Ht ha z.1)],rfl⟩
 .rintro _ _ ⟨rfl,rfl⟩
  unfold wt at q;have ht:trn a b=1\/trn a b=2:=by unfold trn;split <;> simp
  rcases ht with ht|ht
  .rw[ht] at q ⊢
   rfl';exact q
  .rw[ht] at q ⊢
   rfl';exact q
structure Kt (S:Sto)(T:Tb)(S':Sto):Prop where
 dc:S'[S.length]? = Ab (.dct (kvT T))
 nk:Nk T
 pre:∀ m,m<S.length->S'[m]? = S[m]?
theorem Kt.put (g:Kt S T S')(k v:Ag):Kt S (wU T k v) (S'.set S.length (.dct (xC (kvT T) (.inl k) (.int (at0 T k+v))))):=by
 have hlt:=(Az.mp g.dc).1;refine⟨?_,U0 g.nk,λm hm=>?_⟩
 .rw[Dl hlt,N2 T g.nk]
 .rw[Cb li]
  exact g.pre m hm
theorem o9 (T:Tb):(kvT T).length=T.length:=Ar _
theorem Kt.pf (g:Kt S T S'):S<+:S':=sF g.pre
theorem oP (w h:Af){W H:Ag}(eW:W=(w:Ag))(eH:H=(h:Ag))(hw:0<=W/\W<=200)(hh:0<=H/\H<=200)(q:∀ S',Kt S (xU w h) S'->Q (.loc S.length) S'):Ok (S_grid_table [.int W,.int H] S) Q:=by
 have e0:aR W H [] (rise 0 W.toNat)=xU w h:=by rw[eW,eH,Hc];rfl
 generalize xU w h=G at *;clear eW eH;rw[j6];refine zB (env:=[Ab (.int W),Ab (.int H),none,none,none,none]) rfl ?_;rfl';refine⟨by lia,by lia,?_⟩
 rw[YA];refine vA (λas env S'=>∃ e3 e4 e5 T,env=[Ab (.int W),Ab (.int H),Ab (.loc S.length),e3,e4,e5]/\Kt S T S'/\aR W H T as=G/\T.length+as.length*200<=40000/\∀ a∈as,0<=a/\a<W) ?_ ?_ ⟨_,_,_,[],rfl,⟨uB _ _,Fq,λm hm=>Bo hm⟩,e0,by rw[sM];simp;lia,λa ha=>by have:=sN ha;lia⟩
 .rintro a as _ S' ⟨e3,e4,e5,T,rfl,g,ht,hl,ha⟩
  have ha0:=ha a (.head _);have hlo:lo a=0\/lo a=1:=by unfold lo;split <;> simp
  array_get_dec;refine VS (VD (pB ?_));refine zC (Q:=λd S''=>d=.int (lo a)/\S''=S') ?_ ?_
  .refine MI ?_
   rfl';refine⟨λz=>?_,λz=>?_⟩
   .rfl';exact⟨by unfold lo;rw[Bc (Bp z)],rfl⟩
   .rfl';exact⟨by unfold lo;rw[Aw (Ht z)],rfl⟩
  rintro _ S' ⟨rfl,rfl⟩;rfl';refine⟨_,L0 li,?_⟩;refine vA (λbs env S'=>∃ e4 e5 T',env=[Ab (.int W),Ab (.int H),Ab (.loc S.length),Ab (.int a),e4,e5]/\Kt S T' S'/\row W H a T' bs=row W H a T (rise (lo a) (H-lo a).toNat)/\T'.length+bs.length+as.length*200<=40000/\∀ b∈bs,0<=b/\b<H) ?_ ?_ ⟨_,_,T,rfl,g,rfl,by rw[sM];rw[By] at hl;lia,λb hb=>by have:=sN hb;lia⟩
  .rintro b bs _ S2 ⟨e4,e5,T',rfl,g',hr,hl',hb⟩
   have hb0:=hb b (.head _);rw[By] at hl';rfl';refine⟨RS g'.dc,?_⟩;rfl';refine MH g'.dc ?_;rfl';refine eO li ?_;rfl';refine MN g'.dc (by rw[o9];unfold lim;lia) ?_
   have:=ZG T' (a*a+b*b) (wt W H a b);exact jC ⟨_,_,_,rfl,g'.put _ _,hr,by lia,λb h=>hb b (.tail _ h)⟩
  .rintro _ S2 ⟨e4,e5,T',rfl,g',hr,hl',_⟩
   rw[show row W H a T' [] = T' from rfl] at hr
   refine jC ⟨_,_,_,T',rfl,g',?_,by simpa using hl',λa h=>ha a (.tail _ h)⟩
   rw[hr];exact ht
 .rintro _ S' ⟨e3,e4,e5,T,rfl,g,ht,_,_⟩
  rw[show aR W H T [] = T from rfl] at ht
  subst ht;rfl';exact q S' g
noncomputable def rwD (x:Ag × Ag):D:=.tup [.int x.1,.int x.2]
inductive IsBest (T:Tb)(d:D):Prop
 |no (h:T=[]) (e:d=.non):IsBest T d
 |of (x:Ag × Ag) (m:x∈T) (e:d=rwD x) (h1:∀ y∈T,y.2<=x.2) (h2:∀ y∈T,y.1<x.1->y.2<x.2):IsBest T d
theorem M5 {x y:Ag × Ag}(h:x.1<y.1):ltN (rwD y) (rwD x)=false:=by
 show _H.lexLt [2,1,y.1,1,y.2,0] [2,1,x.1,1,x.2,0]=false;simp only[_H.lexLt_cons,Dm];rw[Aw li];exact Cc li
theorem L8 (n:Nk T):∃ U:Tb,U.Perm T/\U.Pairwise (λx y=>x.1<y.1)/\fD (T.map rwD)=U.map rwD:=by
 have hp:=Td T (λx y=>decide (x.1<=y.1));have hs:(T.mergeSort (λx y=>decide (x.1<=y.1))).Pairwise λx y=>decide (x.1<=y.1)=true:=Lr (by simp;lia) (by simp;lia) T
 generalize T.mergeSort (λx y=>decide (x.1<=y.1))=U at hp hs;have nu:Nk U:=(hp.map (·.1)).nodup_iff.mpr n
 have hu:U.Pairwise (λx y=>x.1<y.1):=by
  unfold Nk at nu;rw[Ze,Gh] at nu;refine(List.pairwise_and_iff.mpr ⟨hs,nu⟩).imp λ{a b} ⟨h1,h2⟩=>?_;have:=Bp h1
  lia
 refine⟨U,hp,hu,GQ (n:=6) (λx hx=>?_) (hp.map _) ?_⟩
 .obtain⟨y,_,rfl⟩:=Bk.mp hx
  exact VP (show trb 6 (rwD y)=true from rfl)
 .rw[Gh]
  exact hu.imp λh=>M5 h
theorem nL (kf:Af->Ag):∀ k,Fh (gtK kf) k<=k/\(∀ j,j<=k->kf j<=kf (Fh (gtK kf) k))/\∀ j,j<Fh (gtK kf) k->kf j<kf (Fh (gtK kf) k)
 |0=>⟨Ax _,λj hj=>by
   have:j=0:=by omega
   subst this;exact Hx _,λj hj=>absurd hj (by show ¬ j<0;omega)⟩
 |k+1=>by
  obtain⟨h1,h2,h3⟩:=nL kf k;rw[Fh];cases hb:gtK kf (k+1) (Fh (gtK kf) k) with
  |true =>
   have hb':kf (Fh (gtK kf) k)<kf (k+1):=Bp hb;rw[Bc rfl];refine⟨Ax _,λj hj=>?_,λj hj=>?_⟩
   .by_cases e:j=k+1
    .subst e;exact Hx _
    .have:=h2 j om;omega
   .have:=h2 j om;omega
  |false =>
   have hb':¬ kf (Fh (gtK kf) k)<kf (k+1):=Ht hb;rw[Aw (by simp)]
   refine⟨by omega,λj hj=>?_,h3⟩
   by_cases e:j=k+1
   .subst e;omega
   .exact h2 j om
theorem rV:∀ U:Tb,yT 1 (U.map rwD)=Ab (U.map (·.2))
 |[]=>rfl
 |x::U=>by
  have h1:p8 1 (rwD x)=Ab x.2:=rfl;rw[Bz];unfold yT;rw[h1,rV U];rfl
theorem SE {U:Tb}(hp:U.Perm T)(hu:U.Pairwise (λx y=>x.1<y.1)):IsBest T (f7 (U.map (·.2)) (U.map rwD)):=by
 by_cases h:U=[]
 .subst h
  exact .no hp.symm.eq_nil rfl
 have hl:=Th.mpr h;have key:=nL (λi=>(U.map (·.2)).getD i 0) (U.length-1)
 have hm:(f7 (U.map (·.2)) (U.map rwD))=(U.map rwD).getD (Fh (gtK λi=>(U.map (·.2)).getD i 0) (U.length-1)) .non:=by
  unfold f7;rw[Ar]
 rw[hm];generalize Fh (gtK λi=>(U.map (·.2)).getD i 0) (U.length-1)=m at key
 obtain⟨k1,k2,k3⟩:=key;have hml:m<U.length:=by omega
 have kf:∀ j (hj:j<U.length),(U.map (·.2)).getD j 0=U[j].2:=λj hj=>by
  rw[Hy,Eb,Am hj];rfl
 refine .of U[m] (hp.mem_iff.mp (Pj hml)) ?_ (λy hy=>?_) λy hy hb=>?_
 .rw[Hy,Eb,Am hml];rfl
 .obtain⟨j,hj,rfl⟩:=Cw.mp (hp.mem_iff.mpr hy)
  have:=k2 j om;rw[kf j hj,kf m hml] at this;exact this
 .obtain⟨j,hj,rfl⟩:=Cw.mp (hp.mem_iff.mpr hy)
  have hjm:j<m:=by
   rcases Nat.lt_trichotomy j m with z|z|z
   .exact z
   .subst z;lia
   .have:=Ip.mp hu m j hml hj z
    lia
  have:=k3 j hjm;rw[kf j hj,kf m hml] at this;exact this
theorem FU (T:Tb):wW (kvT T)=T.map rwD:=by
 unfold wW kvT;rw[Ei];rfl
theorem tN (c:Cl){W H:Ag}{S:Sto}{m:Ag}(hw:1<=W/\W<=m)(hh:1<=H/\H<=m)(q:Q .non S):Ok (S_need_sides c [.int W,.int H,.int m] S) Q:=by
 rw[j7];refine zB (env:=[Ab (.int W),Ab (.int H),Ab (.int m)]) rfl ?_;rfl';refine qN (uD c S hw) ?_;rfl';refine qN (uD c S hh) ?_;exact q
theorem ML (c:Cl){S:Sto}(w h:Af){W H:Ag}(eW:W=(w:Ag))(eH:H=(h:Ag))(hw:1<=W/\W<=200)(hh:1<=H/\H<=200)(q:∀ S',S<+:S'->Q (.int (xU w h).length) S'):Ok (S_many_grid c [.int W,.int H] S) Q:=by
 rw[jN];refine zB (env:=[Ab (.int W),Ab (.int H)]) rfl ?_;rfl';refine tN c hw hh ?_;rfl';refine oP w h eW eH li li λS' g=>?_;rfl';refine qN (d:=.int (xU w h).length) (S:=S') ?_ ?_
 .show (match dP (.loc S.length) S' with|some n=>Res.ok (D.int n) S'|none=>.bad)=_
  have:dP (.loc S.length) S'=Ab (xU w h).length:=by
   show (match S'[S.length]? with|some (.dct kvs)=>Ab kvs.length|_=>none)=_
   rw[g.dc];show Ab (kvT _).length=_;rw[o9]
  rw[this]
 .rfl'
  exact q S' g.pf
theorem K0 (c:Cl){S:Sto}(w h:Af){W H:Ag}(eW:W=(w:Ag))(eH:H=(h:Ag))(hw:1<=W/\W<=200)(hh:1<=H/\H<=200)(hl:(xU w h).length<=40000)(q:∀ d S',S<+:S'->IsBest (xU w h) d->Q d S'):Ok (S_greatest_often c [.int W,.int H] S) Q:=by
 rw[vB];refine zB (env:=[Ab (.int W),Ab (.int H),none]) rfl ?_;rfl';refine tN c hw hh ?_;rfl';refine qS ?_;rfl';refine oP w h eW eH li li λS' g=>?_;obtain⟨U,u1,u2,u3⟩:=L8 g.nk;refine qN (d:=.loc S'.length) (S:=S'++[.lst (U.map rwD)]) ?_ ?_
 .rw[BI g.dc]
  show (if (decide ((wW (kvT (xU w h))).length<=100000)&&sOk (wW (kvT (xU w h))))=true then _ else _)=_
  rw[FU,Bc,u3];rw[Ar,Bw li,Bool.true_and];refine Bt.mpr λx hx=>?_;obtain⟨y,_,rfl⟩:=Bk.mp hx;rw[As];refine⟨rfl,Bt.mpr λx hx=>?_⟩;obtain⟨z,_,rfl⟩:=Bk.mp hx;rfl
 .rfl'
  refine qS ?_;rfl';refine qN (d:=f7 (U.map (·.2)) (U.map rwD)) (S:=S'++[.lst (U.map rwD)]) ?_ ?_
  .show (match lsD (.loc S'.length) (S'++[MO.lst (U.map rwD)]) with|some xs=>(match yT 1 xs with|some ns=>Res.ok (f7 ns xs) (S'++[MO.lst (U.map rwD)])|none=>.bad)|_=>.bad)=_
   have:lsD (.loc S'.length) (S'++[MO.lst (U.map rwD)])=Ab (U.map rwD):=by
    show (match (S'++[MO.lst (U.map rwD)])[S'.length]? with|some (.lst xs)=>Ab xs|_=>none)=_
    rw[uB]
   rw[this];dsimp only;rw[rV]
  .exact q _ _ (g.pf.trans (Gy ..)) (SE u1 u2)
def Prm (p:Af):Prop:=2<=p/\∀ d,d∣p->d=1\/d=p
theorem Prm.dvd_mul {p a b:Af}(hp:Prm p)(h:p∣a*b):p∣a\/p∣b:=by
 rcases hp.2 (Nat.gcd p a) (Nat.gcd_dvd_left p a) with h1|h1
 .exact .inr (Nat.Coprime.dvd_of_dvd_mul_left h1 h)
 .exact .inl (h1▸Nat.gcd_dvd_right p a)
theorem Prm.dvd_pow {p q:Af}(hp:Prm p)(hq:Prm q):∀ {t:Af},p∣q ^ t->p=q
 |0,h=>by
  have h1:=Ku (by simp) h
  have h2:=hp.1;simp only[Qg] at h1;omega
 |t+1,h=>by
  rw[Go] at h;rcases hp.dvd_mul h with h|h
  .exact hp.dvd_pow hq h
  .rcases hq.2 p h with e|e
   .have:=hp.1
    omega
   .exact e
abbrev FL:=Aa (Af × Af)
variable {L:FL}
noncomputable def xG:FL->Af
 |[]=>1
 |x::L=>x.1 ^ x.2*xG L
structure Fac (L:FL)(n:Af):Prop where
 prm:∀ x∈L,Prm x.1
 pos:∀ x∈L,1<=x.2
 nd:(L.map (·.1)).Nodup
 eq:xG L=n
theorem Fac.tail {x:Af × Af}(h:Fac (x::L) n):Fac L (xG L):=
 ⟨λy hy=>h.prm y (Au _ hy),λy hy=>h.pos y (Au _ hy),(Co.mp h.nd).2,rfl⟩
theorem jT {q:Af}(hq:Prm q):∀ {L:FL},(∀ x∈L,Prm x.1)->q∣xG L->∃ x∈L,x.1=q
 |[],_,h=>by
  have:=Ku (by decide) h
  have:=hq.1;simp[xG] at *;omega
 |x::L,hp,h=>by
  rcases hq.dvd_mul (show q∣x.1 ^ x.2*xG L from h) with h|h
  .exact⟨x,Bv ..,(hq.dvd_pow (hp x (Bv ..)) h).symm⟩
  .obtain⟨y,h1,h2⟩:=jT hq (λy hy=>hp y (Au _ hy)) h
   exact⟨y,Au _ h1,h2⟩
noncomputable def sg (x:Af × Af):Ag:=if x.1 % 4=1 then (x.2:Ag)+1 else if x.1 % 4=3/\x.2 % 2=1 then 0 else 1
noncomputable def sgn:FL->Ag
 |[]=>1
 |x::L=>sg x*sgn L
noncomputable def inc (p:Af):FL->FL
 |[]=>[(p,1)]
 |x::L=>if x.1=p then (p,x.2+1)::L else x::inc p L
noncomputable def cnt (p:Af):FL->Af
 |[]=>0
 |x::L=>if x.1=p then x.2 else cnt p L
set_option tactic.hygienic true in
theorem sG (p:Af):∀ L:FL,xG (inc p L)=p*xG L
 |[]=>by simp[inc,xG]
 |x::L=>by
  unfold inc
  split
  .rename_i h
   simp only[xG];rw[h,Go];rw[Lv (p ^ x.2) p,Tj]
  .simp only[xG,sG p L]
   exact Nat.mul_left_comm _ _ _
set_option tactic.hygienic true in
theorem dJ (p:Af):∀ (L:FL) (q:Af),q∈(inc p L).map (·.1)↔q=p\/q∈L.map (·.1)
 |[],q=>by simp[inc]
 |x::L,q=>by
  unfold inc
  split
  .rename_i h
   simp only[Bz,Bg,h];constructor
   .rintro (h|h)
    .exact .inl h
    .exact .inr (.inr h)
   .rintro (h|h|h)
    .exact .inl h
    .exact .inl h
    .exact .inr h
  .simp only[Bz,Bg,dJ p L q]
   constructor
   .rintro (h|h|h)
    .exact .inr (.inl h)
    .exact .inl h
    .exact .inr (.inr h)
   .rintro (h|h|h)
    .exact .inr (.inl h)
    .exact .inl h
    .exact .inr (.inr h)
set_option tactic.hygienic true in
theorem dU (p:Af):∀ {L:FL},(L.map (·.1)).Nodup->((inc p L).map (·.1)).Nodup
 |[],_=>by simp[inc]
 |x::L,h=>by
  have h':=Co.mp h;unfold inc
  split
  .rename_i e
   simp only[Bz];rw[<- e];exact h
  .rename_i e
   simp only[Bz];refine Co.mpr ⟨λhm=>?_,dU p h'.2⟩;rcases (dJ p L x.1).mp hm with e'|hm
   .exact e e'
   .exact h'.1 hm
theorem tJ {p:Af}:∀ {L:FL} {x:Af × Af},x∈inc p L->(x.1=p/\1<=x.2)\/x∈L
 |[],x,h=>by
  have:x=(p,1):=by simpa [inc] using h
  subst this;exact .inl ⟨rfl,Ax _⟩
 |y::L,x,h=>by
  unfold inc at h
  split at h
  .rcases Bg.mp h with e|h
   .subst e
    exact .inl ⟨rfl,by simp⟩
   .exact .inr (Au _ h)
  .rcases Bg.mp h with e|h
   .subst e
    exact .inr (Bv ..)
   .rcases tJ h with h|h
    .exact .inl h
    .exact .inr (Au _ h)
theorem Fac.inc {p:Af}(h:Fac L n)(hp:Prm p):Fac (_K.inc p L) (p*n) where
 prm:=λx hx=>by
  rcases tJ hx with⟨e,_⟩|hx
  .rw[e];exact hp
  .exact h.prm x hx
 pos:=λx hx=>by
  rcases tJ hx with⟨_,e⟩|hx
  .exact e
  .exact h.pos x hx
 nd:=dU p h.nd
 eq:=by rw[sG,h.eq]
theorem UX:Fac [] 1:=⟨by simp,by simp,by simp,rfl⟩
noncomputable def kvD (L:FL):Aa (_L.Key × D):=L.map λx=>(.inl (x.1:Ag),.int (x.2:Ag))
theorem QU (p:Af):∀ L:FL,(zQ (kvD L) (.inl (p:Ag))).getD (.int 0)=.int (cnt p L:Ag)
 |[]=>rfl
 |x::L=>by
  have ih:=QU p L;unfold cnt;by_cases h:x.1=p
  .rw[Bc h]
   have:zQ (kvD (x::L)) (.inl (p:Ag))=Ab (.int (x.2:Ag)):=by simp[zQ,kvD,h]
   rw[this];rfl
  .rw[Aw h]
   have hne:¬ ((Dy (x.1:Ag):_L.Key)=Dy (p:Ag)):=λe=>h (by injection e with e;omega)
   have:zQ (kvD (x::L)) (.inl (p:Ag))=zQ (kvD L) (.inl (p:Ag)):=by simp only[zQ,kvD,Bz,Hd,hne,IK]
   rw[this];exact ih
theorem PY (p:Af)(L:FL):(kvD L).any (λkv=>decide (kv.1=(.inl (p:Ag):_L.Key)))=true↔p∈L.map (·.1):=by
 simp only[kvD,Pz,Kb,Function.comp,Aq,Bk];constructor
 .rintro⟨x,h1,h2⟩
  injection h2 with h2
  exact⟨x,h1,by omega⟩
 .rintro⟨x,h1,h2⟩
  exact⟨x,h1,by rw[h2]⟩
theorem oD {p:Af}:∀ {L:FL},p ∉ L.map (·.1)->((kvD L).map λkv=>if kv.1=(.inl (p:Ag):_L.Key) then (kv.1,d) else kv)=kvD L
 |[],_=>rfl
 |x::L,h=>by
  simp only[Bz,Bg,Tn] at h;have hne:¬ ((Dy (x.1:Ag):_L.Key)=Dy (p:Ag)):=λe=>h.1 (by injection e with e;omega)
  show (if (Dy (x.1:Ag):_L.Key)=Dy (p:Ag) then _ else _)::((kvD L).map _)=_
  rw[Aw hne,oD h.2];rfl
theorem Q2 (p:Af):∀ {L:FL},(L.map (·.1)).Nodup->xC (kvD L) (.inl (p:Ag)) (.int ((cnt p L:Ag)+1))=kvD (inc p L)
 |[],_=>rfl
 |x::L,h=>by
  have h':=Co.mp h;have ih:=Q2 p h'.2;by_cases e:x.1=p
  .have hin:((kvD (x::L)).any λkv=>decide (kv.1=(.inl (p:Ag):_L.Key)))=true:=(PY p _).mpr (by simp[e])
   have hnot:p ∉ L.map (·.1):=e▸h'.1
   unfold xC;rw[Bc hin];show (if (Dy (x.1:Ag):_L.Key)=Dy (p:Ag) then _ else _)::((kvD L).map _)=_
   rw[oD hnot,Bc (by rw[e])]
   simp[cnt,inc,e,kvD]
  .have hne:¬ ((Dy (x.1:Ag):_L.Key)=Dy (p:Ag)):=λq=>e (by injection q with q;omega)
   have hc:cnt p (x::L)=cnt p L:=by simp[cnt,e]
   have hi:inc p (x::L)=x::inc p L:=by simp[inc,e]
   rw[hc,hi];have hany:((kvD (x::L)).any λkv=>decide (kv.1=(.inl (p:Ag):_L.Key)))=((kvD L).any λkv=>decide (kv.1=(.inl (p:Ag):_L.Key))):=by
    show (decide ((Dy (x.1:Ag):_L.Key)=Dy (p:Ag))||_)=_
    rw[Cc hne,Xt];rfl
   unfold xC at ih ⊢;rw[hany];show _=(.inl (x.1:Ag),.int (x.2:Ag))::kvD (inc p L);rw[<- ih]
   split
   .show (if (Dy (x.1:Ag):_L.Key)=Dy (p:Ag) then _ else _)::((kvD L).map _)=_
    rw[Aw hne]
   .rfl
theorem eA (p:Af):∀ L:FL,(inc p L).length<=L.length+1
 |[]=>by simp[inc]
 |x::L=>by
  unfold inc
  split
  .simp
  .have:=eA p L
   simp;omega
theorem c7:∀ {L:FL},(∀ x∈L,Prm x.1)->(∀ x∈L,1<=x.2)->2 ^ L.length<=xG L
 |[],_,_=>by simp[xG]
 |x::L,hp,ht=>by
  have ih:=c7 (L:=L) (λy hy=>hp y (Au _ hy)) (λy hy=>ht y (Au _ hy));have h1:=(hp x (Bv ..)).1;have h2:=ht x (Bv ..);have h3:2<=x.1 ^ x.2:=by
   obtain⟨k,hk⟩:∃ k,x.2=k+1:=⟨x.2-1,by omega⟩
   rw[hk,Go];have:1<=x.1 ^ k:=Yz om
   calc 2<=1*x.1:=by omega
    _<=x.1 ^ k*x.1:=Ng _ this
  show 2 ^ (L.length+1)<=x.1 ^ x.2*xG L;rw[Go,Lv];exact De h3 ih
theorem Fac.short (h:Fac L n)(hn:n<=1000000000000):L.length<40:=by
 have h1:=c7 h.prm h.pos;rw[h.eq] at h1;rcases Hk L.length 40 with g|g
 .exact g
 .have:2 ^ 40<=2 ^ L.length:=Nd om g
  omega
noncomputable def itD (x:Af × Af):D:=.tup [.int (x.1:Ag),.int (x.2:Ag)]
theorem dF (L:FL)(p:Af)(S:Sto)(env:qC)(i j n:Af)(hj:env[j]? = Ab (Ab (.loc n)))(hi:env[i]? = Ab (Ab (.int (p:Ag))))(hS:S[n]? = Ab (.dct (kvD L)))(nd:(L.map (·.1)).Nodup)(hl:L.length<4000) :
  qR (d2 zA (dBm "dict" vD (q9 j) (q8 (q9 i) (q8 (dC (.int 0)) (qA)))) (dC (.int 1))) (gSb (q9 j) (q9 i) xE) env S=.nx env (S.set n (.dct (kvD (inc p L)))):=by
 have hty:tyD (.loc n) S=Ab "dict":=by simp[tyD,hS]
 have hg:vD (.loc n) [.int (p:Ag),.int 0] S=.ok (.int (cnt p L:Ag)) S:=by
  simp only[vD,hS,xO];rw[QU]
 have hlim:(kvD L).length<lim:=by
  simp only[kvD,Ar];unfold lim;omega
 have hs:xE (.loc n) (.int (p:Ag)) (.int ((cnt p L:Ag)+1)) S=.ok () (S.set n (.dct (kvD (inc p L)))):=by
  simp only[xE,hS,xO,hlim,Dm,Q2 p nd]
 simp only[qR,d2,dBm,q9,hj,hi,Res.bind,hty,Gc,Dm,q8,qA,dC,hg,dB,gSb,hs,Res.toS]
theorem V4 (a b c:Af)(S:Sto)(env:qC)(i j:Af)(hi:env[i]? = Ab (Ab (.int (a:Ag))))(hj:env[j]? = Ab (Ab (.int (b:Ag))))(ha:a<1000000000):dTr (d2 gLe (d2 qU (q9 i) (q9 i)) (q9 j)) env S=.ok (decide (a*a<=b)) S:=by
 have h1:=rN (a:Ag) (a:Ag) S ⟨by omega,by omega⟩
 have e:decide ((a:Ag)*(a:Ag)<=(b:Ag))=decide (a*a<=b):=by
  rw[IW,Aq,Aq];constructor
  .intro h;exact_mod_cast h
  .intro h;exact_mod_cast h
 simp only[dTr,d2,q9,hi,hj,Res.bind,h1,gLe,i2,Dm,QP,_D.vU,e]
theorem oH (a b:Af)(S:Sto)(env:qC)(i j:Af)(hi:env[i]? = Ab (Ab (.int (a:Ag))))(hj:env[j]? = Ab (Ab (.int (b:Ag))))(hb:0<b):dTr (d2 gEq (d2 xN (q9 i) (q9 j)) (dC (.int 0))) env S=.ok (decide (b∣a)) S:=by
 have h1:=mZ (a:Ag) (b:Ag) S om;have e:decide ((a:Ag) % (b:Ag)=0)=decide (b∣a):=by
  rw[IW,Aq,Aq];rw[Nat.dvd_iff_mod_eq_zero];omega
 simp only[dTr,d2,q9,hi,hj,dC,Res.bind,h1,yL,QP,_D.vU,e]
theorem TY {d:Af}(hd:2<=d)(h:d∣n)(hm:∀ e,2<=e->e<d->¬ e∣n):Prm d:=⟨hd,λe he=>by
 have hle:=Ku om he;have hpos:0<e:=Rl he om;rcases Hk e 2 with g|g
 .left;omega
 .rcases Hk e d with g2|g2
  .exact absurd (Yc he h) (hm e g g2)
  .right;omega⟩
theorem WR {d:Af}(hn:2<=n)(h:n<d*d)(hm:∀ e,2<=e->e<d->¬ e∣n):Prm n:=⟨hn,λe he=>by
 have hle:=Ku om he;have hpos:0<e:=Rl he om;obtain⟨f,hf⟩:=he;by_cases h1:e=1
 .exact .inl h1
 .by_cases h2:f=1
  .right;rw[hf,h2,Za]
  .exfalso
   have hf0:0<f:=by
    rcases Ou f with g|g
    .rw[g] at hf;omega
    .exact g
   have ge:d<=e:=by
    rcases Hk e d with g|g
    .exact absurd ⟨f,hf⟩ (hm e om g)
    .exact g
   have gf:d<=f:=by
    rcases Hk f d with g|g
    .exact absurd ⟨e,by rw[hf,Lv]⟩ (hm f om g)
    .exact g
   have:=De ge gf;omega⟩
theorem tV (S:Sto)(m m':MO):(S++[m]).set S.length m'=S++[m']:=by simp
theorem xB (L:FL)(S:Sto)(env:qC)(h1:env[1]? = Ab (Ab (.loc S.length))):jQ (q9 1) env (S++[.dct (kvD L)])=.ok (.lst (L.map itD)) (S++[.dct (kvD L)]):=by
 have hat:(S++[MO.dct (kvD L)])[S.length]? = Ab (.dct (kvD L)):=by simp
 have e:((kvD L).map λp=>D.tup [kD p.1,p.2])=L.map itD:=by
  unfold kvD;rw[Ei];rfl
 simp only[jQ,q9,h1,Res.bind,hat,e]
inductive IvPrimes (n:Af)(S:Sto)(m:Af)(env:qC)(S':Sto):Prop
 |mk (L:FL) (a qE dv:Af) (h_0:m=2*(qE+1)-dv) (h_1:env=[Ab (.int (n:Ag)),Ab (.loc S.length),Ab (.int (qE:Ag)),Ab (.int (dv:Ag))]) (h_2:S'=S++[.dct (kvD L)]) (h_3:Fac L a) (h_4:a*qE=n) (h_5:1<=qE) (h_6:2<=dv) (h_7:dv<=1000002) (h_8:(dv=2\/dv % 2=1)) (h_9:∀ d,2<=d->d<dv->¬ d∣qE):IvPrimes n S m env S'
theorem Y6 (n:Af)(S:Sto)(hn:1<=n/\n<=1000000000000):∃ (L:FL) (S':Sto),S_primes_in [.int (n:Ag)] S=.ok (.lst (L.map itD)) S'/\Fac L n/\S<+:S':=by
 have key:Rt (b_primes_in [Ab (.int (n:Ag)),none,none,none] S) λd S'=>∃ L:FL,d=.lst (L.map itD)/\Fac L n/\S<+:S':=by
  unfold b_primes_in;refine kA (dY (qN (d:=.loc S.length) (S:=S++[.dct []]) rfl ?_));refine kA (dY (qN (d:=.int (n:Ag)) (S:=S++[.dct []]) rfl ?_));refine kA (dY (qN (d:=.int 2) (S:=S++[.dct []]) rfl ?_));simp only[Ov,Ll];refine kA ?_;have hbig:2*(n+1)<big:=by rw[fL];omega
  refine WH (IvPrimes n S) ?_ (n:=2*(n+1)-2) om ?_
  .rintro m env S' ⟨L,a,qE,dv,rfl,rfl,rfl,hF,har,hr,hd2,hdm,hpar,hmin⟩
   have hrn:qE<=n:=by
    have:qE∣n:=⟨a,by rw[Lv];exact har.symm⟩
    exact Ku om this
   have han:a<=n:=Ku om ⟨qE,har.symm⟩;have hs:=hF.short om;refine⟨decide (dv*dv<=qE),S++[.dct (kvD L)],V4 dv qE 0 _ _ 3 2 rfl rfl om,?_⟩;by_cases ht:dv*dv<=qE
   .rw[Bw ht]
    simp only[Dm];have hdr:dv<=qE:=Dd (Mj dv om) ht;have hd6:dv<=1000000:=by
     rcases Hk 1000000 dv with g|g
     .have:1000001*1000001<=dv*dv:=De g g
      omega
     .exact g
    refine aA (b:=decide (dv∣qE)) (S1:=S++[.dct (kvD L)]) (oH qE dv _ _ 2 3 rfl rfl om) ?_;by_cases hdv:dv∣qE
    .rw[Bw hdv]
     simp only[Dm];have hat:(S++[MO.dct (kvD L)])[S.length]? = Ab (.dct (kvD L)):=by simp
     have i1:=dF L dv (S++[.dct (kvD L)]) [Ab (.int (n:Ag)),Ab (.loc S.length),Ab (.int (qE:Ag)),Ab (.int (dv:Ag))] 3 1 S.length rfl rfl hat hF.nd om;rw[tV] at i1;refine MC (bD i1 ?_);obtain⟨r',hr'⟩:=hdv;have hr0:0<r':=by
      rcases Ou r' with g|g
      .rw[g] at hr';omega
      .exact g
     have hdiv:=J2 (qE:Ag) (dv:Ag) (S++[.dct (kvD (inc dv L))]) ⟨by omega,by omega⟩
     have hq:(qE:Ag)/(dv:Ag)=(r':Ag):=by
      have:qE/dv=r':=by rw[hr'];exact Nat.mul_div_cancel_left _ om
      omega
     rw[hq] at hdiv;refine bD (env:=[Ab (.int (n:Ag)),Ab (.loc S.length),Ab (.int (r':Ag)),Ab (.int (dv:Ag))]) (S:=S++[.dct (kvD (inc dv L))]) (by simp[qO,y8,eR,eQ,CI,qL,sIf,qY,zT,xV,qR,gNm,gSb,gTp,zH,w5,tU,HJ,wX,dC,q9,d1,d2,q8,qA,qX,qK,dTr,vZ,gV,xJ,yP,dIf,mO,ZX,wB,jF,jE,pS,dBm,dSl,wZ,jS,wY,gW,Res.bind,Res.toS,_D.vU,_D.vV,QP,CJ,CH,CG,CK,gLt,gLe,gGt,gGe,_D.yS,pX,hdiv]) ?_
     have hp:=TY hd2 ⟨r',hr'⟩ hmin;refine⟨2*(r'+1)-dv,?_,inc dv L,dv*a,r',dv,rfl,rfl,rfl,hF.inc hp,?_,hr0,hd2,hdm,hpar,λd h1 h2 h3=>hmin d h1 h2 (hr'▸Nat.dvd_mul_left_of_dvd h3 _)⟩
     .have:2*r'<=qE:=by
       rw[hr'];exact Ng _ hd2
      omega
     .rw[<- har,hr']
      rw[Lv dv a,Tj]
    .rw[Cc hdv]
     simp only[Cz,Fv];by_cases h2:dv=2
     .subst h2
      refine bD (env:=[Ab (.int (n:Ag)),Ab (.loc S.length),Ab (.int (qE:Ag)),Ab (.int ((3:Af):Ag))]) (S:=S++[.dct (kvD L)]) (by simp[qO,y8,eR,eQ,CI,qL,sIf,qY,zT,xV,qR,gNm,gSb,gTp,zH,w5,tU,HJ,wX,dC,q9,d1,d2,q8,qA,qX,qK,dTr,vZ,gV,xJ,yP,dIf,mO,ZX,wB,jF,jE,pS,dBm,dSl,wZ,jS,wY,gW,Res.bind,Res.toS,_D.vU,_D.vV,QP,CJ,CH,CG,CK,gLt,gLe,gGt,gGe,_D.yS,pX,yL]) ?_
      refine⟨2*(qE+1)-3,by omega,L,a,qE,3,rfl,rfl,rfl,hF,har,hr,by omega,by omega,by omega,λd h1 h3 h4=>?_⟩
      have:d=2:=by omega
      subst this;exact hdv h4
     .have hne:¬ ((dv:Ag)=2):=by omega
      refine bD (env:=[Ab (.int (n:Ag)),Ab (.loc S.length),Ab (.int (qE:Ag)),Ab (.int ((dv+2:Af):Ag))]) (S:=S++[.dct (kvD L)]) (by simp[qO,y8,eR,eQ,CI,qL,sIf,qY,zT,xV,qR,gNm,gSb,gTp,zH,w5,tU,HJ,wX,dC,q9,d1,d2,q8,qA,qX,qK,dTr,vZ,gV,xJ,yP,dIf,mO,ZX,wB,jF,jE,pS,dBm,dSl,wZ,jS,wY,gW,Res.bind,Res.toS,_D.vU,_D.vV,QP,CJ,CH,CG,CK,gLt,gLe,gGt,gGe,_D.yS,pX,yL,hne]) ?_
      refine⟨2*(qE+1)-(dv+2),by omega,L,a,qE,dv+2,rfl,rfl,rfl,hF,har,hr,by omega,by omega,by omega,λd h1 h3 h4=>?_⟩
      rcases Hk d dv with g|g
      .exact hmin d h1 g h4
      .by_cases g2:d=dv
       .subst g2;exact hdv h4
       .have g3:d=dv+1:=by omega
        have h5:2∣d:=by omega
        exact hmin 2 om om (Yc h5 h4)
   .rw[Cc ht]
    simp only[Cz,Fv];by_cases h1:qE=1
    .subst h1
     refine kA (aA (b:=false) (S1:=S++[.dct (kvD L)]) (by simp[qO,y8,eR,eQ,CI,qL,sIf,qY,zT,xV,qR,gNm,gSb,gTp,zH,w5,tU,HJ,wX,dC,q9,d1,d2,q8,qA,qX,qK,dTr,vZ,gV,xJ,yP,dIf,mO,ZX,wB,jF,jE,pS,dBm,dSl,wZ,jS,wY,gW,Res.bind,Res.toS,_D.vU,_D.vV,QP,CJ,CH,CG,CK,gLt,gLe,gGt,gGe,_D.yS,pX,Res.bind]) (bD (env:=[Ab (.int (n:Ag)),Ab (.loc S.length),Ab (.int ((1:Af):Ag)),Ab (.int (dv:Ag))]) (S:=S++[.dct (kvD L)]) rfl ?_))
     refine QC (qN (d:=.lst (L.map itD)) (S:=S++[.dct (kvD L)]) ?_ ⟨L,rfl,?_,Gy _ _⟩)
     .exact xB L S _ rfl
     .rw[Za] at har
      exact har▸hF
    .have hp:=WR (by omega:2<=qE) om hmin
     have hgt:(1:Ag)<(qE:Ag):=by omega
     have hat:(S++[MO.dct (kvD L)])[S.length]? = Ab (.dct (kvD L)):=by simp
     have i1:=dF L qE (S++[.dct (kvD L)]) [Ab (.int (n:Ag)),Ab (.loc S.length),Ab (.int (qE:Ag)),Ab (.int (dv:Ag))] 2 1 S.length rfl rfl hat hF.nd om;rw[tV] at i1;refine kA (aA (b:=true) (S1:=S++[.dct (kvD L)]) (by simp[qO,y8,eR,eQ,CI,qL,sIf,qY,zT,xV,qR,gNm,gSb,gTp,zH,w5,tU,HJ,wX,dC,q9,d1,d2,q8,qA,qX,qK,dTr,vZ,gV,xJ,yP,dIf,mO,ZX,wB,jF,jE,pS,dBm,dSl,wZ,jS,wY,gW,Res.bind,Res.toS,_D.vU,_D.vV,QP,CJ,CH,CG,CK,gLt,gLe,gGt,gGe,_D.yS,pX,hgt]) ?_)
     simp only[Dm];refine bD i1 ?_;refine QC (qN (d:=.lst ((inc qE L).map itD)) (S:=S++[.dct (kvD (inc qE L))]) ?_ ⟨inc qE L,rfl,?_,Gy _ _⟩)
     .exact xB (inc qE L) S _ rfl
     .have:=hF.inc hp
      rw[Lv,har] at this;exact this
  .exact⟨[],1,n,2,rfl,rfl,rfl,UX,by omega,hn.1,by omega,by omega,.inl rfl,λd h1 h2=>by omega⟩
 obtain⟨d,S',e,L,rfl,h1,h2⟩:=key;exact⟨L,S',by rw[jP];exact L3 rfl e,h1,h2⟩
theorem tP {p:Af}(hp:Prm p){u v:Ag}(h:(p:Ag)∣u*v):(p:Ag)∣u\/(p:Ag)∣v:=by
 rw[<- Mz,Int.natAbs_mul] at h;rw[<- Mz,<- Mz];exact hp.dvd_mul h
theorem TX {p:Af}(hp:Prm p){u:Ag}(h:(p:Ag)∣u*u):(p:Ag)∣u:=(tP hp h).elim id id
theorem cen (x m:Ag)(hm:0<m):∃ k c,x=m*k+c /\ -m<=2*c/\2*c<=m:=by
 have h1:=Int.mul_ediv_add_emod x m;have h2:=Ld x (Int.ne_of_gt hm);have h3:=IP x hm;rcases Ny m (2*(x % m)) with g|g
 .exact⟨x/m+1,x % m-m,by grind,by omega,by omega⟩
 .exact⟨x/m,x % m,h1.symm,by omega,by omega⟩
theorem sq4 {c m:Ag}(h1 : -m<=2*c)(h2:2*c<=m):4*(c*c)<=m*m:=by
 have:=Ju (a:=m-2*c) (b:=m+2*c) om om
 grind
theorem sqn (a:Ag):0<=a*a:=by
 rw[<- Jy];exact Ju (Ln _) (Ln _)
theorem sq0 {c d:Ag}(h:c*c+d*d=0):c=0/\d=0:=by
 have h1:=sqn c;have h2:=sqn d;exact⟨(Wr.mp (show c*c=0 by omega)).elim id id,(Wr.mp (show d*d=0 by omega)).elim id id⟩
theorem EV {p:Af}(hp:Prm p):∀ m:Af,0<m->m<p->∀ x y:Ag,x*x+y*y=m*p->∃ a b:Ag,a*a+b*b=p:=λm=>by
 induction m using Ws with
 |_ m ih =>
  intro h0 h1 x y e;rcases Hk 1 m with g|g
  .have hm:(0:Ag)<m:=by omega
   obtain⟨k,c,ex,c1,c2⟩:=cen x m hm;obtain⟨l,d,ey,d1,d2⟩:=cen y m hm;have s1:=sq4 c1 c2;have s2:=sq4 d1 d2;have er:c*c+d*d=m*(p-(m*k*k+2*k*c+m*l*l+2*l*d)):=by grind
   generalize hr:(p:Ag)-(m*k*k+2*k*c+m*l*l+2*l*d)=r at er;have r1:r<m:=by
    have:(m:Ag)*(4*r)<=m*(2*m):=by grind
    have:=Ir this hm;omega
   have r0:0<=r:=by
    have a1:=sqn c;have a2:=sqn d;have:(m:Ag)*0<=m*r:=by omega
    exact Ir this hm
   rcases Ny 0 r with z|z
   .obtain⟨q,rfl⟩:=IM r0
    refine ih q om om om (k*c+l*d+q) (k*d-l*c) ?_;have:(m:Ag)*m*((k*c+l*d+q)*(k*c+l*d+q)+(k*d-l*c)*(k*d-l*c))=m*m*(q*p):=by
     have e1:(m:Ag)*(k*c+l*d+q)=x*c+y*d:=by grind
     have e2:(m:Ag)*(k*d-l*c)=x*d-y*c:=by grind
     have e3:(x*c+y*d)*(x*c+y*d)+(x*d-y*c)*(x*d-y*c)=(x*x+y*y)*(c*c+d*d):=by grind
     rw[e,er,<- e1,<- e2] at e3
     grind
    exact Cd (by have:=Int.mul_pos hm hm;omega) this
   .have:r=0:=by omega
    subst this;obtain⟨rfl,rfl⟩:=sq0 (by rw[er];omega)
    have:(m:Ag)*(m*(k*k+l*l))=m*p:=by grind
    have:=Cd om this;have:(m:Ag)∣p:=⟨_,this.symm⟩;rcases hp.2 m (Hl.mp this) with w|w <;> omega
  .have:m=1:=by omega
   subst this;exact⟨x,y,by rw[e];omega⟩
theorem LJ {p:Af}(hp:Prm p){x y:Ag}(h:(p:Ag)∣x*x+y*y)(hx:¬ (p:Ag)∣x):∃ a b:Ag,a*a+b*b=p:=by
 have h2:=hp.1;have hp0:(0:Ag)<p:=by omega
 obtain⟨k,c,ex,c1,c2⟩:=cen x p hp0;obtain⟨l,d,ey,d1,d2⟩:=cen y p hp0;have s1:=sq4 c1 c2;have s2:=sq4 d1 d2;obtain⟨t,ht⟩:=h;have er:c*c+d*d=p*(t-(p*k*k+2*k*c+p*l*l+2*l*d)):=by grind
 generalize hr:t-((p:Ag)*k*k+2*k*c+p*l*l+2*l*d)=r at er;have r1:r<p:=by
  have:(p:Ag)*(4*r)<=p*(2*p):=by grind
  have:=Ir this hp0;omega
 have a1:=sqn c;have a2:=sqn d;have r0:0<=r:=by
  have:(p:Ag)*0<=p*r:=by omega
  exact Ir this hp0
 obtain⟨q,rfl⟩:=IM r0;refine EV hp q ?_ om c d (by rw[er,Yn])
 rcases Ou q with z|z
 .subst z
  obtain⟨rfl,rfl⟩:=sq0 (by rw[er];omega)
  exact absurd ⟨k,by rw[ex];omega⟩ hx
 .exact z
theorem hX (a:Ag):a*a % 4=0\/a*a % 4=1:=by
 have h:a % 4=0\/a % 4=1\/a % 4=2\/a % 4=3:=by omega
 rw[Yo];rcases h with h|h|h|h <;> rw[h] <;> decide
theorem no3 {p:Af}(h3:p % 4=3){a b:Ag}(h:a*a+b*b=p):Ez:=by
 have h1:=hX a;have h2:=hX b;omega
theorem V2 {p:Af}(hp:Prm p)(h3:p % 4=3){x y:Ag}(h:(p:Ag)∣x*x+y*y):(p:Ag)∣x/\(p:Ag)∣y:=by
 have one:∀ {x y:Ag},(p:Ag)∣x*x+y*y->(p:Ag)∣x:=λ{x y} h=>by
  rcases Decidable.em ((p:Ag)∣x) with g|g
  .exact g
  .obtain⟨a,b,e⟩:=LJ hp h g
   exact(no3 h3 e).elim
 exact⟨one h,one (by rw[Yp];exact h)⟩
theorem rQ {α:Type}[Vh α](f:α->α):∀ (n:Af) (l:Aa α),l.length=n->l.Nodup->(∀ x∈l,f x∈l)->(∀ x∈l,f (f x)=x)->(l.filter λx=>decide (f x=x)).length % 2=l.length % 2:=λn=>by
 induction n using Ws with
 |_ n ih =>
  intro l hl nd st iv;cases l with
  |nil=>rfl
  |cons a t =>
   have nd':=Co.mp nd;by_cases fa:f a=a
   .have q:=ih t.length (by rw[<- hl];simp) t rfl nd'.2 (λx hx=>by
     rcases Bg.mp (st x (Au _ hx)) with e|e
     .have:=iv x (Au _ hx)
      rw[e,fa] at this;exact absurd (this▸hx) nd'.1
     .exact e) λx hx=>iv x (Au _ hx)
    rw[List.filter_cons_of_pos (by simpa using fa),By,By]
    omega
   .have ht:f a∈t:=(Bg.mp (st a (Bv ..))).resolve_left fa
    have fb:f (f a)≠f a:=by
     rw[iv a (Bv ..)];exact λe=>fa e.symm
    have pe:t.Perm (f a::t.erase (f a)):=List.perm_cons_erase ht;have le:(t.erase (f a)).length+1=t.length:=by rw[pe.length_eq];rfl
    have ndt:(f a::t.erase (f a)).Nodup:=pe.nodup_iff.mp nd'.2;have q:=ih (t.erase (f a)).length (by rw[<- hl];simp;omega) (t.erase (f a)) rfl (Co.mp ndt).2 (λx hx=>by
     have hx':x∈t:=Rm hx;have iv':=iv x (Au _ hx');rcases Bg.mp (st x (Au _ hx')) with e|e
     .rw[e] at iv'
      exact absurd (iv'▸hx:f a∈t.erase (f a)) (Co.mp ndt).1
     .rcases Bg.mp (pe.mem_iff.mp e) with w|w
      .have:x=a:=by rw[<- iv',w,iv a (Bv ..)]
       exact absurd (this▸hx') nd'.1
      .exact w) λx hx=>iv x (Au _ (Rm hx))
    have c1:((a::t).filter λx=>decide (f x=x)).length=((t.erase (f a)).filter λx=>decide (f x=x)).length:=by
     rw[Qh (by simpa using fa),(pe.filter _).length_eq,Qh (by simpa using fb)]
    rw[c1,q,By,<- le];omega
abbrev Z3:=Ag × Ag × Ag
def up (n:Af):Aa Ag:=(Ds n).map λi:Af=>(i:Ag)+1
theorem jW {x:Ag}:x∈up n↔1<=x/\x<=n:=by
 unfold up;rw[Bk];refine⟨λ⟨i,h,e⟩=>?_,λh=>⟨(x-1).toNat,?_,?_⟩⟩
 .have:=DL.mp h
  omega
 .exact DL.mpr om
 .omega
theorem uN {α β:Type}{f:α->β}{l:Aa α}(h:∀ a∈l,∀ b∈l,f a=f b->a=b)(nd:l.Nodup):(l.map f).Nodup:=by
 induction l with
 |nil=>exact Fq
 |cons a t ih =>
  have nd':=Co.mp nd;refine Co.mpr ⟨λq=>?_,ih (λx hx y hy=>h x (Au _ hx) y (Au _ hy)) nd'.2⟩;obtain⟨b,hb,e⟩:=Bk.mp q;exact nd'.1 (h b (Au _ hb) a (Bv ..) e▸hb)
theorem a9 (n:Af):(up n).Nodup:=uN (λa _ b _ e=>by omega) Wd
theorem uO {α β:Type}{l:Aa α}{m:Aa β}(hl:l.Nodup)(hm:m.Nodup):(l.flatMap λx=>m.map λy=>(x,y)).Nodup:=by
 refine Ro.mpr ⟨λa _=>uN (λx _ y _ e=>(Hm e).2) hm,hl.imp λ{a b} h x hx y hy e=>?_⟩;obtain⟨u,_,rfl⟩:=Bk.mp hx;obtain⟨v,_,rfl⟩:=Bk.mp hy;exact h (Hm e).1
def yD (p:Af):Aa Z3:=((up p).flatMap λx=>((up p).flatMap λy=>(up p).map λz=>(y,z)).map λq=>(x,q)).filter λt=>decide (t.1*t.1+4*t.2.1*t.2.2=p)
theorem vQ {a b:Ag}(ha:1<=a)(hb:1<=b):a<=a*b:=by
 have:=Ju (a:=a) (b:=b-1) om om
 grind
theorem xT {p:Af}{x z:Ag}:(x,y,z)∈yD p↔1<=x/\1<=y/\1<=z/\x*x+4*y*z=p:=by
 unfold yD;rw[Gi,Aq];refine⟨λ⟨h,e⟩=>?_,λ⟨h1,h2,h3,e⟩=>⟨?_,e⟩⟩
 .obtain⟨a,ha,h⟩:=Gw.mp h
  obtain⟨q,hq,e1⟩:=Bk.mp h;obtain⟨b,hb,hq⟩:=Gw.mp hq;obtain⟨c,hc,e2⟩:=Bk.mp hq;subst e2;cases e1;exact⟨(jW.mp ha).1,(jW.mp hb).1,(jW.mp hc).1,e⟩
 .have a1:=vQ h1 h1
  have a2:=vQ h2 h3;have a3:=vQ h3 h2;have e':x*x+4*(y*z)=p:=by rw[<- e];grind
  have e3:z*y=y*z:=Yn _ _;exact Gw.mpr ⟨x,jW.mpr ⟨h1,by omega⟩,Bk.mpr ⟨(y,z),Gw.mpr ⟨y,jW.mpr ⟨h2,by omega⟩,Bk.mpr ⟨z,jW.mpr ⟨h3,by omega⟩,rfl⟩⟩,rfl⟩⟩
theorem f9 (p:Af):(yD p).Nodup:=Hb _ (uO (a9 p) (uO (a9 p) (a9 p)))
def jH (t:Z3):Z3:=if t.1<t.2.1-t.2.2 then (t.1+2*t.2.2,t.2.2,t.2.1-t.1-t.2.2) else if t.1<2*t.2.1 then (2*t.2.1-t.1,t.2.1,t.1-t.2.1+t.2.2) else (t.1-2*t.2.1,t.1-t.2.1+t.2.2,t.2.1)
theorem SJ {p:Af}(hp:Prm p){a:Ag}(h:a*a=p):Ez:=by
 have h2:=hp.1;have d:a.natAbs∣p:=by
  rw[<- Hl,<- h];exact Xj.mpr ⟨a,rfl⟩
 have e:a.natAbs*a.natAbs=p:=by
  have:=Jy a;rw[h] at this;exact Tk.mp (by rw[Cp];exact this)
 rcases hp.2 _ d with w|w
 .rw[w] at e
  omega
 .rw[w] at e
  have:=Of p h2;omega
theorem eK {p:Af}(hp:Prm p)(h1:p % 4=1):∀ t∈yD p,jH t∈yD p/\jH (jH t)=t:=λ⟨x,y,z⟩ h=>by
 obtain⟨a,b,c,e⟩:=xT.mp h;have n1:x≠y-z:=λw=>SJ hp (a:=y+z) (by rw[<- e,w];grind)
 have n2:x≠2*y:=λw=>by
  have:(p:Ag)=4*(y*y+y*z):=by rw[<- e,w];grind
  omega
 unfold jH;dsimp only;by_cases g1:x<y-z
 .rw[Bc g1,Aw (by dsimp only;omega),Aw (by dsimp only;omega)]
  exact⟨xT.mpr ⟨by omega,by omega,by omega,by rw[<- e];grind⟩,by dsimp only;refine Gd (by dsimp only;omega) (Gd (by dsimp only;try omega) (by dsimp only;try omega))⟩
 .by_cases g2:x<2*y
  .rw[Aw g1,Bc g2,Aw (by dsimp only;omega),Bc (by dsimp only;omega)]
   exact⟨xT.mpr ⟨by omega,by omega,by omega,by rw[<- e];grind⟩,by dsimp only;refine Gd (by dsimp only;omega) (Gd (by dsimp only;try omega) (by dsimp only;try omega))⟩
  .rw[Aw g1,Aw g2,Bc (by dsimp only;omega)]
   exact⟨xT.mpr ⟨by omega,by omega,by omega,by rw[<- e];grind⟩,by dsimp only;refine Gd (by dsimp only;omega) (Gd (by dsimp only;try omega) (by dsimp only;try omega))⟩
theorem WC {p:Af}(hp:Prm p)(h1:p % 4=1):((yD p).filter λt=>decide (jH t=t))=[((1:Ag),(1:Ag),(((p-1)/4:Af):Ag))]:=by
 have h2:=hp.1;have key:∀ t:Z3,t∈(yD p).filter (λt=>decide (jH t=t))↔t=(1,1,(((p-1)/4:Af):Ag)):=λ⟨x,y,z⟩=>by
  rw[Gi,Aq,xT];refine⟨λ⟨⟨a,b,c,e⟩,f⟩=>?_,λq=>?_⟩
  .unfold jH at f
   dsimp only at f;have exy:x=y:=by
    split at f
    .have:=(Hm f).1
     omega
    .split at f
     .have:=(Hm f).1
      omega
     .have:=(Hm f).1
      omega
   subst exy;have d:(x.natAbs)∣p:=by
    rw[<- Hl,<- e];exact Xj.mpr ⟨x+4*z,by grind⟩
   have x1:x=1:=by
    rcases hp.2 _ d with w|w
    .omega
    .have:x=p:=by omega
     have a1:=vQ a a;have a2:=vQ a c;have e':x*x+4*(x*z)=p:=by rw[<- e];grind
     omega
   subst x1;refine Gd rfl (Gd rfl ?_);dsimp only;omega
  .cases q
   refine⟨⟨by omega,by omega,by omega,by omega⟩,?_⟩
   unfold jH;dsimp only;rw[Aw om,Bc om];refine Gd (by dsimp only;omega) (Gd rfl (by dsimp only;omega))
 have nd:((yD p).filter λt=>decide (jH t=t)).Nodup:=Hb _ (f9 p);have pe:=(Kc nd (l₂:=[((1:Ag),(1:Ag),(((p-1)/4:Af):Ag))]) (Co.mpr ⟨Dg,Fq⟩)).mpr λt=>by rw[key t,Dc]
 exact List.perm_singleton.mp pe
theorem QR {p:Af}(hp:Prm p)(h1:p % 4=1):∃ a b:Ag,a*a+b*b=p:=by
 have i1:=rQ jH _ (yD p) rfl (f9 p) (λt h=>(eK hp h1 t h).1) λt h=>(eK hp h1 t h).2;rw[WC hp h1] at i1;have i2:=rQ (λt:Z3=>(t.1,t.2.2,t.2.1)) _ (yD p) rfl (f9 p) (λ⟨x,y,z⟩ h=>by
  obtain⟨a,b,c,e⟩:=xT.mp h;exact xT.mpr ⟨a,c,b,by rw[<- e];grind⟩) λt _=>rfl
 rw[<- i1] at i2;cases q:(yD p).filter λt:Z3=>decide ((t.1,t.2.2,t.2.1)=t) with
 |nil=>rw[q] at i2;exact absurd i2 (λz=>by cases z)
 |cons t _ =>
  have ht:t∈(yD p).filter λt:Z3=>decide ((t.1,t.2.2,t.2.1)=t):=by rw[q];exact Bv ..
  obtain⟨x,y,z⟩:=t;rw[Gi,Aq,xT] at ht;obtain⟨⟨a,b,c,e⟩,f⟩:=ht;have g:z=y:=(Hm (Hm f).2).1;exact⟨x,2*z,by rw[<- e,<- g];grind⟩
abbrev Z2:=Ag × Ag
def rng (n:Af):Aa Ag:=(Ds (2*n+1)).map λi:Af=>(i:Ag)-n
theorem eJ {x:Ag}:x∈rng n ↔ -n<=x/\x<=n:=by
 unfold rng;rw[Bk];refine⟨λ⟨i,h,e⟩=>?_,λh=>⟨(x+n).toNat,?_,?_⟩⟩
 .have:=DL.mp h
  omega
 .exact DL.mpr om
 .omega
theorem oN (n:Af):(rng n).Nodup:=uN (λa _ b _ e=>by omega) Wd
def pts (n:Af):Aa Z2:=((rng n).flatMap λx=>(rng n).map λy=>(x,y)).filter λz=>decide (z.1*z.1+z.2*z.2=n)
theorem V5 (x:Ag):x<=x*x /\ -x<=x*x:=by
 rcases Ny 0 x with h|h
 .have:=vQ (a:=x) (b:=x) om om
  omega
 .rcases Ny x 0 with g|g
  .have:=vQ (a:=-x) (b:=-x) om om
   have e : -x * -x=x*x:=by grind
   omega
  .have:x=0:=by omega
   subst this
   decide
theorem zN {x:Ag}:(x,y)∈pts n↔x*x+y*y=n:=by
 unfold pts;rw[Gi,Aq];refine⟨λh=>h.2,λe=>⟨?_,e⟩⟩;have a1:=V5 x;have a2:=V5 y;have a3:=sqn x;have a4:=sqn y;exact Gw.mpr ⟨x,eJ.mpr om,Bk.mpr ⟨y,eJ.mpr om,rfl⟩⟩
theorem yV (n:Af):(pts n).Nodup:=Hb _ (uO (oN n) (oN n))
def R (n:Af):Af:=(pts n).length
theorem uM {l m:Aa Z2}(hl:l.Nodup)(hm:m.Nodup)(h:∀ x y,(x,y)∈l↔(x,y)∈m):l.length=m.length:=
 ((Kc hl hm).mpr λ⟨x,y⟩=>h x y).length_eq
theorem EI {l:Aa Z2}(hl:l.Nodup)(h:∀ x y,(x,y)∈l↔x*x+y*y=n):l.length=R n:=uM hl (yV n) λx y=>by rw[h,zN]
theorem B3 {α:Type}(A B:α->Ap):∀ {l:Aa α},(∀ z∈l,A z=true\/B z=true)->(l.filter A).length+(l.filter B).length=l.length+(l.filter λz=>A z&&B z).length
 |[],_=>rfl
 |a::t,h=>by
  have ih:=B3 A B (l:=t) λz hz=>h z (Au _ hz);have ha:=h a (Bv ..);simp only[Pr,By];cases ea:A a <;> cases eb:B a <;> simp[ea,eb] at ha ⊢ <;> omega
section
variable {p:Af}{a b:Ag}
def tu (a b:Ag)(z:Z2):Z2:=(a*z.1-b*z.2,a*z.2+b*z.1)
theorem LH (hp:Prm p)(e:a*a+b*b=p){z w:Z2}(h:tu a b z=tu a b w):z=w:=by
 obtain⟨x,y⟩:=z;obtain⟨u,v⟩:=w;obtain⟨h1,h2⟩:=Hm h;dsimp only at h1 h2;have h0:=hp.1;have p0:(p:Ag)≠0:=by omega
 have e1:(p:Ag)*x=p*u:=by rw[<- e];grind
 have e2:(p:Ag)*y=p*v:=by rw[<- e];grind
 rw[Cd p0 e1,Cd p0 e2]
theorem FJ (hp:Prm p)(e:a*a+b*b=p)(n:Af):((pts (p*n)).filter λz=>decide ((p:Ag)∣a*z.1+b*z.2)).length=R n:=by
 have h0:=hp.1;have p0:(p:Ag)≠0:=by omega
 rw[R,<- Ar (f:=tu a b) (as:=pts n)];refine uM (Hb _ (yV _)) (uN (λz _ w _ h=>LH hp e h) (yV n)) λx y=>?_;rw[Gi,zN,Aq,Bk];dsimp only;refine⟨λ⟨h1,u,hu⟩=>?_,λ⟨⟨s,t⟩,hw,array_get_dec⟩=>?_⟩
 .have hn:x*x+y*y=p*(n:Ag):=by rw[h1];exact Cp ..
  have hs:(a*x+b*y)*(a*x+b*y)+(a*y-b*x)*(a*y-b*x)=p*(p*n):=by rw[<- hn,<- e];grind
  have hd:(p:Ag)∣(a*y-b*x)*(a*y-b*x):=⟨p*n-u*(a*x+b*y),by grind⟩
  obtain⟨v,hv⟩:=TX hp hd;refine⟨(u,v),zN.mpr ?_,?_⟩
  .have:(p:Ag)*(p*(u*u+v*v))=p*(p*n):=by rw[<- hs,hu,hv];grind
   exact Cd p0 (Cd p0 this)
  .have e1:(p:Ag)*(a*u-b*v)=p*x:=by
    have:(p:Ag)*(a*u-b*v)=a*(p*u)-b*(p*v):=by grind
    rw[this,<- hu,<- hv,<- e];grind
   have e2:(p:Ag)*(a*v+b*u)=p*y:=by
    have:(p:Ag)*(a*v+b*u)=a*(p*v)+b*(p*u):=by grind
    rw[this,<- hu,<- hv,<- e];grind
   exact Gd (Cd p0 e1) (Cd p0 e2)
 .have hw:=zN.mp hw
  cases array_get_dec;refine⟨?_,s,?_⟩
  .rw[Cp,<- hw,<- e];grind
  .rw[<- e];grind
theorem oO (hp:Prm p)(e:a*a+b*b=p):¬ (p:Ag)∣a:=λ⟨k,hk⟩=>by
 have h0:=hp.1;have p0:(p:Ag)≠0:=by omega
 have hd:(p:Ag)∣b*b:=⟨1-k*a,by rw[Int.mul_sub,<- e,hk];grind⟩
 obtain⟨j,hj⟩:=TX hp hd;have:(p:Ag)*(p*(k*k+j*j))=p*1:=by
  have:(p:Ag)*(p*(k*k+j*j))=a*a+b*b:=by rw[hk,hj];grind
  rw[this,e];omega
 have:=Cd p0 this;have a1:=sqn k;have a2:=sqn j;rcases Ny 0 (k*k+j*j) with g|g
 .have:=vQ (a:=p) (b:=k*k+j*j) om om
  omega
 .have z:k*k+j*j=0:=by omega
  rw[z] at this;omega
theorem mid (hp:Prm p)(h1:p % 4=1)(e:a*a+b*b=p){n:Af}{x y:Ag}(hz:x*x+y*y=((p*n:Af):Ag))(hA:(p:Ag)∣a*x+b*y)(hB:(p:Ag)∣a*x + -b*y):∃ u v,x=p*u/\y=p*v/\(n:Ag)=p*(u*u+v*v):=by
 have h0:=hp.1;have p0:(p:Ag)≠0:=by omega
 have n2:¬ (p:Ag)∣2:=λh=>by
  have:=Int.le_of_dvd (by decide) h
  have:p=2:=by omega
  subst this;omega
 have dx:(p:Ag)∣2*(a*x):=by
  have:=Int.dvd_add hA hB
  rwa [show a*x+b*y+(a*x + -b*y)=2*(a*x) by grind] at this
 have dy:(p:Ag)∣2*(b*y):=by
  have:=Int.dvd_sub hA hB
  rwa [show a*x+b*y-(a*x + -b*y)=2*(b*y) by grind] at this
 have nb:¬ (p:Ag)∣b:=oO hp (a:=b) (b:=a) (by rw[Yp];exact e)
 obtain⟨u,hu⟩:=((tP hp (((tP hp dx).resolve_left n2))).resolve_left (oO hp e));obtain⟨v,hv⟩:=((tP hp (((tP hp dy).resolve_left n2))).resolve_left nb);refine⟨u,v,hu,hv,?_⟩;have:(p:Ag)*n=p*(p*(u*u+v*v)):=by
  rw[<- Cp,<- hz,hu,hv];grind
 exact Cd p0 this
theorem PN (hp:Prm p)(e:a*a+b*b=p){n:Af}{x y:Ag}(hz:x*x+y*y=((p*n:Af):Ag)):(p:Ag)∣a*x+b*y\/(p:Ag)∣a*x + -b*y:=
 tP hp ⟨a*a*n-y*y,by
  have:x*x+y*y=p*(n:Ag):=by rw[hz];exact Cp ..
  have:(p:Ag)*(a*a*n-y*y)=a*a*(p*n)-p*(y*y):=by grind
  rw[this,<- ‹x*x+y*y=p*(n:Ag)›,<- e];grind⟩
theorem QL (hp:Prm p)(e:a*a+b*b=p):R (p*n)+((pts (p*n)).filter λz=>decide ((p:Ag)∣a*z.1+b*z.2)&&decide ((p:Ag)∣a*z.1 + -b*z.2)).length=2*R n:=by
 have h1:=FJ hp e n;have h2:=FJ hp (a:=a) (b:=-b) (by rw[<- e];grind) n
 have:=B3 (λz:Z2=>decide ((p:Ag)∣a*z.1+b*z.2)) (λz=>decide ((p:Ag)∣a*z.1 + -b*z.2)) (l:=pts (p*n)) λ⟨x,y⟩ hz=>by
  rw[Aq,Aq];exact PN hp e (zN.mp hz)
 rw[h1,h2] at this;unfold R at *;omega
end
theorem R1a {p:Af}(hp:Prm p)(h1:p % 4=1)(hn:¬ p∣n):R (p*n)=2*R n:=by
 obtain⟨a,b,e⟩:=QR hp h1;rw[<- QL hp e,Ff.mpr]
 .rfl
 .refine Mi.mpr λ⟨x,y⟩ hz q=>?_
  rw[As,Aq,Aq] at q;obtain⟨u,v,_,_,q⟩:=mid hp h1 e (zN.mp hz) q.1 q.2;exact hn (Hl.mp ⟨_,q⟩)
theorem R1b {p:Af}(hp:Prm p)(h1:p % 4=1):R (p*(p*m))+R m=2*R (p*m):=by
 obtain⟨a,b,e⟩:=QR hp h1;have h0:=hp.1;have p0:(p:Ag)≠0:=by omega
 rw[<- QL hp e (n:=p*m)]
 congr 1
 rw[R,<- Ar (f:=λz:Z2=>((p:Ag)*z.1,(p:Ag)*z.2)) (as:=pts m)];refine uM (uN (λz _ w _ h=>?_) (yV m)) (Hb _ (yV _)) λx y=>?_
 .obtain⟨g1,g2⟩:=Hm h
  exact Gd (Cd p0 g1) (Cd p0 g2)
 .rw[Gi,zN,As,Aq,Aq,Bk]
  refine⟨λ⟨⟨s,t⟩,hw,array_get_dec⟩=>?_,λ⟨hz,hA,hB⟩=>?_⟩
  .have hw:=zN.mp hw
   cases array_get_dec;refine⟨?_,⟨a*s+b*t,by grind⟩,⟨a*s + -b*t,by grind⟩⟩
   rw[Cp,Cp,<- hw];grind
  .obtain⟨u,v,rfl,rfl,q⟩:=mid hp h1 e hz hA hB
   refine⟨(u,v),zN.mpr ?_,rfl⟩;rw[Cp] at q;exact(Cd p0 q).symm
theorem R1 {p:Af}(hp:Prm p)(h1:p % 4=1)(hm:¬ p∣m):∀ t:Af,R (p ^ t*m)=(t+1)*R m/\R (p ^ (t+1)*m)=(t+2)*R m
 |0=>by
  rw[Qg,Rp,Rp,Ig,Zb];exact⟨rfl,R1a hp h1 hm⟩
 |t+1=>by
  obtain⟨i1,i2⟩:=R1 hp h1 hm t;refine⟨i2,?_⟩;have e1:p ^ (t+1+1)*m=p*(p*(p ^ t*m)):=by rw[Go,Go];grind
  have e2:p ^ (t+1)*m=p*(p ^ t*m):=by rw[Go];grind
  have:=R1b hp h1 (m:=p ^ t*m);rw[<- e1,<- e2,i1,i2] at this
  grind
theorem R3a {p:Af}(hp:Prm p)(h3:p % 4=3)(hn:¬ p∣n):R (p*n)=0:=by
 refine Ff.mpr (List.eq_nil_iff_forall_not_mem.mpr λ⟨x,y⟩ hz=>?_);have h0:=hp.1;have p0:(p:Ag)≠0:=by omega
 have hz:=zN.mp hz;obtain⟨⟨u,rfl⟩,⟨v,rfl⟩⟩:=V2 hp h3 (x:=x) (y:=y) ⟨n,by rw[hz];exact Cp ..⟩
 have:(p:Ag)*n=p*(p*(u*u+v*v)):=by rw[<- Cp,<- hz];grind
 exact hn (Hl.mp ⟨_,Cd p0 this⟩)
theorem R3b {p:Af}(hp:Prm p)(h3:p % 4=3):R (p*(p*m))=R m:=by
 have h0:=hp.1;have p0:(p:Ag)≠0:=by omega
 rw[R,R,<- Ar (f:=λz:Z2=>((p:Ag)*z.1,(p:Ag)*z.2)) (as:=pts m)];refine(uM (uN (λz _ w _ h=>?_) (yV m)) (yV _) λx y=>?_).symm
 .obtain⟨g1,g2⟩:=Hm h
  exact Gd (Cd p0 g1) (Cd p0 g2)
 .rw[zN,Bk]
  refine⟨λ⟨⟨s,t⟩,hw,array_get_dec⟩=>?_,λhz=>?_⟩
  .have hw:=zN.mp hw
   cases array_get_dec;rw[Cp,Cp,<- hw];grind
  .obtain⟨⟨u,rfl⟩,⟨v,rfl⟩⟩:=V2 hp h3 (x:=x) (y:=y) ⟨((p*m:Af):Ag),by rw[hz];exact Cp ..⟩
   refine⟨(u,v),zN.mpr ?_,rfl⟩;have:(p:Ag)*(p*(u*u+v*v))=p*(p*m):=by rw[<- Cp,<- Cp,<- hz];grind
   exact Cd p0 (Cd p0 this)
theorem R3 {p:Af}(hp:Prm p)(h3:p % 4=3)(hm:¬ p∣m):∀ t:Af,R (p ^ t*m)=if t % 2=1 then 0 else R m
 |0=>by rw[Qg,Rp];rfl
 |1=>by rw[Zb,R3a hp h3 hm];rfl
 |t+2=>by
  have e1:p ^ (t+2)*m=p*(p*(p ^ t*m)):=by rw[Go,Go];grind
  rw[e1,R3b hp h3,R3 hp h3 hm t,Nat.add_mod_right]
theorem R2a (n:Af):R (2*n)=R n:=by
 rw[R,R,<- Ar (f:=λz:Z2=>(z.1-z.2,z.1+z.2)) (as:=pts n)];refine(uM (uN (λz _ w _ h=>?_) (yV n)) (yV _) λx y=>?_).symm
 .obtain⟨g1,g2⟩:=Hm h
  exact Gd om om
 .rw[zN,Bk]
  refine⟨λ⟨⟨s,t⟩,hw,array_get_dec⟩=>?_,λhz=>?_⟩
  .have hw:=zN.mp hw
   cases array_get_dec;rw[Cp,<- hw];grind
  .have par:(x+y) % 2=0:=by
    have h1:(x*x+y*y) % 2=0:=by rw[hz];omega
    have h2:(x+y)*(x+y) % 2=0:=by
     have:(x+y)*(x+y)=x*x+y*y+2*(x*y):=by grind
     omega
    rcases Int.emod_two_eq (x+y) with g|g
    .exact g
    .rw[Yo,g] at h2
     exact absurd h2 (by decide)
   refine⟨((x+y)/2,(y-x)/2),zN.mpr ?_,Gd (by dsimp only;omega) (by dsimp only;omega)⟩
   generalize hs:(x+y)/2=s;generalize ht:(y-x)/2=t;have:x=s-t:=by omega
   have:y=s+t:=by omega
   subst x y;rw[Cp] at hz;have:(2:Ag)*(s*s+t*t)=2*n:=by rw[show (2:Ag)*n=((2:Af):Ag)*n from rfl,<- hz];grind
   omega
theorem R2 (n:Af):∀ t:Af,R (2 ^ t*n)=R n
 |0=>by rw[Qg,Rp]
 |t+1=>by
  have:2 ^ (t+1)*n=2*(2 ^ t*n):=by rw[Go];grind
  rw[this,R2a,R2 n t]
theorem LX:R 1=4:=kd
theorem PU {p t:Af}(hp:Prm p)(hm:¬ p∣m):(R (p ^ t*m):Ag)=(if p % 4=1 then (t:Ag)+1 else if p % 4=3/\t % 2=1 then 0 else 1)*R m:=by
 have h:p % 4=0\/p % 4=1\/p % 4=2\/p % 4=3:=by omega
 have h2:=hp.1;have two:p % 2=0->p=2:=λh=>by
  rcases hp.2 2 (Nat.dvd_of_mod_eq_zero h) with w|w <;> omega
 rcases h with h|h|h|h
 .have:=two om
  subst this;exact absurd h (by decide)
 .rw[Bc h,(R1 hp h hm t).1]
  exact Cp ..
 .have:=two om
  subst this;rw[R2,Aw (by decide),Aw (λq=>absurd q.1 (by decide)),We]
 .rw[Aw om,R3 hp h hm t]
  by_cases g:t % 2=1
  .rw[Bc g,Bc ⟨h,g⟩,Yq];rfl
  .rw[Aw g,Aw (λq=>g q.2),We]
def vT:DS:=sIf (dTr (d2 gEq (d2 xN (q9 2) (dC (.int 4))) (dC (.int 1)))) (wX 1 qU (d2 zA (q9 3) (dC (.int 1)))) (sIf (xJ (dTr (d2 gEq (d2 xN (q9 2) (dC (.int 4))) (dC (.int 3)))) (dTr (d2 gEq (d2 xN (q9 3) (dC (.int 2))) (dC (.int 1))))) (qY (dC (.int 0))) (zT))
noncomputable def kO:DG:=gTp 2 (zH (gNm 2) (zH (gNm 3) (w5)))
theorem LY:b_points_by_primes=qL (qR (dC (.int 4)) (gNm 1)) (qL (v7 (wY (q9 0)) kO vT) (qY (q9 1))):=rfl
theorem J0 (a:Al D)(m p t:Ag)(S:Sto)(hm:0<=m/\m<=4000000000000)(hp:0<=p)(ht:0<=t) :
  vT [a,Ab (.int m),Ab (.int p),Ab (.int t)] S=(if p % 4=1 then .nx [a,Ab (.int (m*(t+1))),Ab (.int p),Ab (.int t)] S else if p % 4=3/\t % 2=1 then .rt (.int 0) S else .nx [a,Ab (.int m),Ab (.int p),Ab (.int t)] S):=by
 have h1:=mZ p 4 S om;have h2:=mZ t 2 S om;have h3:=rN m (t+1) S ⟨by omega,by omega⟩
 unfold vT;by_cases e1:p % 4=1
 .simp[qO,y8,eR,eQ,CI,qL,sIf,qY,zT,xV,qR,gNm,gSb,gTp,zH,w5,tU,HJ,wX,dC,q9,d1,d2,q8,qA,qX,qK,dTr,vZ,gV,xJ,yP,dIf,mO,ZX,wB,jF,jE,pS,dBm,dSl,wZ,jS,wY,gW,Res.bind,Res.toS,_D.vU,_D.vV,QP,CJ,CH,CG,CK,gLt,gLe,gGt,gGe,_D.yS,pX,h1,yL,e1,h3,dB]
 .by_cases e2:p % 4=3
  .by_cases e3:t % 2=1
   .simp[qO,y8,eR,eQ,CI,qL,sIf,qY,zT,xV,qR,gNm,gSb,gTp,zH,w5,tU,HJ,wX,dC,q9,d1,d2,q8,qA,qX,qK,dTr,vZ,gV,xJ,yP,dIf,mO,ZX,wB,jF,jE,pS,dBm,dSl,wZ,jS,wY,gW,Res.bind,Res.toS,_D.vU,_D.vV,QP,CJ,CH,CG,CK,gLt,gLe,gGt,gGe,_D.yS,pX,h1,h2,yL,e2,e3]
   .simp[qO,y8,eR,eQ,CI,qL,sIf,qY,zT,xV,qR,gNm,gSb,gTp,zH,w5,tU,HJ,wX,dC,q9,d1,d2,q8,qA,qX,qK,dTr,vZ,gV,xJ,yP,dIf,mO,ZX,wB,jF,jE,pS,dBm,dSl,wZ,jS,wY,gW,Res.bind,Res.toS,_D.vU,_D.vV,QP,CJ,CH,CG,CK,gLt,gLe,gGt,gGe,_D.yS,pX,h1,h2,yL,e2,e3]
  .simp[qO,y8,eR,eQ,CI,qL,sIf,qY,zT,xV,qR,gNm,gSb,gTp,zH,w5,tU,HJ,wX,dC,q9,d1,d2,q8,qA,qX,qK,dTr,vZ,gV,xJ,yP,dIf,mO,ZX,wB,jF,jE,pS,dBm,dSl,wZ,jS,wY,gW,Res.bind,Res.toS,_D.vU,_D.vV,QP,CJ,CH,CG,CK,gLt,gLe,gGt,gGe,_D.yS,pX,h1,yL,e1,e2]
theorem TV (p t:Af)(hp:2<=p):t+1<=p ^ t:=by
 induction t with
 |zero=>simp
 |succ t ih =>
  rw[Go];have:=De ih hp;omega
theorem f6 (a:Al D)(S:Sto):∀ (L:FL) (m:Af) (e2 e3:Al D),(∀ x∈L,Prm x.1)->m*xG L<=4000000000000 ->
  (∃ e2' e3',xF kO vT (L.map itD) [a,Ab (.int (m:Ag)),e2,e3] S=.nx [a,Ab (.int ((m:Ag)*sgn L)),e2',e3'] S)\/(xF kO vT (L.map itD) [a,Ab (.int (m:Ag)),e2,e3] S=.rt (.int 0) S/\sgn L=0)
 |[],m,e2,e3,_,_=>.inl ⟨e2,e3,by simp[xF,sgn]⟩
 |x::L,m,e2,e3,hp,hb=>by
  have hx:=(hp x (Bv ..)).1;have hp':∀ y∈L,Prm y.1:=λy hy=>hp y (Au _ hy);have hpos:1<=xG L:=by
   have:∀ M:FL,(∀ y∈M,Prm y.1)->1<=xG M:=by
    intro M
    induction M with
    |nil=>intro _;exact Ax _
    |cons y M ih =>
     intro h;have h1:=ih λz hz=>h z (Au _ hz);have h2:1<=y.1 ^ y.2:=Yz (by have:=(h y (Bv ..)).1;omega)
     exact De h2 h1
   exact this L hp'
  have hpw:=TV x.1 x.2 hx;have hb':m*(x.1 ^ x.2*xG L)<=4000000000000:=hb;have hq:1<=x.1 ^ x.2*xG L:=De (show 1<=x.1 ^ x.2 by omega) hpos
  have hm:m<=4000000000000:=Dd (Nat.le_mul_of_pos_right m hq) hb';have hg:kO (itD x) [a,Ab (.int (m:Ag)),e2,e3] S=.ok [a,Ab (.int (m:Ag)),Ab (.int (x.1:Ag)),Ab (.int (x.2:Ag))] S:=rfl;have hf:=J0 a (m:Ag) (x.1:Ag) (x.2:Ag) S ⟨by omega,by omega⟩ om om
  have hstep:xF kO vT ((x::L).map itD) [a,Ab (.int (m:Ag)),e2,e3] S=(match vT [a,Ab (.int (m:Ag)),Ab (.int (x.1:Ag)),Ab (.int (x.2:Ag))] S with
   |.nx env2 S2=>xF kO vT (L.map itD) env2 S2
   |.ct env2 S2=>xF kO vT (L.map itD) env2 S2
   |.bk env2 S2=>.nx env2 S2
   |o=>o):=by
   rw[Bz]
   conv=>lhs;unfold xF
   simp only[hg,Res.toS] <;> cases vT [a,Ab (.int (m:Ag)),Ab (.int (x.1:Ag)),Ab (.int (x.2:Ag))] S <;> rfl
  rw[hstep,hf];by_cases e1:x.1 % 4=1
  .have e1':(x.1:Ag) % 4=1:=by omega
   rw[Bc e1'];have hsg:sg x=(x.2:Ag)+1:=by unfold sg;rw[Bc e1]
   have hcast:((m:Ag)*((x.2:Ag)+1))=((m*(x.2+1):Af):Ag):=by simp
   rw[hcast];have hb2:m*(x.2+1)*xG L<=4000000000000:=by
    refine Dd ?_ hb';rw[Tj];exact Of _ (Ng _ hpw)
   rcases f6 a S L (m*(x.2+1)) (Ab (.int (x.1:Ag))) (Ab (.int (x.2:Ag))) hp' hb2 with⟨u,v,h⟩|⟨h,h0⟩
   .refine .inl ⟨u,v,?_⟩
    simp only[h,sgn,hsg];rw[<- hcast,Jc]
   .refine .inr ⟨h,?_⟩
    simp only[sgn,h0,Yr]
  .have e1':¬ (x.1:Ag) % 4=1:=by omega
   rw[Aw e1'];by_cases e2:x.1 % 4=3/\x.2 % 2=1
   .have e2':(x.1:Ag) % 4=3/\(x.2:Ag) % 2=1:=by omega
    rw[Bc e2'];refine .inr ⟨rfl,?_⟩;have:sg x=0:=by unfold sg;rw[Aw e1,Bc e2]
    simp only[sgn,this,Yq]
   .have e2':¬ ((x.1:Ag) % 4=3/\(x.2:Ag) % 2=1):=by omega
    rw[Aw e2'];have hsg:sg x=1:=by unfold sg;rw[Aw e1,Aw e2]
    have hb2:m*xG L<=4000000000000:=by
     refine Dd (Of _ ?_) hb';exact Mj _ (show 0<x.1 ^ x.2 by omega)
    rcases f6 a S L m (Ab (.int (x.1:Ag))) (Ab (.int (x.2:Ag))) hp' hb2 with⟨u,v,h⟩|⟨h,h0⟩
    .refine .inl ⟨u,v,?_⟩
     simp only[h,sgn,hsg,We]
    .refine .inr ⟨h,?_⟩
     simp only[sgn,h0,Yr]
theorem RF (L:FL)(n:Af)(S:Sto)(h:Fac L n)(hn:n<=1000000000000):S_points_by_primes [.lst (L.map itD)] S=.ok (.int (4*sgn L)) S:=by
 rw[yI,LY];have hs:y8 4 [.lst (L.map itD)]=[Ab (.lst (L.map itD)),none,none,none]:=rfl;have hi:wY (q9 0) [Ab (.lst (L.map itD)),Ab (.int 4),none,none] S=.ok (L.map itD) S:=rfl;rcases f6 (Ab (.lst (L.map itD))) S L 4 none none h.prm (by rw[h.eq];omega) with⟨u,v,e⟩|⟨e,e0⟩
 .have e':xF kO vT (L.map itD) [Ab (.lst (L.map itD)),Ab (.int 4),none,none] S=_:=e
  unfold qO;rw[hs];simp only[qL,qR,dC,gNm,Res.toS,v7,Ov,Ll,hi,e',qY,q9,List.getElem?_cons_zero,Qe,eR,eQ];rfl
 .have e':xF kO vT (L.map itD) [Ab (.lst (L.map itD)),Ab (.int 4),none,none] S=_:=e
  unfold qO;rw[hs];simp only[qL,qR,dC,gNm,Res.toS,v7,Ov,Ll,hi,e',qY,q9,eR,eQ,e0];rfl
theorem oY (S:Sto):uK (.int 10) (.int 12) S=.ok (.int 1000000000000) S:=rfl
theorem jac:∀ {L:FL} {n:Af},Fac L n->(R n:Ag)=4*sgn L
 |[],n,h=>by
  have:n=1:=h.eq.symm;subst this;rw[LX];rfl
 |x::L,n,h=>by
  have e:x.1 ^ x.2*xG L=n:=h.eq;have hx:=h.prm x (Bv ..);have nd:=Co.mp h.nd;rw[<- e,PU hx (λhd=>by
   obtain⟨y,h1,h2⟩:=jT hx (λy hy=>h.prm y (Au _ hy)) hd;exact nd.1 (Bk.mpr ⟨y,h1,h2⟩)),jac h.tail]
  show sg x*_=4*(sg x*sgn L);exact Int.mul_left_comm _ _ _
theorem MG (hn:1<=n/\n<=1000000000000)(h:∀ S1,S<+:S1->Q (.int (R n:Af)) S1):Ok (S_circle_points [.int (n:Ag)] S) Q:=by
 obtain⟨L,S',e,hF,hp⟩:=Y6 n S hn;rw[vP];refine zB (env:=[Ab (.int (n:Ag))]) rfl ?_;rfl';refine qN e ?_;rfl';refine qN (RF L n S' hF hn.2) ?_;have:=h S' hp;rw[jac hF] at this;rfl';exact this
theorem WI (c:Cl)(hn:1<=n/\n<=1000000000000)(h:∀ S1,S<+:S1->Q (.int (R n:Af)) S1):Ok (S_on_circle c [.int (n:Ag)] S) Q:=by
 rw[jO];refine zB (env:=[Ab (.int (n:Ag))]) rfl ?_;rfl';refine qN (oY _) ?_;rfl';refine qN (uD c S li) ?_;rfl';refine MG hn λS1 h1=>?_;rfl';exact h S1 h1
theorem HG {f g:DE}(h:Ok (f env S) λd S1=>∃ b,d=.bl b/\(b=true->Q (.bl true) S1)/\(b=false->Ok (g env S1) Q)):Ok (dOr f g env S) Q:=qS (zC h λd S1 ⟨b,e,k1,k2⟩=>by
 subst e;cases b with
 |true=>exact⟨_,_,rfl,k1 rfl⟩
 |false=>exact k2 rfl)
theorem pC (c:Cl)(hn:1<=n/\n<=1000000000000)(h:∀ S1,S<+:S1->Q (.bl (decide (0<R n))) S1):Ok (S_is_sum c [.int (n:Ag)] S) Q:=by
 rw[bL];refine zB (env:=[Ab (.int (n:Ag))]) rfl ?_;rfl';refine qN (oY _) ?_;rfl';refine qN (uD c S li) ?_;rfl';refine HG (qN (d:=.bl false) (S:=S) ?_ ⟨_,rfl,(λz=>by cases z),λ_=>?_⟩)
 .show gEq (.int n) (.int 0) S=_
  rw[yL,Cc li]
 rfl';refine MG hn λS1 h1=>?_;rfl';have:=h S1 h1;rw[show decide (0<R n)=decide ((0:Ag)<(R n:Ag)) from Wb.mpr li] at this
 exact this
noncomputable def sg2 (a:Af):Aa Ag:=if a=0 then [0] else [(a:Ag),-(a:Ag)]
theorem bC {a:Af}{x:Ag}:x∈sg2 a↔x.natAbs=a:=by
 unfold sg2
 split
 .rw[Dc];lia
 .rw[Bg,Dc];lia
theorem fX (a:Af):(sg2 a).Nodup:=by
 unfold sg2
 split
 .exact Co.mpr ⟨Dg,Fq⟩
 .exact Co.mpr ⟨λh=>by rw[Dc] at h;lia,Co.mpr ⟨Dg,Fq⟩⟩
noncomputable def img (a b:Af):Aa Z2:=(sg2 a).flatMap λx=>(sg2 b).map λy=>(x,y)
theorem bB {a b:Af}{x:Ag}:(x,y)∈img a b↔x.natAbs=a/\y.natAbs=b:=by
 unfold img;rw[Gw];refine⟨λ⟨u,hu,h⟩=>?_,λh=>⟨x,bC.mpr h.1,Bk.mpr ⟨y,bC.mpr h.2,rfl⟩⟩⟩;obtain⟨v,hv,e⟩:=Bk.mp h;cases e;exact⟨bC.mp hu,bC.mp hv⟩
noncomputable def ims (p:Af × Af):Aa Z2:=img p.1 p.2++if p.1=p.2 then [] else img p.2 p.1
set_option tactic.hygienic true in
theorem jV {p:Af × Af}{x:Ag}:(x,y)∈ims p↔x.natAbs=p.1/\y.natAbs=p.2\/x.natAbs=p.2/\y.natAbs=p.1:=by
 unfold ims;rw[Cs,bB]
 split
 .rename_i e
  refine⟨λh=>h.elim .inl λh=>(by cases h),λh=>.inl (h.elim id λk=>⟨by lia,by lia⟩)⟩
 .rw[bB]
theorem MA (p:Af × Af):(ims p).Nodup:=by
 unfold ims;refine Io.mpr ⟨uO (fX _) (fX _),?_,λ⟨x,y⟩ hx z hz e=>?_⟩
 .split
  .exact Fq
  .exact uO (fX _) (fX _)
 .subst e
  split at hz
  .cases hz
  .have h1:=bB.mp hx
   have h2:=bB.mp hz
   lia
noncomputable def shw (p:Af × Af):Ag:=(1+if (p.1:Ag)>0 then 1 else 0)*(1+if (p.2:Ag)>0 then 1 else 0)*(1+if (p.1:Ag)≠p.2 then 1 else 0)
theorem b9 (a:Af):((sg2 a).length:Ag)=1+if (a:Ag)>0 then 1 else 0:=by
 unfold sg2
 split
 .rw[Aw li];rfl
 .rw[Bc li];rfl
theorem rZ (a b:Af):(img a b).length=(sg2 a).length*(sg2 b).length:=by
 unfold img;rw[Tl]
 induction sg2 a with
 |nil=>simp
 |cons x l ih=>rw[Bz,Fn,ih,Ar,By,Nat.succ_mul,Nv]
theorem JT (p:Af × Af):((ims p).length:Ag)=shw p:=by
 unfold ims shw;rw[Dj,Qx,rZ,Cp,b9,b9];by_cases e:p.1=p.2
 .rw[Bc e,Aw (show ¬ (p.1:Ag)≠p.2 by lia)]
  show _+(0:Ag)=_;rw[Ys,Ys,Yv]
 .rw[Aw e,rZ,Cp,b9,b9,Bc (show (p.1:Ag)≠p.2 by lia)]
  generalize (1+if (p.1:Ag)>0 then (1:Ag) else 0)=k
  generalize (1+if (p.2:Ag)>0 then (1:Ag) else 0)=m
  grind
theorem GO (h:Wy n W)(nd:W.Nodup):(W.map shw).sum=(R n:Ag):=by
 have e:(W.flatMap ims).length=R n:=by
  refine EI (Ro.mpr ⟨λp _=>MA p,?_⟩) λx y=>?_
  .refine nd.imp_of_mem λ{p q} hp hq hne ⟨x,y⟩ hx z hz e=>?_
   subst e;have h1:=jV.mp hx;have h2:=jV.mp hz;have h3:=(h p.1 p.2).mp hp;have h4:=(h q.1 q.2).mp hq;exact hne (Gd li li)
  .have ex:x*x+y*y=((x.natAbs*x.natAbs+y.natAbs*y.natAbs:Af):Ag):=by
    rw[Qx,Cp,Cp,Jy,Jy]
   rw[ex,Tk,Gw];refine⟨λ⟨p,hp,hm⟩=>?_,λe=>?_⟩
   .have h3:=((h p.1 p.2).mp hp).2
    rcases jV.mp hm with⟨a,b⟩|⟨a,b⟩
    .rw[a,b];exact h3
    .rw[a,b,Nv];exact h3
   .rcases Nat.le_total x.natAbs y.natAbs with k|k
    .exact⟨(x.natAbs,y.natAbs),(h _ _).mpr ⟨k,e⟩,jV.mpr (.inl ⟨rfl,rfl⟩)⟩
    .exact⟨(y.natAbs,x.natAbs),(h _ _).mpr ⟨k,by rw[Nv];exact e⟩,jV.mpr (.inr ⟨rfl,rfl⟩)⟩
 rw[<- e,Tl];clear e nd h
 induction W with
 |nil=>rfl
 |cons p W ih=>rw[Bz,Fn,Bz,Fn,Qx,ih,JT]
theorem o_i {p:Prop}[Il p](q:∀ u:Ag,(u=0\/u=1)->u=(if p then 1 else 0)->Q (.int u) S):Ok (yQ [.bl (decide p)] S) Q:=by
 by_cases h:p
 .rw[Bw h]
  exact⟨_,_,rfl,q 1 (.inr rfl) (Bc h).symm⟩
 .rw[Cc h]
  exact⟨_,_,rfl,q 0 (.inl rfl) (Aw h).symm⟩
theorem QF (p:Af × Af):1<=shw p/\shw p<=8:=by
 unfold shw
 split <;> split <;> split <;> decide
theorem K4 (h:S[j]? = Ab (.lst (W.map wD)))(q:Q (.int (W.map shw).sum) S):Ok (S__law_shown [.loc j] S) Q:=by
 rw[uX];refine zB (env:=[Ab (.loc j),none,none,none,none]) rfl ?_;rfl';have key:∀ (V:Aa (Af × Af)) (f:Ag) (e2 e3 e4:Al D),∃ e2' e3' e4',xW (Ab (j,.lst (W.map wD))) (gTp 2 (zH (gNm 2) (zH (gNm 3) (w5)))) (qL (qR (d2 qU (d2 zA (dC (.int 1)) (qX yQ (q8 (d2 gGt (q9 2) (dC (.int 0))) (qA)))) (d2 zA (dC (.int 1)) (qX yQ (q8 (d2 gGt (q9 3) (dC (.int 0))) (qA))))) (gNm 4)) (qR (d2 zA (q9 1) (d2 qU (q9 4) (d2 zA (dC (.int 1)) (qX yQ (q8 (d2 gNe (q9 2) (q9 3)) (qA)))))) (gNm 1))) (V.map wD) [Ab (.loc j),Ab (.int f),e2,e3,e4] S=.nx [Ab (.loc j),Ab (.int (f+(V.map shw).sum)),e2',e3',e4'] S:=by
  intro V
  induction V with
  |nil =>
   intro f e2 e3 e4;refine⟨e2,e3,e4,?_⟩;show (if _ then _ else _)=_
   rw[Bc (wJ.mpr (show stn (Ab (j,MO.lst (W.map wD))) S from h))]
   simp
  |cons p V ih =>
   intro f e2 e3 e4;have body:Wo (λo=>o=.nx [Ab (.loc j),Ab (.int (f+shw p)),Ab (.int p.1),Ab (.int p.2),Ab (.int ((1+if (p.1:Ag)>0 then 1 else 0)*(1+if (p.2:Ag)>0 then 1 else 0)))] S) ((qL (qR (d2 qU (d2 zA (dC (.int 1)) (qX yQ (q8 (d2 gGt (q9 2) (dC (.int 0))) (qA)))) (d2 zA (dC (.int 1)) (qX yQ (q8 (d2 gGt (q9 3) (dC (.int 0))) (qA))))) (gNm 4)) (qR (d2 zA (q9 1) (d2 qU (q9 4) (d2 zA (dC (.int 1)) (qX yQ (q8 (d2 gNe (q9 2) (q9 3)) (qA)))))) (gNm 1))) [Ab (.loc j),Ab (.int f),Ab (.int p.1),Ab (.int p.2),e4] S):=by
    unfold shw;rfl';refine o_i λu hu eu=>?_;rfl';refine o_i λv hv ev=>?_;rw[<- eu,<- ev];clear eu ev;rcases hu with rfl|rfl <;> rcases hv with rfl|rfl <;> (rfl';rw[show (!decide ((p.1:Ag)=p.2))=decide ((p.1:Ag)≠p.2) from (decide_not ..).symm];refine o_i λw hw array_get_dec=>?_;rw[<- array_get_dec];rcases hw with rfl|rfl <;> (rfl';rfl))
   obtain⟨a,b,d,e⟩:=ih (f+shw p) (Ab (.int p.1)) (Ab (.int p.2)) (Ab (.int ((1+if (p.1:Ag)>0 then 1 else 0)*(1+if (p.2:Ag)>0 then 1 else 0))))
   refine⟨a,b,d,?_⟩;show (if pH (Ab (j,MO.lst (W.map wD))) S=true then _ else _)=_
   rw[Bc (wJ.mpr (show stn (Ab (j,MO.lst (W.map wD))) S from h))]
   show (match (qL _ _ [Ab (.loc j),Ab (.int f),Ab (.int (p.1:Ag)),Ab (.int (p.2:Ag)),e4] S) with|.nx env2 S2=>xW _ _ _ (V.map wD) env2 S2|.ct env2 S2=>xW _ _ _ (V.map wD) env2 S2|.bk env2 S2=>.nx env2 S2|o=>o)=_
   rw[show qL _ _ [Ab (.loc j),Ab (.int f),Ab (.int (p.1:Ag)),Ab (.int (p.2:Ag)),e4] S=_ from body]
   dsimp only;rw[e,Bz,Fn,Int.add_assoc]
 obtain⟨a,b,d,e⟩:=key W 0 none none none;refine jD (qN (FS rfl h) ?_);dsimp only;rw[e];rfl';rw[Qf];exact q
theorem SL {p q:Pt}(hp:InB 1000 p)(hq:InB 1000 q)(h:Q (.int (far p q)) S):Ok (S_far_between [ptD p,ptD q] S) Q:=by
 unfold InB at hp hq;rw[uE];refine zB (env:=[Ab (ptD p),Ab (ptD q),none,none]) rfl ?_;rfl';exact h
theorem K2 {l:Aa Pt}(hb:∀ p∈l,InB 1000 p)(hl:l.length<=41)(q:∀ kvs S',GI gY prD S.length (w8 l) kvs S'->(∀ m,m<S.length->S'[m]? = S[m]?)->Q (.loc S.length) S'):Ok (S_pairs_by_far [p9 l] S) Q:=by
 rw[vX];refine zB (env:=[Ab (.tup (l.map ptD)),none,none,none,none]) rfl ?_;rfl';refine GY (λds env S'=>∃ i e2 e3 e4 done kvs,env=[Ab (.tup (l.map ptD)),Ab (.loc S.length),e2,e3,e4]/\ds=eL i ((l.drop i).map ptD)/\GI gY prD S.length done kvs S'/\done++w8 (l.drop i)=w8 l/\∀ m,m<S.length->S'[m]? = S[m]?) ?_ ?_ ⟨0,_,_,_,[],[],rfl,XC _,⟨uB _ _,λ_ h=>(by cases h),Fq,rfl⟩,rfl,λm hm=>Bo hm⟩
 .rintro d ds _ S' ⟨i,e2,e3,e4,done,kvs,rfl,hds,G,hall,hpre⟩
  cases hdr:l.drop i with
  |nil=>rw[hdr] at hds;cases hds
  |cons p qE =>
   rw[hdr] at hds hall;injection hds with h1 h2
   subst h1 h2;have hrest:l.drop (i+1)=qE:=by
    have:=congrArg List.tail hdr;simpa [List.tail_drop] using this
   have hmem:∀ z∈p::qE,z∈l:=λz hz=>Se (hdr▸hz);rfl';rw[ZT,<- Ti,hrest];refine vA (λr env S'=>∃ e4 done kvs,env=[Ab (.tup (l.map ptD)),Ab (.loc S.length),Ab (.int (i:Ag)),Ab (ptD p),e4]/\(∀ z∈r,z∈l)/\GI gY prD S.length done kvs S'/\done++(r.map (λz=>(p,z))++w8 qE)=w8 l/\∀ m,m<S.length->S'[m]? = S[m]?) ?_ ?_ ⟨_,done,kvs,rfl,λz hz=>hmem z (Au _ hz),G,hall,hpre⟩
   .rintro z r _ S' ⟨e4,done,kvs,rfl,hr,G,hall,hpre⟩
    have hdl:done.length<lim:=by
     have:=congrArg Oy hall;have h3:=SG hl;simp only[Dj] at this;unfold lim
     lia
    obtain⟨j,S1,S2,kvs',f1,f2,f3,G',hp'⟩:=J3 G (p,z) hdl;rfl';refine⟨mC G.dict,?_⟩;rfl';refine SL (hb p (hmem p (Bv ..))) (hb z (hr z (Bv ..))) ?_;rfl';refine qN f1 ⟨f2,?_⟩;rfl';refine qN f3 ?_;exact jC ⟨_,done++[(p,z)],kvs',rfl,λy hy=>hr y (Au _ hy),G',by rw[<- hall];simp,λm hm=>(hp' m hm).trans (hpre m hm)⟩
   .rintro _ S' ⟨e4,done,kvs,rfl,hr,G,hall,hpre⟩
    exact jC ⟨i+1,_,_,_,done,kvs,rfl,by rw[hrest],G,by rw[hrest];simpa using hall,hpre⟩
 .rintro _ S' ⟨i,e2,e3,e4,done,kvs,rfl,hds,G,hall,hpre⟩
  rfl';refine q kvs S' ?_ hpre;cases hdr:l.drop i with
  |cons _ _=>rw[hdr] at hds;cases hds
  |nil =>
   rw[hdr] at hall;have:done=w8 l:=by simpa [w8] using hall
   rw[<- this];exact G
theorem K5 (c:Cl){l:Aa Pt}{M:Af}(hM:M<=40)(h:Lot M l){S:Sto}(q:∀ S',S<+:S'->Q (.lst ((tbl (zW l)).map tpD)) S'):Ok (S_far_table c [p9 l] S) Q:=by
 have hll:=h.len;have h1600:(w8 l).length<=1600:=Dd (lL l) (De (show l.length<=40 by lia) (show l.length<=40 by lia))
 obtain⟨_,S1,e1,rfl,kvs,G,hp⟩:=K2 (S:=S) (Q:=λd S'=>d=.loc S.length/\∃ kvs,GI gY prD S.length (w8 l) kvs S'/\∀ m,m<S.length->S'[m]? = S[m]?) h.box li λkvs S' G hp=>⟨rfl,kvs,G,hp⟩;have hi:u7 (fM (qK 1 S_pairs_by_far (q8 (q9 0) (qA)))) [Ab (p9 l)] S=.ok (none,kvs.map λp=>D.tup [kD p.1,p.2]) (S1.set S.length .dead):=by
  unfold u7 fM;rw[(LZ (f1:=q9 0) (env:=[Ab (p9 l)]) (S:=S) rfl).trans e1];simp only[Res.bind,G.dict];rfl
 have hek:kvs.map (·.1)=(kys (zW l)).map Dy:=G.keys
 have hkl:(kys (zW l)).length<=1600:=by
  have:=d9 (ks:=zW l) (l:=[]);have h3:(zW l).length=(w8 l).length:=Ar _;unfold kys;simp only[Ew] at this
  lia
 have hkv:kvs.length<=1600:=by
  have:=congrArg Oy hek;rw[Ar,Ar] at this
  lia
 have ev:(kvs.map λp=>ctD (zW l) p.1)=(tbK (zW l)).map tpD:=by
  rw[show (kvs.map λp=>ctD (zW l) p.1)=(kvs.map (·.1)).map (ctD (zW l)) by rw[Ei];rfl,hek]
  unfold tbK;rw[Ei,Ei];rfl
 have hs:pV [.lst ((tbK (zW l)).map tpD)] (S1.set S.length .dead)=.ok (.lst ((tbl (zW l)).map tpD)) (S1.set S.length .dead):=by
  show (match (Ab ((tbK (zW l)).map tpD)).bind gF with|some ys=>Res.ok (D.lst ys) (S1.set S.length .dead)|none=>.bad)=_
  rw[Option.bind_some,GP (tbK (zW l)) (by unfold tbK;rw[Ar];lia) λk hk=>by
   obtain⟨f,_,rfl⟩:=Bk.mp hk;intro z;cases z]
  rfl
 rw[jK];refine zB (env:=[Ab (p9 l)]) rfl ?_;rfl';refine qN (rB c S (TU l) (XS li h)) ?_;rfl';refine jY kvs (λp=>ctD (zW l) p.1) (λenv S'=>S'=S1.set S.length .dead/\∃ a b,env=[a,b]) hi ⟨rfl,none,none,rfl⟩ (by unfold lim;lia) (λ_ _ _=>trivial) (λp hk env S' ⟨z1,a,b,z2⟩=>?_) λenv S' ⟨z1,_⟩=>?_
 .subst z1 z2
  obtain⟨f,j,rfl,h1,h2⟩:=G.lists p hk;rfl';refine MJ (xs:=((w8 l).filter λx=>gY x == f).map prD) (by rw[Cb li];exact h2) ?_
  rw[Ar,XI];rfl';exact⟨_,_,rfl⟩
 .subst z1
  rw[ev];rfl';exact qN hs (q _ (sF λm hm=>by rw[Cb li];exact hp m hm))
noncomputable def bth (W:Aa (Af × Af)):Aa (Af × Af):=W++(W.filter λp=>!decide ((p.1:Ag)=p.2)).map Prod.swap
noncomputable def inn (w h:Ag)(p:Af × Af):Ap:=decide ((p.1:Ag)<w)&&decide ((p.2:Ag)<h)
noncomputable def vv (w h:Ag)(W:Aa (Af × Af)):Ag:=(((bth W).filter (inn w h)).map λp=>wt w h p.1 p.2).sum
theorem VY (W:Aa (Af × Af)):(bth W).length<=2*W.length:=by
 unfold bth;rw[Dj,Ar];have:=Hz (λp:Af × Af=>!decide ((p.1:Ag)=p.2)) W
 lia
theorem VE {α:Type}{f:α->Ag}{l:Aa α}(h:Q (.int (l.map f).sum) S):Ok (mV [.lst (l.map λx=>D.int (f x))] S) Q:=by
 refine⟨_,_,?_,h⟩;have e:(zJ (.lst (l.map λx=>D.int (f x)))).bind xA=Ab (l.map f):=by
  rw[show (l.map λx=>D.int (f x))=(l.map f).map D.int by rw[Ei];rfl]
  exact p7 _
 show (match (zJ (.lst (l.map λx=>D.int (f x)))).bind xA with|some ns=>Res.ok (D.int ns.sum) S|none=>.bad)=_
 rw[e]
theorem tM (c:Cl){S:Sto}{w h N:Ag}{n:Af}(eN:N=(n:Ag))(hw:1<=w/\w<=100)(hh:1<=h/\h<=100)(hn:1<=n/\n<=10000000)(q:∀ W S',S<+:S'->Wy n W->W.Nodup->Q (.int (vv w h W)) S'):Ok (S_grid_often c [.int w,.int h,.int N] S) Q:=by
 rw[uZ];refine zB (env:=[Ab (.int w),Ab (.int h),Ab (.int N),none,none]) rfl ?_;rfl';refine tN c li li ?_;rfl';refine qN (d:=.int 1000000000) rfl ?_;rfl';refine qN (uD c S li) ?_;rfl';refine oS c eN hn.2 λW S1 p1 h1 hW hWl nd=>?_;rfl';refine qN (rJ (xs:=W) (enc:=wD) (FS rfl h1) h1 (λp=>!decide ((p.1:Ag)=p.2)) (λp=>wD p.swap) (λenv=>∃ a b,env=[a,b]) ⟨none,none,rfl⟩ (by unfold lim;lia) λp hp env ⟨a,b,e⟩=>?_) ?_
 .subst e
  refine⟨_,rfl,⟨_,_,rfl⟩,?_,λ_=>rfl⟩;refine wO (yW ?_);rfl';exact⟨λz=>by rw[z];exact⟨_,_,rfl,rfl,rfl⟩,λz=>by rw[z];exact⟨rfl,rfl⟩⟩
 have bl:=VY W;have bl2:=Hz (λp:Af × Af=>!decide ((p.1:Ag)=p.2)) W;refine ME (SA h1) rfl (by rw[Ar,Ar];unfold lim;lia) ?_
 have eC:W.map wD++(W.filter λp=>!decide ((p.1:Ag)=p.2)).map (λp=>wD p.swap)=(bth W).map wD:=by
  unfold bth;rw[He,Ei];rfl
 rw[eC];rfl';refine qN (rJ (xs:=bth W) (enc:=wD) (XU rfl) trivial (inn w h) (λp=>D.int (wt w h p.1 p.2)) (λenv=>∃ a b,env=[a,b,Ab (.int h),Ab (.int w)]) ⟨none,none,rfl⟩ (by unfold lim;lia) λp hp env ⟨a,b,e⟩=>?_) ?_
 .subst e
  refine⟨_,rfl,⟨_,_,rfl⟩,?_,λhs=>?_⟩
  .refine wO (yW (yW ?_))
   unfold inn;rfl';refine⟨λz=>?_,λz=>?_⟩
   .rw[z]
    rfl';exact⟨λz=>by rw[z];exact⟨_,_,rfl,rfl,rfl⟩,λz=>by rw[z];exact⟨rfl,rfl⟩⟩
   .rw[z]
    exact⟨(λz=>by cases z),λ_=>⟨rfl,rfl⟩⟩
  .unfold inn at hs
   rw[As,Aq,Aq] at hs;refine wO ?_;rfl';refine eO li ⟨rfl,rfl⟩
 rfl';refine VE ?_;rfl';exact q W S1 p1 hW nd
theorem sQ {l m:Aa Ag}(h:l.Perm m):l.sum=m.sum:=by
 induction h with
 |nil=>rfl
 |cons x _ ih=>rw[Fn,Fn,ih]
 |swap x y l=>simp only[Fn];lia
 |trans _ _ h1 h2=>exact h1.trans h2
theorem QY {V:Aa (Af × Af)}(h1:Wy n W)(n1:W.Nodup)(h2:Wy n V)(n2:V.Nodup)(w h:Ag):vv w h W=vv w h V:=by
 have p:W.Perm V:=(Kc n1 n2).mpr λ⟨a,b⟩=>by rw[h1,h2]
 exact sQ (((p.append ((p.filter _).map _)).filter _).map _)
theorem RX {w h a b:Ag}(ha:a<w)(hb:b<h):0<=wt w h a b/\wt w h a b<=wt (w+40) (h+7) a b:=by
 unfold wt trn;have e1:=Ju (a:=w-a) (b:=h-b) li li;have e2:(w+40-a)*(h+7-b)=(w-a)*(h-b)+7*(w-a)+40*(h-b)+280:=by grind
 split
 .rw[Jc,Jc];lia
 .rw[Jc,Jc];lia
set_option tactic.hygienic true in
theorem RU (w h:Ag)(W:Aa (Af × Af)):vv w h W<=vv (w+40) (h+7) W:=by
 unfold vv
 induction bth W with
 |nil=>exact Hx _
 |cons p B ih =>
  rw[Pr,Pr];by_cases g:inn w h p=true
  .have g1:=g
   unfold inn at g1;rw[As,Aq,Aq] at g1;have g2:inn (w+40) (h+7) p=true:=by
    unfold inn;rw[As,Aq,Aq]
    lia
   rw[Bc g,Bc g2,Bz,Bz,Fn,Fn];have:=RX g1.1 g1.2
   lia
  .rw[Aw g]
   split
   .rename_i g2
    unfold inn at g2;rw[As,Aq,Aq] at g2;rw[Bz,Fn];have e1:=Ju (a:=w+40-p.1) (b:=h+7-p.2) li li;have:0<=wt (w+40) (h+7) p.1 p.2:=by
     unfold wt trn
     split
     .rw[Jc];lia
     .rw[Jc];lia
    lia
   .exact ih
noncomputable def brd (w h:Af):Aa Pt:=(Ds (w*h)).map λ(i:Af)=>((i:Ag)/(h:Ag),(i:Ag) % (h:Ag))
noncomputable def wy8 (f:Ag):Aa (Af × Af):=((Ds 8).flatMap λb=>(Ds (b+1)).map λa=>(a,b)).filter λp=>decide (((p.1*p.1+p.2*p.2:Af):Ag)=f)
noncomputable def lG (w h:Ag):Aa Ag->Ap
 |[f,c]=>decide (1<=f)&&decide (f<=50)&&decide (vv w h (wy8 f)=c)
 |_=>false
noncomputable def okB (w h:Af):Ap:=decide ((tbK (zW (brd w h))).length=(xU w h).length)&&(tbK (zW (brd w h))).all (lG w h)&&decide (((tbK (zW (brd w h))).map λk=>k.getD 1 0).sum=(w:Ag)*h*((w:Ag)*h-1)/2)&&(xU w h).all (λx=>(tbK (zW (brd w h))).contains [x.1,x.2])&&upB ((brd w h).map kP)&&(brd w h).all (λp=>decide (InB 1000 p))&&decide ((xU w h).length<=60)
set_option maxRecDepth 1000000 in
theorem HH:∀ w,w<6->∀ h,h<6->okB (w+1) (h+1)=true:=kd
theorem Z1 {f:Af}(h:f<=50):Wy f (wy8 (f:Ag))/\(wy8 (f:Ag)).Nodup:=by
 refine⟨λa b=>?_,Hb _ (kd)⟩;unfold wy8;rw[Gi,Aq,Tk,Gw];refine⟨λ⟨⟨x,hx,h1⟩,h2⟩=>?_,λ⟨h1,h2⟩=>⟨⟨b,DL.mpr ?_,Bk.mpr ⟨a,DL.mpr li,rfl⟩⟩,h2⟩⟩
 .obtain⟨y,hy,e⟩:=Bk.mp h1
  cases e;have:=DL.mp hy;exact⟨by lia,h2⟩
 .refine Pq λg=>?_
  have:=De g g
  lia
theorem rC:∀ d,d<142->2<=d->¬ d∣20011:=kd
theorem K3 (hn:2<=n/\n<=30000)(q:∀ b:Ap,(n=20011->b=true)->Q (.bl b) S):Ok (S__law_is_prime [.int (n:Ag)] S) Q:=by
 rw[vO];refine zB (env:=[Ab (.int (n:Ag)),none]) rfl ?_;rfl';refine tX (λm env S'=>∃ k:Af,m=n+2-k/\2<=k/\k<=n+1/\env=[Ab (.int (n:Ag)),Ab (.int (k:Ag))]/\S'=S) (λm env S' ⟨k,hm,h2,hk,he,hS⟩=>?_) (n:=n) (by rw[fL];lia) ⟨2,by lia,by lia,by lia,rfl,rfl⟩
 subst he hS;refine qN (V4 k n 0 _ _ 1 0 rfl rfl li) ⟨λhb=>?_,λhb=>?_⟩
 .have ht:=Bp hb
  have hle:k<=n:=Dd (Mj k li) ht;array_get_dec;array_get_dec;refine qN (oH n k _ _ 0 1 rfl rfl li) ?_;refine uA (λhd=>?_) λhd=>?_
  .rfl'
   refine q false λe=>?_;subst e;refine absurd hd (rC k ?_ h2);refine Pq λg=>?_;have:=De g g
   lia
  .rfl'
   exact mE (n+2-(k+1)) li ⟨k+1,rfl,by lia,by lia,rfl,rfl⟩
 .rfl'
  refine q _ λ_=>Bw ?_
  lia
structure Pd (p:Af)(S S':Sto)(L:FL):Prop where
 pen:vL S' p
 dc:S'[S.length]? = Ab (.dct (kvD L))
 nd:(L.map (·.1)).Nodup
 same:∀ m,m<S.length->m≠p->S'[m]? = S[m]?
theorem Pd.kp {p:Af}{S'':Sto}(hp:p<S.length)(h:Pd p S S' L)(k:Kp p S' S''):Pd p S S'' L:=by
 have hl:=(Az.mp h.dc).1;exact⟨k.pen,by rw[k.same _ hl li];exact h.dc,h.nd,λm hm hn=>(k.same m li hn).trans (h.same m hm hn)⟩
theorem Pd.out {p:Af}(h:Pd p S S' L):Kp p S S':=⟨h.pen,Dz (Az.mp h.dc).1,h.same⟩
noncomputable def pL:Aa Af:=[2,3,5,5,7,13,17,29,101,9973]
theorem oQ {p:Af}(h:vL S p)(q:∀ (n:Af) (d:D) S1,Kp p S S1->1<=n/\n<=10000000->Q (.tup [.int n,d]) S1):Ok (S__law_product [.loc p,.int 10000000] S) Q:=by
 have hp:=TN h;rw[vW];refine zB (env:=[Ab (.loc p),Ab (.int 10000000),none,none,none,none]) rfl ?_;rfl';have k0:Pd p S (S++[.dct []]) []:=⟨jZ h (Gy ..),uB _ _,Fq,λm hm _=>Bo hm⟩;refine yX k0.pen li λr S1 k1 h1=>?_;rfl';refine⟨by lia,by lia,?_⟩
 refine vA (λxs env S'=>∃ (n:Af) (L:FL) (e4 e5:Al D),env=[Ab (.loc p),Ab (.int 10000000),Ab (.int n),Ab (.loc S.length),e4,e5]/\Pd p S S' L/\L.length+xs.length<=8/\1<=n/\n<=10000000) ?_ ?_ ⟨1,[],_,_,rfl,k0.kp hp k1,?_,by decide,by decide⟩
 .rintro x xs _ S' ⟨n,L,e4,e5,rfl,K,hl,hn⟩
  rw[By] at hl;rfl';refine yX K.pen li λr S2 k2 h2=>?_;have K:=K.kp hp k2;clear k2;rfl';refine SM (show r<10 by lia) λd hd=>?_
  obtain⟨f,hf,rfl⟩:=Bk.mp (show d∈pL.map λ(f:Af)=>D.int f from hd)
  have hf2:2<=f/\f<=30000:=by
   have:(pL.all λf=>Nat.ble 2 f&&Nat.ble f 30000)=true:=rfl;have:=Bt.mp this f hf;rw[As] at this;exact⟨Rq this.1,Rq this.2⟩
  clear hf hd h2;array_get_dec;array_get_dec;array_get_dec;refine VT (λenv S3=>∃ f:Af,env=[Ab (.loc p),Ab (.int 10000000),Ab (.int n),Ab (.loc S.length),Ab (.int (x:Ag)),Ab (.int f)]/\Pd p S S3 L/\2<=f/\f<=30000) (λP' hP=>?_) ?_
  .rfl'
   refine yX K.pen li λr3 S3 k3 h3=>?_;have K:=K.kp hp k3;rfl';refine uA (λz=>?_) λz=>?_
   .rfl'
    refine yX K.pen li λr4 S4 k4 h4=>?_;have K:=K.kp hp k4;have e2:2+(r4:Ag)=((r4+2:Af):Ag):=by lia
    rfl';rw[e2];refine tX (λm env S5=>∃ k:Af,m=20011-k/\2<=k/\k<=20011/\env=[Ab (.loc p),Ab (.int 10000000),Ab (.int n),Ab (.loc S.length),Ab (.int (x:Ag)),Ab (.int (k:Ag))]/\S5=S4) (λm env S5 ⟨k,hm,g2,g3,he,hS⟩=>?_) (n:=20011-(r4+2)) (by rw[fL];lia) ⟨r4+2,rfl,by lia,by lia,rfl,rfl⟩
    subst he hS;rfl';refine K3 ⟨g2,by lia⟩ λb hb=>?_
    rfl';refine⟨λz=>?_,λz=>?_⟩
    .have:k≠20011:=λe=>by rw[hb e] at z;cases z
     rfl';exact mE (20011-(k+1)) li ⟨k+1,rfl,by lia,by lia,rfl,rfl⟩
    .exact hP _ _ ⟨k,rfl,K,g2,by lia⟩
   .rfl'
    exact hP _ _ ⟨f,rfl,K,hf2⟩
  .rintro _ S3 ⟨f,rfl,K,hf2⟩
   have e:(n:Ag)*(f:Ag)=((n*f:Af):Ag):=by push_cast;rfl
   rfl';refine uA (λz=>?_) λz=>?_
   .have ha:=dF L f S3 [Ab (.loc p),Ab (.int 10000000),Ab (.int ((n:Ag)*f)),Ab (.loc S.length),Ab (.int (x:Ag)),Ab (.int f)] 5 3 S.length rfl rfl K.dc K.nd li
    have e1:Wo (λo=>o=.nx [Ab (.loc p),Ab (.int 10000000),Ab (.int ((n:Ag)*f)),Ab (.loc S.length),Ab (.int (x:Ag)),Ab (.int f)] S3) (qR (d2 qU (q9 2) (q9 5)) (gNm 2) [Ab (.loc p),Ab (.int 10000000),Ab (.int n),Ab (.loc S.length),Ab (.int (x:Ag)),Ab (.int f)] S3):=by
     rfl';rfl
    refine RV ?_;show Wo _ (qR (d2 qU (q9 2) (q9 5)) (gNm 2) _ S3);rw[show qR (d2 qU (q9 2) (q9 5)) (gNm 2) _ S3=_ from e1]
    refine C6 ?_;rw[ha];have hlt:=(Az.mp K.dc).1;have hp2:=K.pen;refine jC ⟨n*f,inc f L,_,_,by rw[e],⟨?_,Dl hlt,dU f K.nd,λm hm hn=>?_⟩,?_,?_,by lia⟩
    .obtain⟨v,g,e⟩:=K.pen
     exact⟨v,g,by rw[Cb li];exact e⟩
    .rw[Cb li]
     exact K.same m hm hn
    .have:=eA f L
     lia
    .exact Nat.mul_pos li li
   .rfl'
    exact jC ⟨n,L,_,_,rfl,K,by lia,hn⟩
 .rintro _ S' ⟨n,L,e4,e5,rfl,K,hl,hn⟩
  rfl';exact q n _ S' K.out hn
 .rw[Ew,Ma]
  lia
structure BrdOk (w h:Af):Prop where
 len:(tbK (zW (brd w h))).length=(xU w h).length
 rows:∀ k∈tbK (zW (brd w h)),lG w h k=true
 sum:((tbK (zW (brd w h))).map λk=>k.getD 1 0).sum=(w:Ag)*h*((w:Ag)*h-1)/2
 best:∀ x∈xU w h,[x.1,x.2]∈tbK (zW (brd w h))
 up:upB ((brd w h).map kP)=true
 box:∀ p∈brd w h,InB 1000 p
 few:(xU w h).length<=60
theorem iC {w h:Af}(hw:1<=w/\w<=6)(hh:1<=h/\h<=6):BrdOk w h:=by
 have:=HH (w-1) li (h-1) li;rw[Uc hw.1,Uc hh.1] at this;unfold okB at this;simp only[As,Aq,Bt,Rj] at this;obtain⟨⟨⟨⟨⟨⟨a,b⟩,c⟩,d⟩,e⟩,f⟩,g⟩:=this;exact⟨a,b,c,d,e,f,g⟩
theorem VX {w h:Af}(hw:1<=w/\w<=6)(hh:1<=h/\h<=6):Lot 36 (brd w h):=by
 have B:=iC hw hh;have hl:(brd w h).length=w*h:=by unfold brd;rw[Ar,Ma]
 have h1:=De hw.1 hh.1;have h2:=De hw.2 hh.2;refine⟨λz=>?_,by lia,?_,B.box⟩
 .rw[z,Ew] at hl
  lia
 .have:=(sU _).mp B.up
  rw[Gh] at this;exact this
theorem iU (p q:Pt):eqD (ptD p) (ptD q)=decide (p=q):=by
 show (p.1 == q.1&&(p.2 == q.2&&true))=_;rw[IW];simp[Ym]
theorem SI (l:Aa Pt)(q:Pt)(S:Sto):gZ (ptD q) (.lst (l.map ptD)) S=.ok (.bl (!decide (q∈l))) S:=by
 have e:inI (ptD q) (.lst (l.map ptD))=Ab (decide (q∈l)):=by
  have hp:(l.map ptD).all (pl zP)=true:=Bt.mpr λx hx=>by
   obtain⟨p,_,rfl⟩:=Bk.mp hx;rfl
  show (if ((l.map ptD).all (pl zP)&&pl zP (ptD q))=true then Ab ((l.map ptD).any λx=>eqD x (ptD q)) else none)=_
  rw[hp,Bc (show (true&&pl zP (ptD q))=true from rfl)]
  congr 1
  rw[IW,Kb,Aq];constructor
  .rintro⟨x,hx,e⟩
   obtain⟨p,hp,rfl⟩:=Bk.mp hx;rw[iU,Aq] at e;rw[<- e];exact hp
  .intro hq
   exact⟨ptD q,Oe hq,by rw[iU];exact Bw rfl⟩
 unfold gZ;rw[e]
theorem oZ {m:MO}(h:S<+:S')(e:S[j]? = Ab m):S'[j]? = Ab m:=by
 obtain⟨r,rfl⟩:=h;rw[Bo (Az.mp e).1];exact e
theorem l8:0<R n↔∃ x y:Ag,x*x+y*y=n:=by
 unfold R;rw[List.length_pos_iff_exists_mem];exact⟨λ⟨⟨x,y⟩,h⟩=>⟨x,y,zN.mp h⟩,λ⟨x,y,h⟩=>⟨(x,y),zN.mpr h⟩⟩
theorem LW {a b:Af}(ha:0<R a)(hb:0<R b):0<R (a*b):=by
 obtain⟨x,y,e⟩:=l8.mp ha;obtain⟨u,v,f⟩:=l8.mp hb;exact l8.mpr ⟨x*u-y*v,x*v+y*u,by rw[Cp,<- e,<- f];grind⟩
theorem EJ (a:Af):0<R (a*a):=l8.mpr ⟨a,0,by rw[Cp];grind⟩
theorem QH:∀ W:Aa (Af × Af),0<=(W.map shw).sum
 |[]=>Hx _
 |p::W=>by
  have:=QH W;have:=QF p;rw[Bz,Fn]
  lia
theorem JY (hR:(W.map shw).sum=(R n:Ag))(S:Sto):gNe (.lst (W.map wD)) (.lst []) S=.ok (.bl (decide (0<R n))) S:=by
 have e:W.map wD=(W.map λp=>((p.1:Ag),(p.2:Ag))).map ptD:=by
  rw[Ei];rfl
 unfold gNe;rw[e,sE,Bc (show (true&&pl zP (D.lst [])) = true from rfl)]
 show Res.ok (D.bl (!zU ((W.map λp=>((p.1:Ag),(p.2:Ag))).map ptD) (([] : Aa Pt).map ptD))) S=_;rw[lX]
 congr 2
 cases W with
 |nil =>
  have:R n=0:=by
   rw[Pv,List.sum_nil] at hR
   lia
  rw[this];rfl
 |cons p W =>
  have:=QH W;have:=QF p;rw[Bz,Fn] at hR;rw[Bw (show 0<R n by lia)]
  rfl
theorem JZ {w h:Af}(hw:1<=w/\w<=6)(hh:1<=h/\h<=6)(q:Q (.lst ((brd w h).map ptD)) S):Ok (S__law_board [.int (w:Ag),.int (h:Ag)] S) Q:=by
 rw[uW];refine zB (env:=[Ab (.int (w:Ag)),Ab (.int (h:Ag))]) rfl ?_;rfl';have h2:=De hw.2 hh.2;have e:(w:Ag)*(h:Ag)=((w*h:Af):Ag):=by push_cast;rfl
 refine jY (Ds (w*h)) (λ(i:Af)=>ptD ((i:Ag)/(h:Ag),(i:Ag) % (h:Ag))) (λenv S'=>S'=S/\∃ a,env=[a,Ab (.int (h:Ag))]) (enc:=λ(i:Af)=>D.int (i:Ag)) (o:=none) (S1:=S) ?_ ⟨rfl,none,rfl⟩ (by rw[Ma];unfold lim;lia) (λ_ _ _=>trivial) (λi hi env S' ⟨e1,a,e2⟩=>?_) λenv S' ⟨e1,_⟩=>?_
 .refine wO (qS ?_)
  rfl';refine⟨by lia,by lia,?_⟩
  rw[e,Hc];exact⟨_,_,rfl,rfl,rfl⟩
 .subst e1 e2
  rfl';exact⟨_,rfl⟩
 .subst e1
  rfl';have:(Ds (w*h)).map (λ(i:Af)=>ptD ((i:Ag)/(h:Ag),(i:Ag) % (h:Ag)))=(brd w h).map ptD:=by
   unfold brd;rw[Ei];rfl
  rw[this];exact q
set_option tactic.hygienic true in
theorem W5 (c:Cl)(nd:(cK c).Nodup)(ns:Aa Ag)(hl:ns.length<=63):∃ S,qO 11 (b_law c) [.lst (ns.map D.int)] [] = .ok (.bl true) S:=by
 have key:Ok (qO 11 (b_law c) [.lst (ns.map D.int)] []) λd _=>d=.bl true:=by
  refine zB (env:=[Ab (.lst (ns.map D.int)),none,none,none,none,none,none,none,none,none,none]) rfl ?_;unfold b_law;array_get_dec;refine VS (GE ns hl 3 rfl λms=>?_);refine vA (λ_ env _=>∃ e1 e2 e3 e4 e5 e6 e7 e8 e9 e10,env=[Ab (.lst (ns.map D.int)),e1,e2,e3,e4,e5,e6,e7,e8,e9,e10]) ?_ ?_ ⟨_,_,_,_,_,_,_,_,_,_,rfl⟩
  .rintro y xs _ S ⟨e1,e2,e3,e4,e5,e6,e7,e8,e9,e10,rfl⟩
   rfl';refine SO λp S0 p0=>?_;rfl';refine yX p0 li λr1 S1 k1 h1=>?_;rfl';refine yX k1.pen li λr2 S2 k2 h2=>?_;obtain⟨w,array_get_dec,hw⟩:∃ w:Af,1+(r1:Ag)=(w:Ag)/\1<=w/\w<=6:=⟨1+r1,by lia,by lia,by lia⟩
   obtain⟨h,eh,hh⟩:∃ h:Af,1+(r2:Ag)=(h:Ag)/\1<=h/\h<=6:=⟨1+r2,by lia,by lia,by lia⟩
   have B:=iC hw hh;rfl';rw[array_get_dec,eh];clear array_get_dec eh h1 h2;refine JZ hw hh ?_;rfl';refine K5 c li (VX hw hh) λS3 p3=>?_;have hT:(tbl (zW (brd w h))).Perm (tbK (zW (brd w h))):=_S.yN _;have hlen:=hT.length_eq;rw[B.len] at hlen;have hrow:∀ k∈tbl (zW (brd w h)),lG w h k=true:=λk hk=>B.rows k (hT.mem_iff.mp hk);have hsum:((tbl (zW (brd w h))).map λk=>k.getD 1 0).sum=(w:Ag)*h*((w:Ag)*h-1)/2:=by rw[<- B.sum];exact sQ (hT.map _)
   have hbest:∀ x∈xU w h,[x.1,x.2]∈tbl (zW (brd w h)):=λx hx=>hT.mem_iff.mpr (B.best x hx);have hfew:=B.few;generalize tbl (zW (brd w h))=T at hlen hrow hsum hbest;clear hT B;have pen3:=jZ k2.pen p3;have hTl:T.length<=60:=by rw[hlen];exact hfew
   have hrow2:∀ k∈T,∃ (f:Af) (v:Ag),k=[(f:Ag),v]/\1<=f/\f<=50/\vv w h (wy8 f)=v:=λk hk=>by
    have:=hrow k hk;unfold lG at this
    split at this
    .rename_i f v
     simp only[As,Aq] at this;obtain⟨f,rfl⟩:=IM (show 0<=f by lia)
     exact⟨f,v,rfl,by lia,by lia,this.2⟩
    .cases this
   rfl';refine ML c w h rfl rfl li li λS4 p4=>?_;rfl';rw[Ar,hlen,Bw rfl];rfl';have hi:dIt (q9 5) [Ab (.lst (ns.map D.int)),Ab (.int y),Ab (.loc p),Ab (.int (w:Ag)),Ab (.int (h:Ag)),Ab (.lst (T.map tpD)),e6,e7,e8,e9,e10] S4=.ok (none,T.map tpD) S4:=XU rfl;obtain⟨S5,c5,p5⟩:=BF (cap:=[none,Ab 4,Ab 3]) (g:=gNm 0) (t:=xJ (dTr (d2 gNe (qK 3 (okO (S_grid_often c)) (q8 (q9 2) (q8 (q9 1) (q8 (d2 gIx (q9 0) (dC (.int 0))) (qA))))) (d2 gIx (q9 0) (dC (.int 1))))) (yP)) (fe:=q9 0) hi trivial (λ_=>false) (λ_=>D.non) (λenv=>∃ a,env=[a,Ab (.int (h:Ag)),Ab (.int (w:Ag))]) ⟨none,rfl⟩ (by unfold lim;lia) (λk hk env S' ⟨a,e⟩ hS=>by
    subst e;obtain⟨f,v,rfl,f1,f2,ev⟩:=hrow2 k hk;have hc:Ok (xJ (dTr (d2 gNe (qK 3 (okO (S_grid_often c)) (q8 (q9 2) (q8 (q9 1) (q8 (d2 gIx (q9 0) (dC (.int 0))) (qA))))) (d2 gIx (q9 0) (dC (.int 1))))) (yP) [Ab (tpD [(f:Ag),v]),Ab (.int (h:Ag)),Ab (.int (w:Ag))] S') λb S1=>b=false/\S'<+:S1:=by
     refine yW ?_;rfl';refine qN (d:=.int f) (S:=S') rfl ?_;rfl';refine tM c rfl li li ⟨f1,by lia⟩ λW S1 p1 hW ndW=>?_
     rfl';refine qN (d:=.int v) (S:=S1) rfl ?_;rw[QY hW ndW (Z1 f2).1 (Z1 f2).2 w h,ev];rfl';refine⟨λz=>?_,λ_=>⟨rfl,p1⟩⟩;rw[Bw rfl] at z;cases z
    obtain⟨b,S1,e1,rfl,e2⟩:=hc;exact⟨_,S1,rfl,⟨_,rfl⟩,e1,e2,λz=>by cases z⟩)
   refine qN c5 ?_;have h0:T.filter (λ_=>false)=[]:=Mi.mpr λ_ _ z=>by cases z
   rw[h0];rfl';refine qN (d:=.bl false) (S:=S5) (by kernel_rfl!) ?_
   rfl';have hwh:=De hw.2 hh.2;have hwh1:=De hw.1 hh.1;have ewh:(w:Ag)*(h:Ag)=((w*h:Af):Ag):=by push_cast;rfl
   refine jY T (λk=>D.int (k.getD 1 0)) (λenv S'=>S'=S5/\∃ a b,env=[a,b]) (XU rfl) ⟨rfl,none,none,rfl⟩ (by unfold lim;lia) (λ_ _ _=>trivial) (λk hk env S' ⟨z1,a,b,z2⟩=>?_) λenv S' ⟨z1,_⟩=>?_
   .subst z1 z2
    obtain⟨f,v,rfl,_⟩:=hrow2 k hk;exact⟨_,S',rfl,true,S',rfl,rfl,_,S',rfl,rfl,rfl,_,_,rfl⟩
   subst z1;rfl';refine VE ?_;rw[hsum];rfl';rw[Bw rfl];have p5:=p4.trans p5;rfl';refine K0 c w h rfl rfl li li li λbd S6 p6 hb=>?_;have p6:=p5.trans p6;have eT:T.map tpD=(T.map pK).map ptD:=by
    rw[Ei];exact II λk hk=>by
     obtain⟨f,v,rfl,_⟩:=hrow2 k hk;rfl
   have hbU:∀ x∈xU w h,x∈T.map pK:=λx hx=>Bk.mpr ⟨_,hbest x hx,rfl⟩;have hUl:(T.map pK).length=(xU w h).length:=by rw[Ar];exact hlen
   rw[eT];generalize T.map pK=U at hbU hUl;array_get_dec;array_get_dec;array_get_dec;array_get_dec;refine zC (Q:=λb S'=>b=false/\S'=S6) ?_ ?_
   .refine fY ?_
    rfl';rcases hb with⟨hg,rfl⟩|⟨x,hx,rfl,_,_⟩
    .have:U=[]:=Ff.mp (by rw[hUl,hg];rfl)
     subst this;refine qN (d:=.bl true) (S:=S6) rfl ?_;rfl';refine qN (d:=.bl true) (S:=S6) (by kernel_rfl!) ?_
     rfl';refine qN (d:=.bl false) (S:=S6) (by kernel_rfl!) ⟨_,rfl,(λz=>by cases z),λ_=>?_⟩
     refine yW ?_;rfl';exact qN (d:=.bl false) (S:=S6) (by kernel_rfl!) ⟨_,rfl,(λz=>by cases z),λ_=>⟨rfl,rfl⟩⟩
    .have hU:=hbU x hx
     have hne:U≠[]:=λz=>by rw[z] at hU;cases hU
     refine qN (d:=.bl false) (S:=S6) rfl ?_;rfl';refine SK (b:=[]) ?_;rw[Cc hne];rfl';refine qN (d:=.bl false) (S:=S6) (by kernel_rfl!) ⟨_,rfl,(λz=>by cases z),λ_=>?_⟩
     refine yW ?_;rfl';refine qN (d:=.bl true) (S:=S6) rfl ⟨_,rfl,λ_=>?_,λz=>by cases z⟩
     rfl';refine qN (SI U x S6) ?_;rw[Bw hU];exact⟨_,rfl,rfl,rfl⟩
   rintro _ S6 ⟨rfl,rfl⟩;have pen6:=jZ pen3 p6;rfl';refine yX pen6 li λr7 S7 k7 h7=>?_;rfl';refine qN (d:=.int 10000000) rfl ?_;rfl';refine oQ k7.pen λn8 d8 S8 k8 h8=>?_;rfl';refine qN (d:=.int (n8:Ag)) (S:=S8) rfl ?_;rfl';have e7:1+(r7:Ag)=((1+r7:Af):Ag):=by push_cast;rfl
   rw[e7];rw[show ([.int ((1+r7:Af):Ag),.int (n8:Ag)]:Aa D)=[1+r7,n8].map λ(n:Af)=>D.int (n:Ag) from rfl]
   refine vA (λl env S'=>(∀ n∈l,1<=n/\n<=10000000)/\vL S' p/\∃ e6 e7 e8 e9 e10,env=[Ab (.lst (ns.map D.int)),Ab (.int y),Ab (.loc p),Ab (.int (w:Ag)),Ab (.int (h:Ag)),Ab (.lst (U.map ptD)),e6,e7,e8,e9,e10]) ?_ ?_ ⟨?_,k8.pen,_,_,_,_,_,rfl⟩
   .rintro n l _ S9 ⟨hn,pp,e6,e7,e8,e9,e10,rfl⟩
    have h9:=hn n (.head _);rfl';refine oS c rfl h9.2 λW S10 p10 h10 hW _ ndW=>?_;have hR:=GO hW ndW;array_get_dec;array_get_dec;array_get_dec;array_get_dec;refine zC (Q:=λb S'=>b=false/\S10<+:S') ?_ ?_
    .refine fY ?_
     rfl';refine pC c ⟨h9.1,by lia⟩ λS11 p11=>?_
     have h11:=oZ p11 h10;rfl';refine MK (x:=.lst (W.map wD)) (y:=.lst []) (z:=.bl (decide (0<R n))) ?_ rfl ?_ rfl ?_
     .refine Y9 h11 λx hx=>?_
      obtain⟨q,_,rfl⟩:=Bk.mp hx;rfl
     .exact JY hR _
     rfl';refine qN (d:=.bl false) (S:=S11) (by cases decide (0<R n) <;> kernel_rfl!) ⟨_,rfl,(λz=>by cases z),λ_=>?_⟩
     rfl';refine WI c ⟨h9.1,by lia⟩ λS12 p12=>?_
     rfl';refine K4 (oZ p12 h11) ?_;rw[hR];rfl';exact⟨by rw[Bw rfl];rfl,p11.trans p12⟩
    rintro _ S12 ⟨rfl,p12⟩;rfl';refine tM c rfl li li h9 λW1 S13 p13 hW1 n1=>?_;rfl';refine tM c rfl li li h9 λW2 S14 p14 hW2 n2=>?_;rfl';rw[Cc (show ¬ vv ((w:Ag)+40) ((h:Ag)+7) W1<vv w h W2 from by
     rw[QY hW1 n1 hW2 n2];have:=RU w h W2
     lia)]
    rfl';exact jC ⟨λn h=>hn n (.tail _ h),jZ pp (p10.trans (p12.trans (p13.trans p14))),_,_,_,_,_,rfl⟩
   .rintro _ S9 ⟨_,pp,e6,e7,e8,e9,e10,rfl⟩
    rfl';refine qN (d:=.int 100000) rfl ?_;rfl';refine yX pp li λr10 S10 k10 h10=>?_;rfl';refine qN (d:=.int 100000) rfl ?_;rfl';refine yX k10.pen li λr11 S11 k11 h11=>?_;obtain⟨a,ea,ha⟩:∃ a:Af,1+(r10:Ag)=(a:Ag)/\1<=a/\a<=100000:=⟨1+r10,by lia,by lia,by lia⟩
    obtain⟨b,eb,hb⟩:∃ b:Af,1+(r11:Ag)=(b:Ag)/\1<=b/\b<=100000:=⟨1+r11,by lia,by lia,by lia⟩
    have hab:=De ha.2 hb.2;have hab1:=De ha.1 hb.1;have haa:=De ha.2 ha.2;have haa1:=De ha.1 ha.1;have eab:(a:Ag)*(b:Ag)=((a*b:Af):Ag):=by push_cast;rfl
    have eaa:(a:Ag)*(a:Ag)=((a*a:Af):Ag):=by push_cast;rfl
    have e2a:2*(a:Ag)=((2*a:Af):Ag):=by push_cast;rfl
    rfl';rw[ea,eb];clear ea eb h10 h11;refine zC (Q:=λb S'=>b=false/\S11<+:S') ?_ ?_
    .refine yW ?_
     rfl';refine pC c ⟨ha.1,by lia⟩ λS12 p12=>?_
     rfl';refine⟨λz1=>?_,λ_=>⟨rfl,p12⟩⟩;refine yW ?_;rfl';refine pC c ⟨hb.1,by lia⟩ λS13 p13=>?_
     rfl';refine⟨λz2=>?_,λ_=>⟨rfl,p12.trans p13⟩⟩;rfl';rw[eab];refine pC c ⟨hab1,by lia⟩ λS14 p14=>?_
     rw[Bw (LW (Bp z1) (Bp z2))];rfl';refine qN (d:=.bl false) (S:=S14) (by kernel_rfl!) ⟨_,rfl,rfl,p12.trans (p13.trans p14)⟩
    rintro _ S15 ⟨rfl,p15⟩;array_get_dec;array_get_dec;array_get_dec;array_get_dec;refine zC (Q:=λb S'=>b=false/\S15<+:S') ?_ ?_
    .refine fY ?_
     rfl';rw[e2a];refine WI c ⟨by lia,by lia⟩ λS16 p16=>?_
     rfl';refine WI c ⟨by lia,by lia⟩ λS17 p17=>?_
     rw[R2a];rfl';rw[Bw rfl];refine⟨(λz=>by cases z),λ_=>?_⟩
     rfl';rw[eaa];refine pC c ⟨haa1,by lia⟩ λS18 p18=>?_
     rw[Bw (EJ a)];rfl';refine qN (d:=.bl false) (S:=S18) (by kernel_rfl!) ⟨_,rfl,rfl,p16.trans (p17.trans p18)⟩
    rintro _ S19 ⟨rfl,p19⟩;rfl';exact jC ⟨_,_,_,_,_,_,_,_,_,_,rfl⟩
   .intro n hn
    rcases Bg.mp hn with rfl|hn
    .lia
    .rw[Dc.mp hn]
     exact h8
  .rintro _ S ⟨e1,e2,e3,e4,e5,e6,e7,e8,e9,e10,rfl⟩
   rfl';exact rfl
 obtain⟨d,S',e,rfl⟩:=key;exact⟨S',e⟩
end _K
namespace _K
open PySem PySem.Spec PyProof.Rows _L _D
theorem JR {P:Bi}{w:Ca}{K:Ak}{mg:Ao->Al Ac}{base:Bs}{c:Cl}(T:Txt K mg c)(nd:(cK c).Nodup)(hT:(M2.all λy=>(Dk K y).isSome)=true):∃ F,lJ P w K mg base true 7 "law" ["_law_script"] F/\∀ ns:Aa Ag,ns.length<=63->∃ S,F [.lst (ns.map D.int)] [] = .ok (.bl true) S:=by
 refine hv (λ_=>?_) (dq (cm:=true) P w base 0 0 T rfl ck (gK) ?_);refine hv (λ_=>?_) (dq (cm:=true) P w base 1 1 T rfl ck (jM) ?_);refine hv (λ_=>?_) (dq (cm:=true) P w base 0 2 T rfl ck (jL) ?_);refine hv (λ_=>?_) (dq (cm:=true) P w base 2 3 T rfl ck (uF c) ?_);refine hv (λ_=>?_) (dq (cm:=true) P w base 0 4 T rfl ck (uY) ?_);refine hv (λ_=>?_) (dq (cm:=true) P w base 3 5 T rfl ck (gM c) ?_);refine hv (λ_=>?_) (dq (cm:=true) P w base 0 6 T rfl ck (jP) ?_);refine hv (λ_=>?_) (dq (cm:=true) P w base 0 7 T rfl ck (yI) ?_);refine hv (λ_=>?_) (dq (cm:=true) P w base 1 8 T rfl ck (vP) ?_);refine hv (λ_=>?_) (dq (cm:=true) P w base 3 9 T rfl ck (bL c) ?_);refine hv (λ_=>?_) (dq (cm:=true) P w base 3 10 T rfl ck (jO c) ?_);refine hv (λ_=>?_) (dq (cm:=true) P w base 3 11 T rfl ck (j7 c) ?_);refine hv (λ_=>?_) (dq (cm:=true) P w base 0 12 T rfl ck (uG) ?_);refine hv (λ_=>?_) (dq (cm:=true) P w base 4 13 T rfl ck (uZ c) ?_);refine hv (λ_=>?_) (dq (cm:=true) P w base 1 14 T rfl ck (j6) ?_);refine hv (λ_=>?_) (dq (cm:=true) P w base 4 15 T rfl ck (jN c) ?_);refine hv (λ_=>?_) (dq (cm:=true) P w base 4 16 T rfl ck (vB c) ?_);refine hv (λ_=>?_) (dq (cm:=true) P w base 2 17 T rfl ck (gJ) ?_);refine hv (λ_=>?_) (dq (cm:=true) P w base 3 18 T rfl ck (bK) ?_);refine hv (λ_=>?_) (dq (cm:=true) P w base 4 19 T rfl ck (gL c) ?_);refine hv (λ_=>?_) (dq (cm:=true) P w base 0 20 T rfl ck (uE) ?_);refine hv (λ_=>?_) (dq (cm:=true) P w base 1 21 T rfl ck (vX) ?_);refine hv (λ_=>?_) (dq (cm:=true) P w base 5 22 T rfl ck (jK c) ?_);refine hv (λ_=>?_) (dq (cm:=true) P w base 0 23 T rfl ck (jI) ?_);refine hv (λ_=>?_) (dq (cm:=true) P w base 0 24 T rfl ck (gI) ?_);refine hv (λ_=>?_) (dq (cm:=true) P w base 0 25 T rfl ck (jJ) ?_);refine hv (λ_=>?_) (dq (cm:=true) P w base 0 26 T rfl ck (uW) ?_);refine hv (λ_=>?_) (dq (cm:=true) P w base 0 27 T rfl ck (vO) ?_);refine hv (λ_=>?_) (dq (cm:=true) P w base 1 28 T rfl ck (vW) ?_);refine hv (λ_=>?_) (dq (cm:=true) P w base 0 29 T rfl ck (uX) ?_);refine⟨_,dqP 6 30 T rfl ck ?_,W5 c nd⟩
 all_goals
  intros
  repeat' first
   |with_reducible exact ck
   |((with_reducible show QE _ _ _);with_reducible first|apply aV|apply NA|apply R7|apply NG|apply NC|apply aBt|apply aGi|apply aO|apply aN|(apply aB;first|apply LS|apply E4|apply E2|apply RZ|apply ED|apply YN)|(apply aT;first|apply PF|apply E1)|apply aC|apply NH|apply NB|apply KU|apply R9|apply WX|apply RA|apply N7|apply WV|apply ND|apply NF|apply N6|apply RB|apply R8|apply KS|apply N9|apply N8|apply Q5|apply Q6|(apply lF;(case slot=>apply Jg);(case' hm=>first|apply VU))|(apply m8;(case slot=>apply Jg);(case' hm=>first|apply VU))|(apply lF;(case slot=>apply Je);(case' hm=>first|apply sZ))|(apply m8;(case slot=>apply Je);(case' hm=>first|apply sZ))|(apply lF;(case slot=>apply Op);(case' hm=>first|apply Z4))|(apply m8;(case slot=>apply Op);(case' hm=>first|apply Z4))|(apply lF;(case slot=>apply Pa);(case' hm=>first|apply sY))|(apply m8;(case slot=>apply Pa);(case' hm=>first|apply sY)))
   |((with_reducible show _=_);first|exact T.nb ck|with_reducible apply Hi|with_reducible apply Qy|with_reducible apply Qi|with_reducible apply Rr|with_reducible apply Og|with_reducible apply Oq|with_reducible apply Pb|exact pA _|exact rfl|with_unfolding_all rfl)
   |((with_reducible show ZOp _ _ _);with_reducible first|apply RY|apply LN|apply EC|apply E7|apply E0|apply E6|apply E9|apply EB|apply CD|apply CC|apply C9|apply C8|apply E8|apply C7|apply CF|apply YM|apply CA|apply PC|apply E5|apply PD)
   |((with_reducible show RoomC _ _ _);first|assumption|exact RoomC.mono (by assumption)|exact RoomC.mono (RoomC.any (by assumption))|exact RoomC.mark (by assumption) _|exact RoomC.mono (RoomC.mark (by assumption) _))
   |((with_reducible show St1 _ _ _ _);exact⟨rfl,rfl⟩)
   |((with_reducible show DfS _ _ _ _ _ _ _ _ _ _);assumption)
   |with_reducible first|apply N5|apply Q3|apply eS|apply KP|apply N4|apply EL|apply G8|apply G9|apply G6|apply NP|apply NY|apply NW|apply Y3|(apply RD;first|apply eU|apply Q8|apply Q7|apply VI)|apply NZ|apply eU|apply Q8|apply Q7|apply VI|apply aNm|apply NK|apply NJ|apply WY|apply KY|apply NN|apply Y0|apply NO|apply KZ|apply WZ|apply NM|apply NL|apply GC|apply Y4|apply G7|apply NU|apply RC|apply GA|apply GB|apply NS|apply Y2|apply aAu|apply aP2|apply aRs|apply CB|apply LO|apply LQ|apply LP|apply LR|apply EA|apply DQ|apply Hi|apply Qy|apply Qi|apply Rr|apply Og|apply Oq|apply Pb
   |((with_reducible apply aSt);case hs=>exact rfl)
   |with_reducible apply NQ
   |exact T.rz (by kernel_rfl)
   |exact T.gi (by kernel_rfl)
   |((with_reducible show ClA _ _ _ _);first|assumption|exact ClA.tr (by assumption))
   |((with_reducible show LmX _ _ _ _ _ _ _ _ _ _);assumption)
   |((with_reducible show DfL _ _ _ _ _ _ _ _ _ _ _ _ _);assumption)
   |((with_reducible show LmK _ _);refine lmK hT (by assumption) ?_ rfl)
   |((with_reducible show ZF _ _ _ _);first|apply aFn|apply aFn0)
   |exact λ_=>⟨rfl,rfl,rfl⟩
   |(intro h;cases h;done)
   |((with_reducible show ZPass _);first|assumption|exact PM)
   |exact⟨rfl,rfl⟩
   |exact⟨rfl,rfl,rfl⟩
   |apply Q3
   |apply eS
   |decide
   |(intros;rfl)
   |(intro _ h;cases h <;> rfl)
   |intro _
end _K
namespace _K
open PySem PySem.Spec PyProof.Rows _L _D
variable {K:Ak}
theorem bdf:BdF top tab:=by
 repeat (refine⟨?_,?_⟩;(intro _ _ _ _ _ _ us h;first|(obtain⟨_,rfl⟩:=us1 h;rfl)|(obtain⟨_,_,rfl⟩:=us2 h;rfl)|(obtain⟨_,_,_,rfl⟩:=us3 h;rfl)|(obtain⟨_,_,_,_,rfl⟩:=us4 h;rfl)))
 exact trivial
theorem D0 {C0 C1 C2:Ad}(q0:Er K Ct "FarError" = Ab (Ab (.ref C0)))(q1:Er K Ct "NoLot" = Ab (Ab (.ref C1)))(q2:Er K Ct "NoNumber" = Ab (Ab (.ref C2))):cA K (clt ⟨C0,C1,C2⟩):=⟨q0,q1,q2,trivial⟩
theorem D1 {k0 k1 k2 k3 k4:Qk}(g0:Er K Ct "MOST_SIDE" = Ab (Ab (.int (100000) k0)))(g1:Er K Ct "MOST_COUNTED_SIDE" = Ab (Ab (.int (200) k1)))(g2:Er K Ct "LEAST_NUMBER" = Ab (Ab (.int (-1000) k2)))(g3:Er K Ct "MOST_NUMBER" = Ab (Ab (.int (1000) k3)))(g4:Er K Ct "MOST_POINTS" = Ab (Ab (.int (40) k4))):cB K cst:=⟨⟨_,g0⟩,⟨_,g1⟩,⟨_,g2⟩,⟨_,g3⟩,⟨_,g4⟩,trivial⟩
theorem M3 {P:Bi}{w:Ca}{mg:Ao->Al Ac}{c:Cl}{fa:Ad}(T:Txt K mg c)(nd:(cK c).Nodup)(hT:(M2.all λy=>(Dk K y).isSome)=true)(hfa:mg "law" = Ab (.ref fa)) :
  ∃ fd:Et,(∀ (s:Ah) (v:Ac),Ml s fd ⟨[v],[]⟩ [("_law_script",v)])/\∀ base:Bs,K.In base->base.Ns Ct mg->FnOk P w K mg base (CXd P w) 7 fa fd ["_law_script"] (lH K):=
 JS (T.src 30 rfl) hfa (λkV doc pm an cdv ct s v=>.of_eq rfl) λbase=>JR T nd hT
end _K
theorem PySem.W.Fast.tw17313113444274010270 : True := trivial
theorem PySem.W.Fast.tw14541283605001274631 : True := trivial
theorem PySem.W.Fast.tw17587746320668293700 : True := trivial
theorem PySem.W.Fast.tw14079718927193556363 : True := trivial
theorem PySem.W.Fast.tw11769518634347665678 : True := trivial
theorem PySem.W.Fast.tw9004607958009981170 : True := trivial
theorem PySem.W.Fast.tw15818222144257198845 : True := trivial
theorem PySem.W.Fast.tw18077107557836130378 : True := trivial
theorem PySem.W.Fast.tw16706859553878505925 : True := trivial
theorem PySem.W.Fast.tw11082843749819647001 : True := trivial
theorem PySem.W.Fast.tw6445455496509523094 : True := trivial
theorem PySem.W.Fast.tw13600069877877556610 : True := trivial
theorem PySem.W.Fast.tw17021278735193100408 : True := trivial
theorem PySem.W.Fast.tw5603270785027213278 : True := trivial
theorem PySem.W.Fast.tw10094553285039804647 : True := trivial
theorem PySem.W.Fast.tw8477674005490863453 : True := trivial
theorem PySem.W.Fast.tw677785586216447289 : True := trivial
theorem PySem.W.Fast.tw8913251170001760535 : True := trivial
theorem PySem.W.Fast.tw6299269257590022188 : True := trivial
theorem PySem.W.Fast.tw13120950006567609663 : True := trivial
theorem PySem.W.Fast.tw14622072371856871747 : True := trivial
theorem PySem.W.Fast.tw3114734847056464158 : True := trivial
theorem PySem.W.Fast.tw8381230790986912682 : True := trivial
theorem PySem.W.Fast.tw5953989883797147528 : True := trivial
theorem PySem.W.Fast.tw124828911488365361 : True := trivial
theorem PySem.W.Fast.tw11817070875855653366 : True := trivial
theorem PySem.W.Fast.tw16609370586980158840 : True := trivial
theorem PySem.W.Fast.tw2320935798555479812 : True := trivial
theorem PySem.W.Fast.tw11596945438828981557 : True := trivial
theorem PySem.W.Fast.tw15270422834638760623 : True := trivial
theorem PySem.W.Fast.tw15367023000747471697 : True := trivial
theorem PySem.W.Fast.tw12089870263443728176 : True := trivial
theorem PySem.W.Fast.tw4474265159801120649 : True := trivial
theorem PySem.W.Fast.tw15278444713817108594 : True := trivial
theorem PySem.W.Fast.tw8309890453665189528 : True := trivial
theorem PySem.W.Fast.tw1938706153615145819 : True := trivial
theorem PySem.W.Fast.tw2159410977427248737 : True := trivial
theorem PySem.W.Fast.tw15432866992862982456 : True := trivial
theorem PySem.W.Fast.tw18064026375169092389 : True := trivial
theorem PySem.W.Fast.tw2361147239659002215 : True := trivial
theorem PySem.W.Fast.tw9168667023852056613 : True := trivial
theorem PySem.W.Fast.tw3258986083311482453 : True := trivial
theorem PySem.W.Fast.tw10712012844668191830 : True := trivial
theorem PySem.W.Fast.tw1896106729481281609 : True := trivial
theorem PySem.W.Fast.tw18363521028297058794 : True := trivial
theorem PySem.W.Fast.tw6102255213943949165 : True := trivial
theorem PySem.W.Fast.tw14241603537065516754 : True := trivial
theorem PySem.W.Fast.tw11322063526096112534 : True := trivial
theorem PySem.W.Fast.tw15159369815254060755 : True := trivial
theorem PySem.W.Fast.tw1954330234735118549 : True := trivial
theorem PySem.W.Fast.tw3037804210836310170 : True := trivial
theorem PySem.W.Fast.tw1414057455048333508 : True := trivial
theorem PySem.W.Fast.tw6534105363420581262 : True := trivial
theorem PySem.W.Fast.tw990695836871746069 : True := trivial
theorem PySem.W.Fast.tw4298040112006770906 : True := trivial
theorem PySem.W.Fast.tw11719709736432001272 : True := trivial
theorem PySem.W.Fast.tw13233009127641794391 : True := trivial
theorem PySem.W.Fast.tw16755455434351047623 : True := trivial
theorem PySem.W.Fast.tw9395513012610272804 : True := trivial
theorem PySem.W.Fast.tw955692554058576708 : True := trivial
theorem PySem.W.Fast.tw8936962392053031857 : True := trivial
theorem PySem.W.Fast.tw6953338397013234001 : True := trivial
theorem PySem.W.Fast.tw13985902807549327680 : True := trivial
theorem PySem.W.Fast.tw6457123717276877434 : True := trivial
theorem PySem.W.Fast.tw5821352383681537851 : True := trivial
theorem PySem.W.Fast.tw1366279256991304939 : True := trivial
open PySem PySem.W PyProof.Rows
set_option maxRecDepth 100000 in
set_option maxHeartbeats 0 in
theorem PySem.Challenge.cw_fewdistances_k44_whole_grids_and_sums_holds : PySem.Challenge.rw_fewdistances_k44_whole_grids_and_sums.Holds := by
 w_on;o_law;k_head;(case hw=>w_witness2)
 k_fill
 refine _D.RW (l:=Nz) (k:=7) (x:="_law_script") rfl rfl ⟨rfl,by decide,by decide,rfl⟩ (λ_=>by kernel_rfl) (λw h Y=>PySem.W.km_in_of Y) ?F
 case F =>
  intro w mg fa h KX G hmg
  refine' _K.M3 (_D.RQ _K.bdf ?hp rfl KX G ?s ?z (_K.D0 ?q0 ?q1 ?q2) (_K.D1 ?gi0 ?gi1 ?gi2 ?gi3 ?gi4) ?e1 ?e2 ?e3 ?e4 ?e5 ?e6) ?nd ?hT hmg
  (case s=>(repeat (refine' ⟨_D.SrcF.mk ?a ?l ?c ?k,?_⟩;(case a=>k_is);(case l=>k_is);(case c=>k_is);(case k=>k_is)));exact trivial)
  (case z=>rfl)
  (case q0=>k_is)
  (case q1=>k_is)
  (case q2=>k_is)
  (case gi0=>k_is)
  (case gi1=>k_is)
  (case gi2=>k_is)
  (case gi3=>k_is)
  (case gi4=>k_is)
  (case hp=>intro y hy;revert hy;simp;grind)
  (case e1=>rfl)
  (case e2=>rfl)
  (case e3=>rfl)
  (case e4=>rfl)
  (case e5=>rfl)
  (case e6=>rfl)
  (case nd=>decide)
  (case hT=>rfl)
